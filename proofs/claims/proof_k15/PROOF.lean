import PyProof.Rows.All
import Wide.All
import OpenK.AllK
import Wide.FinOn
import HandS.HeadHook4
import HandS.ForMost
import HandS.SortKw
import HandS.OwnEq
import HandS.Exc
import KE.SortData
import KE.SortKeyHeap
import HandS.Lambda
import HandS.Nested
import HandS.Star
import HandS.ExcOwn
import HandS.Deep
import KE.DataFind
import HandS.ExcIs
import KE.KeyNested
import PyProof.DictMoreH
import HandS.TupLen
import HandS.Text
import KE.KDictPairs
import KE.GoesEnum
import HandS.TupAny
import HandS.Style
import PyProof.AutoSeq1
import HandS.Walk
import HandS.Rev
import HandS.TryOnly
import HandS.WordsExc
import HandS.ExcInit
import HandS.ExcField
import KE.KExcIs
import KE.KStateDown
import HandS.Head0
import HandS.Head1
import HandS.Head2
import HandS.HeadEnd
import HandS.HeadHook1
import HandS.HeadHook2
import HandS.HeadHook3
import HandS.HeadWalk
import HandS.EndTab
import HandS.IsInst
import HandS.TupMul
import HandS.Comp
import HandS.Conv
import HandS.RaiseMore
import HandS.Sort
import KE.DatumOrd
import HandS.SetFor
import HandS.Strs
import KE.KDictWalk
import KE.KDictSum
import HandS.DictTup
import PySem.Challenge.RW_neatbooks_k15_hall_refused
set_option Elab.async false
set_option linter.all false
set_option maxRecDepth 100000
/-! the hook of a head with code tables that also sees the interpreter's own statics -/
namespace NB
open PySem PySem.Spec PyProof.Rows L2
section
variable {n : Nat} {fa : List He.Fa} {fn : List He.DefD} {ts : List He.Tab} {tf : List He.Defn} {ex : PySem.W.Frag → Bool} {w : World} {h : Heap}
/-- what is seen of the places as -/
def seeY (fa : List He.Fa) (fn : List He.DefD) (ts : List He.Tab) (tf : List He.Defn) (ex : PySem.W.Frag → Bool) (g : Addr → Option Obj) (as : List Addr) : He.AlX :=
  (He.obsT fa fn ts (He.frT g as), ex (He.frT g as) && He.tabsB g tf (He.frT g as))
theorem seeY_says {as : List Addr} (e : seeY fa fn ts tf ex h.get? as = He.valX fn ts w) : He.SaysX fa fn ts tf ex w h (He.frT h.get? as) := by
  have a : (ex (He.frT h.get? as) && He.tabsB h.get? tf (He.frT h.get? as)) = true := congrArg Prod.snd e
  obtain ⟨b, c⟩ := He.ba a
  have d : ∀ p ∈ tf, PySem.W.codeHdIn (He.frT h.get? as) (He.cT (He.frT h.get? as) p).1 (He.cT (He.frT h.get? as) p).2 = true ∧ ∃ o, h.get? (He.cT (He.frT h.get? as) p).2 = some o ∧ He.emptyTab o = true := by
    intro p hp
    obtain ⟨c1, c2⟩ := He.ba (List.all_eq_true.mp c p hp)
    refine ⟨c1, ?_⟩
    revert c2
    cases h.get? (He.cT (He.frT h.get? as) p).2 with
    | none => exact fun z => nomatch z
    | some o => exact fun z => ⟨o, rfl, z⟩
  refine ⟨congrArg Prod.fst e, b, fun p hp => (d p hp).1, fun p hp => ?_, fun p hp => ?_⟩
  · obtain ⟨_, o, q, z⟩ := d p hp
    exact He.frT_none q z
  · obtain ⟨_, o, q, z⟩ := d p hp
    rw [q, He.emptyTab_eq z]
def placesY (n : Nat) (g : Addr → Option Obj) : List Addr := He.asD g n ++ [cStatics]
def hookY (n : Nat) (fa : List He.Fa) (fn : List He.DefD) (ts : List He.Tab) (tf : List He.Defn) (ex : PySem.W.Frag → Bool) : PySem.W.Hook where
  α := He.AlX
  obs := fun s => seeY fa fn ts tf ex s.heap.get? (placesY n s.heap.get?)
  val := fun w => He.valX fn ts w
  says := fun w h => ∃ K : PySem.W.Frag, K.In h ∧ He.SaysX fa fn ts tf ex w h K
  of := fun _ _ e => ⟨_, He.frT_in, seeY_says e⟩
  keeps := fun _ _ _ ⟨K, hK, c⟩ k => ⟨K, PySem.W.Frag.In.keeps hK k, ⟨c.t, c.more, c.hd, c.out, fun p hp => k _ _ (c.empty p hp)⟩⟩
theorem seeY_eq {g : Addr → Option Obj} {s : Shared} (e : ∀ a, g a = s.heap.get? a) : seeY fa fn ts tf ex g (placesY n g) = (hookY n fa fn ts tf ex).obs s := by
  rw [show g = s.heap.get? from funext e] <;> rfl
end
end NB

set_option maxHeartbeats 4000000
/-! sorted(xs), sorted(xs, key=f) of data, f an own def that only makes objects -/
namespace NB
open PySem PySem.Spec PyProof.Rows L2
/-! ### data stay -/
theorem SqL.same {K : PySem.W.Frag} {H H' : Hp} {a : Addr} {xs : List V} (h : SqL K H a xs) (e : Same H H') : SqL K H' a xs := L2.Same.seq e h
theorem SqT.same {K : PySem.W.Frag} {H H' : Hp} {a : Addr} {xs : List V} (h : SqT K H a xs) (e : Same H H') : SqT K H' a xs := L2.SqT.ext h e
end NB
namespace L2
open PySem PySem.Spec PyProof.Rows
mutual
theorem Dp.same {K : PySem.W.Frag} {H H' : Hp} (e : Same H H') : ∀ (d : PyData) (v : V), Dp K H v d → Dp K H' v d
  | .none, _, h => by cases h; exact .non
  | .bool b, _, h => by cases h; exact .bl b
  | .int i, _, h => by cases h; exact .int i
  | .str x, _, h => by cases h; exact .str x
  | .list ds, _, h => by
    cases h with
    | lst hs ha => exact .lst (NB.SqL.same hs e) (DpAll.same e ds _ ha)
  | .tuple ds, _, h => by
    cases h with
    | tup hs ha => exact .tup (NB.SqT.same hs e) (DpAll.same e ds _ ha)
  | .dict _, _, h => by cases h
theorem DpAll.same {K : PySem.W.Frag} {H H' : Hp} (e : Same H H') : ∀ (ds : List PyData) (vs : List V), DpAll K H vs ds → DpAll K H' vs ds
  | [], _, h => by cases h; exact .nil
  | d :: ds, _, h => by
    cases h with
    | cons h1 h2 => exact .cons (Dp.same e d _ h1) (DpAll.same e ds _ h2)
end
theorem DpAll.len {K : PySem.W.Frag} {H : Hp} : ∀ {vs : List V} {ds : List PyData}, DpAll K H vs ds → vs.length = ds.length
  | _, _, .nil => rfl
  | _, _, .cons _ t => congrArg (· + 1) (DpAll.len t)
theorem DpAll.get {K : PySem.W.Frag} {H : Hp} : ∀ {vs : List V} {ds : List PyData} {i : Nat} {v : V} {d : PyData}, DpAll K H vs ds → vs[i]? = some v → ds[i]? = some d → Dp K H v d
  | _, _, _, _, _, .nil, h, _ => by simp at h
  | _, _, 0, _, _, .cons h _, h1, h2 => by
    simp at h1 h2
    subst h1 h2
    exact h
  | _, _, i + 1, _, _, .cons _ t, h1, h2 => DpAll.get (i := i) t (by simpa using h1) (by simpa using h2)
theorem DpAll.app {K : PySem.W.Frag} {H : Hp} : ∀ {vs ws : List V} {ds es : List PyData}, DpAll K H vs ds → DpAll K H ws es → DpAll K H (vs ++ ws) (ds ++ es)
  | _, _, _, _, .nil, h => h
  | _, _, _, _, .cons h t, h2 => .cons h (DpAll.app t h2)
end L2
namespace NB
open PySem PySem.Spec PyProof.Rows L2
/-- the sort's result: the values by their keys -/
noncomputable def srt (xs : List V) (ds : List PyData) : List V := ((xs.zip ds).mergeSort (PySem.W.dataLe false (·.2))).map (·.1)
theorem srt_perm {xs : List V} {ds : List PyData} (h : xs.length = ds.length) : (srt xs ds).Perm xs := by
  unfold srt
  have e : (xs.zip ds).map (·.1) = xs := List.map_fst_zip (Nat.le_of_eq h)
  have q := (List.mergeSort_perm (xs.zip ds) (PySem.W.dataLe false (·.2))).map (·.1)
  rw [e] at q
  exact q
theorem each_vals {us : List Value} : ∀ {bs : List (V × PyData)}, PySem.W.EachIs (fun u (b : V × PyData) => RelV b.1 u) us bs → Vals (bs.map (·.1)) us := by
  intro bs h
  induction h with
  | nil => exact .nil
  | cons h1 _ ih => exact .cons h1 ih
theorem each_of {P : Value → PyData → Prop} : ∀ {xs : List V} {us : List Value} {ds : List PyData}, Vals xs us → (∀ (i : Nat) u d, us[i]? = some u → ds[i]? = some d → P u d) → xs.length = ds.length → PySem.W.EachIs (fun u (b : V × PyData) => RelV b.1 u ∧ P u b.2) us (xs.zip ds)
  | [], _, ds, .nil, _, _ => by
    rw [List.zip_nil_left]
    exact .nil
  | x :: xs, u :: us, [], .cons _ _, _, hl => by simp at hl
  | x :: xs, u :: us, d :: ds, .cons r t, hp, hl => by
    rw [List.zip_cons_cons]
    exact .cons ⟨r, hp 0 u d rfl rfl⟩ (each_of t (fun i u' d' h1 h2 => hp (i + 1) u' d' (by simpa using h1) (by simpa using h2)) (by simpa using hl))
theorem zip_snd {xs : List V} {ds : List PyData} (h : xs.length = ds.length) : (xs.zip ds).map (·.2) = ds := List.map_snd_zip (Nat.le_of_eq h.symm)
section
variable {X : Cx}
/-- sorted(xs), xs a list of data that are alike -/
def rSortD (K : PySem.W.Frag) : List V → Hp → VK → Prop := fun vs H Q => ∃ (a : Addr) (xs : List V) (ds : List PyData), vs = [.ref a] ∧ SqL K H a xs ∧ DpAll K H xs ds ∧ PySem.W.AllAlike ds ∧ PySem.W.Sortable ds ∧ (∀ d ∈ ds, d.depth ≤ 64) ∧
  ∀ p, H p = none → Q (.ref p) (upd H p (.lst (srt xs ds)))
theorem call_sortD (hu : X.A.units + 128 < cLine) : CallR X (.builtin "sorted") (rSortD X.K) := by
  intro pins s σ H vs us Q I r h
  obtain ⟨a, xs, ds, rfl, hs, hd, hal, hk, hdp, q⟩ := h
  obtain rfl := Vals.ref1 r
  obtain ⟨its, rv, hl, hz⟩ := I.list hs
  have hlen := hd.len
  have er : PySem.W.EachIs (fun u (b : V × PyData) => RelV b.1 u ∧ ∃ as, Reads s.heap u b.2 as) its (xs.zip ds) := by
    refine each_of (P := fun u d => ∃ as, Reads s.heap u d as) rv (fun i u d h1 h2 => ?_) hlen
    have hi : i < xs.length := by
      rw [hlen]
      exact (List.getElem?_eq_some_iff.mp h2).1
    obtain ⟨x, hx⟩ : ∃ x, xs[i]? = some x := ⟨_, List.getElem?_eq_getElem hi⟩
    obtain ⟨u', hu', ru⟩ := rv.get hx
    rw [h1] at hu'
    cases hu'
    exact Dp.reads I d x u (hd.get hx h2) ru
  have em : (xs.zip ds).map (fun b => b.2) = ds := zip_snd hlen
  have hzl : (xs.zip ds).length = xs.length := by rw [List.length_zip, ← hlen, Nat.min_self]
  refine PySem.W.sorted_data (enc := fun b : V × PyData => b.2) (R := fun u b => RelV b.1 u) (bs := xs.zip ds) hl.isList (er.mono fun _ _ z => z.1) (er.mono fun _ _ z => z.2) (by rw [em]; exact hal) (by rw [em]; exact hk) (by rw [hzl]; exact hz) (fun b hb => ?_) fun out ho eo => ?_
  · have : b.2 ∈ ds := (List.of_mem_zip hb).2
    have := hdp _ this
    omega
  · have ev := each_vals eo
    have hp := (srt_perm hlen).length_eq
    obtain ⟨ep, he'⟩ := PyProof.Rows.sortedAll_at s.heap its out.toArray
    exact ⟨.ref _, upd H (s.heap.objs.size + 1) (.lst (srt xs ds)), I.laid (t' := s.toks) (fun _ _ => PyProof.Rows.sortedAll_old) (Nat.le_succ _) ⟨by rw [hp]; exact hz, _, ep, ev, he'⟩, rfl, q _ (I.hok.fresh (Nat.le_succ _))⟩
end
end NB

namespace NB
open PySem PySem.Spec PyProof.Rows L2
section
variable {X : Cx}
theorem Env0.at' {P : Program} {w : World} {K : PySem.W.Frag} {mg : Str → Option Value} {base : Heap} {A A' : Around} {outer : List Env} {s : Shared} {H : Hp} (e : Env0 P w K mg base A outer s H) (h : A'.frames = A.frames) : Env0 P w K mg base A' outer s H :=
  ⟨h.trans e.frames, e.mod, e.bs, e.bsz, e.funs, e.frf, e.hok, e.bare⟩
/-- an own def called from within a built-in -/
theorem run_in {pins : List (Addr × Obj)} {s : Shared} {σ : L2.St} {H : Hp} {Q : VK} {us : List Value} {vs : List V} {f : Addr} {fd : FuncData} {ps : List Str} {sp : Sp} {k : Nat} {A : Around} {E : Value → Shared → Prop} (F : FnOk X.prog X.w X.K X.mg X.base L2.CX0 k f fd ps sp) (sb : L2.Sub X k A) (hb : Binds X.K fd ps [])
    (I : Inv X pins σ H s) (r : Vals vs us) (h : sp vs H Q L2.E0) : wpAny (model X.prog X.w) A (call (.ref f) us) (EP X pins σ Q) E s := by
  have hl : us.length = ps.length := by rw [← r.length]; exact F.len _ _ _ _ h
  have B := hb s us I.kIn (by rw [List.append_nil]; exact hl)
  rw [List.append_nil] at B
  refine wpAny_call (codeAny_mono (F.run A X.stack s H ⟨us, []⟩ us vs Q L2.E0 sb.room (Env0.at' I.env0 sb.fr) B r h) fun rr s' hq => ?_)
  cases rr with
  | error e => exact False.elim hq
  | ok fl =>
    cases fl with
    | ret u => exact I.after hq
    | next => exact False.elim hq
    | brk => exact False.elim hq
    | cont => exact False.elim hq
/-- sorted(xs, key=f) -/
def rSortK (K : PySem.W.Frag) (f : Addr) (sp : Sp) : List V → List V → Hp → VK → Prop := fun vs zs H Q => ∃ (a : Addr) (xs : List V) (ds : List PyData), vs = [.ref a] ∧ zs = [.ref f] ∧ SqL K H a xs ∧ xs.length = ds.length ∧ PySem.W.AllAlike ds ∧ PySem.W.Sortable ds ∧ (∀ d ∈ ds, d.depth ≤ 64) ∧
  (∀ (i : Nat) x d, xs[i]? = some x → ds[i]? = some d → ∀ H1, Same H H1 → sp [x] H1 (fun v H2 => Same H1 H2 ∧ Dp K H2 v d) L2.E0) ∧ ∀ p H1, Same H H1 → H1 p = none → Q (.ref p) (upd H1 p (.lst (srt xs ds)))
theorem each_get {α β : Type} {R : α → β → Prop} : ∀ {as : List α} {bs : List β} {i : Nat} {a : α} {b : β}, PySem.W.EachIs R as bs → as[i]? = some a → bs[i]? = some b → R a b
  | _, _, _, _, _, .nil, h, _ => by simp at h
  | _, _, 0, _, _, .cons h _, h1, h2 => by
    simp at h1 h2
    subst h1 h2
    exact h
  | _, _, i + 1, _, _, .cons _ t, h1, h2 => each_get (i := i) t (by simpa using h1) (by simpa using h2)
theorem each_snoc' {α β : Type} {R : α → β → Prop} : ∀ {as : List α} {bs : List β} {a : α} {b : β}, PySem.W.EachIs R as bs → R a b → PySem.W.EachIs R (as ++ [a]) (bs ++ [b])
  | _, _, _, _, .nil, h => .cons h .nil
  | _, _, _, _, .cons h t, h2 => .cons h (each_snoc' t h2)
theorem call_sortK {k : Nat} {f : Addr} {fd : FuncData} {ps : List Str} {sp : Sp} (F : FnOk X.prog X.w X.K X.mg X.base L2.CX0 k f fd ps sp) (hr : Room (k + 2) X.A) (hb : Binds X.K fd ps []) : CallRK X (.builtin "sorted") [Str.ofString "key"] (rSortK X.K f sp) := by
  intro pins s σ H vs zs us ws Q I r rz h
  obtain ⟨a, xs, ds, rfl, rfl, hs, hlen, hal, hk, hdp, hturn, q⟩ := h
  obtain rfl := Vals.ref1 r
  obtain rfl := Vals.ref1 rz
  obtain ⟨its, rv, hl, hz⟩ := I.list hs
  have hle : its.length = xs.length := rv.length.symm
  have hun := hr.un
  have sb2 : L2.Sub X k X.A.in1.in1 := ⟨hr.in1.in1, rfl⟩
  refine PySem.W.sorted_of_sort hl.isList (by rw [hle]; exact hz) (PyProof.Rows.ksk_s1 _ _) (fun _ => PyProof.Rows.ksk_l1 _ _) fun E' => ?_
  have ha1 : s.heap.objs.size ≤ s.heap.objs.size + 1 := Nat.le_succ _
  obtain ⟨p, hp⟩ : ∃ p, p = s.heap.objs.size + 1 := ⟨_, rfl⟩
  rw [← hp]
  rw [← hp] at ha1
  have hcp : (PySem.W.copyHeap s.heap its).get? p = some (PyProof.Rows.seqObj "list" its.toArray 0) := by
    rw [hp]
    exact PySem.W.copyHeap_at s.heap its
  have I1 : Inv X pins σ H { s with heap := PySem.W.copyHeap s.heap its } := I.kept (t' := s.toks) fun b u e => PySem.W.copyHeap_old e
  show wpAny _ _ (PyProof.Rows.ksk_tree p (.ref f) false) _ _ _
  -- the list is emptied, the keys' store is made
  obtain ⟨e1, ho1⟩ : ∃ e1, ((PySem.W.copyHeap s.heap its).update p (Obj.mapSeq fun _ => (#[] : Array Value))).get? p = some (PyProof.Rows.seqObj "list" #[] e1) := ⟨_, PyProof.Rows.get?_update_seq hcp fun _ => #[]⟩
  unfold PyProof.Rows.ksk_tree
  refine wpAny_bind (PyProof.Rows.listItems_at hcp rfl ?_)
  refine wpAny_bind (PyProof.Rows.listUpdate_at hcp rfl ?_ (by rw [List.size_toArray, hle]; exact hz) (Nat.zero_le _))
  refine wpAny_bind (PyProof.Rows.seqEpoch_at ho1 rfl ?_)
  refine wpAny_bind (wpAny_newTuple ?_ (by show its.length ≤ _; rw [hle]; exact hz))
  refine wpAny_bind (wpAny_newList ?_ (Nat.zero_le _))
  refine wpAny_holding ?_
  have fresh : ∀ {H0 : Hp} {s0 : Shared} (J : Inv X pins σ H0 s0) {t : Addr}, s0.heap.objs.size ≤ t → H0 t = none ∧ X.s_0.heap.objs.size ≤ t ∧ t ≠ X.env.locals ∧ t ∉ frs X.stack ∧ (∀ x c, X.env.cells.lookup x = some c → c ≠ t) ∧ ∀ q ∈ X.pn ++ pins, q.1 ≠ t := by
    intro H0 s0 J t ht
    have nL : t ≠ X.env.locals := Nat.ne_of_gt (Nat.lt_of_lt_of_le J.lt ht)
    refine ⟨J.hok.fresh ht, Nat.le_trans J.sz ht, nL, fun z => ?_, fun x c e z => ?_, fun q hq z => ?_⟩
    · rcases List.mem_cons.mp (J.stkSub _ z) with z | z
      · exact nL z
      · exact J.nofs ht z
    · obtain ⟨w', o, ho, _⟩ := J.cell x c e
      rw [z] at ho
      exact absurd (Heap.lt_size ho) (Nat.not_lt_of_le ht)
    · have := (J.pin q hq).1
      rw [z] at this
      exact absurd (Heap.lt_size this) (Nat.not_lt_of_le ht)
  obtain ⟨nP, pPs, pPL, pPf, pPc, pPp⟩ := fresh I ha1
  have I2 : Inv X pins σ H { s with heap := (PySem.W.copyHeap s.heap its).update p (Obj.mapSeq fun _ => (#[] : Array Value)) } :=
    Inv.turned (s := { s with heap := PySem.W.copyHeap s.heap its }) I1 (t' := s.toks) (it := p) (fun b o hb e => (Heap.get?_update_other _ (Obj.mapSeq fun _ => (#[] : Array Value)) (Ne.symm hb)).trans e) nP pPL (.inr pPs) pPc pPp
  have I3 : Inv X pins σ H { s with heap := (((PySem.W.copyHeap s.heap its).update p (Obj.mapSeq fun _ => (#[] : Array Value))).push (PyProof.Rows.seqObj "tuple" its.toArray 0)).push (PyProof.Rows.seqObj "list" #[] 0) } :=
    I2.kept (t' := s.toks) fun b u e => Heap.get?_push_of_some _ (Heap.get?_push_of_some _ e)
  obtain ⟨kS, hkS⟩ : ∃ kS, kS = (((PySem.W.copyHeap s.heap its).update p (Obj.mapSeq fun _ => (#[] : Array Value))).push (PyProof.Rows.seqObj "tuple" its.toArray 0)).objs.size := ⟨_, rfl⟩
  have nk : ((((PySem.W.copyHeap s.heap its).update p (Obj.mapSeq fun _ => (#[] : Array Value))).push (PyProof.Rows.seqObj "tuple" its.toArray 0)).push (PyProof.Rows.seqObj "list" #[] 0)).get? kS = some (PyProof.Rows.seqObj "list" #[] 0) := by
    rw [hkS]
    exact Heap.get?_push_size _ rfl
  have np0 : ((((PySem.W.copyHeap s.heap its).update p (Obj.mapSeq fun _ => (#[] : Array Value))).push (PyProof.Rows.seqObj "tuple" its.toArray 0)).push (PyProof.Rows.seqObj "list" #[] 0)).get? p = some (PyProof.Rows.seqObj "list" #[] e1) :=
    Heap.get?_push_of_some _ (Heap.get?_push_of_some _ ho1)
  have kS2 : ((PySem.W.copyHeap s.heap its).update p (Obj.mapSeq fun _ => (#[] : Array Value))).objs.size ≤ kS := by
    rw [hkS, PyProof.Rows.size_push']
    exact Nat.le_succ _
  have hpk : kS ≠ p := Nat.ne_of_gt (Nat.lt_of_lt_of_le (Heap.lt_size ho1) kS2)
  obtain ⟨nkS, kSs, kSL, kSf, kSc, kSp⟩ := fresh I2 kS2
  show wpAny _ _ (PyProof.Rows.ksk_rest p (.ref f) false its.toArray e1 (.ref (((PySem.W.copyHeap s.heap its).update p (Obj.mapSeq fun _ => (#[] : Array Value))).push (PyProof.Rows.seqObj "tuple" its.toArray 0)).objs.size)) _ _ _
  rw [← hkS]
  unfold PyProof.Rows.ksk_rest
  refine wpAny_bind (wpAny_rule ?_)
  first
    | rw [List.forIn_toArray]
    | (rw [← Array.forIn_toList]; simp only [List.toList_toArray])
    | rw [← Array.forIn_toList]
  refine wpAny_bind (PyProof.Rows.ksk_fold (fun i s' => ∃ H1 kA e vsK, Inv X pins σ H1 s' ∧ Same H H1 ∧ (H1 p = none ∧ s'.heap.get? p = some (PyProof.Rows.seqObj "list" #[] e1)) ∧ H1 kS = none ∧ s'.heap.get? kS = some (PyProof.Rows.seqObj "list" kA e) ∧ Vals vsK kA.toList ∧ DpAll X.K H1 vsK (ds.take i)) its 0 _
    ⟨H, #[], 0, [], I3, fun _ _ e => e, ⟨nP, np0⟩, nkS, nk, .nil, by rw [List.take_zero]; exact .nil⟩ ?step ?done)
  case step =>
    rintro j x s' hx ⟨H1, kA, e, vsK, J, sm, ⟨np1, ep1⟩, nk1, ek, vk, dk⟩
    simp only [Nat.zero_add] at dk ⊢
    have hj : j < its.length := (List.getElem?_eq_some_iff.mp hx).1
    obtain ⟨d, hd⟩ : ∃ d, ds[j]? = some d := ⟨_, List.getElem?_eq_getElem (by omega)⟩
    obtain ⟨y, hy⟩ : ∃ y, xs[j]? = some y := ⟨_, List.getElem?_eq_getElem (by omega)⟩
    obtain ⟨x', hx', ry⟩ := rv.get hy
    rw [hx] at hx'
    cases hx'
    have hkl : kA.size = j := by
      have h1 : vsK.length = kA.size := vk.length.trans Array.length_toList
      have h2 : vsK.length = (ds.take j).length := dk.len
      rw [List.length_take] at h2
      omega
    have hcall := F.run X.A.in1.in1 X.stack s' H1 ⟨[x], []⟩ [x] [y] (fun v H2 => Same H1 H2 ∧ Dp X.K H2 v d) L2.E0 sb2.room (Env0.at' J.env0 sb2.fr)
    have sp1 := hturn j y d hy hd H1 sm
    have hpl : [x].length = ps.length := by
      have := F.len _ _ _ _ sp1
      rw [← this]
      rfl
    have B := hb s' [x] J.kIn (by rw [List.append_nil]; exact hpl)
    rw [List.append_nil] at B
    have rc := hcall B (.cons ry .nil) sp1
    refine wpAny_bind (wpAny_attempt (wpAny_mono (Q := fun u s2 => ∃ v H2, Inv X pins σ H2 s2 ∧ RelV v u ∧ Same H1 H2 ∧ Dp X.K H2 v d ∧ (H2 p = none ∧ s2.heap.get? p = some (PyProof.Rows.seqObj "list" #[] e1)) ∧ H2 kS = none ∧ s2.heap.get? kS = some (PyProof.Rows.seqObj "list" kA e)) (E := fun _ _ => False) (wpAny_call (codeAny_mono rc fun rr s2 hq => ?_)) (fun u s2 hu => ?_) fun _ _ hF => hF.elim))
    · cases rr with
      | error er => exact False.elim hq
      | ok fl =>
        cases fl with
        | ret u =>
          obtain ⟨v, H2, os2, bare2, un, hok2, rv2, sm2, dp2⟩ := hq
          have J2 : Inv X pins σ H2 s2 := J.call' (ch := []) os2 un hok2 bare2 (fun b z => absurd z (by simp))
          exact ⟨v, H2, J2, rv2, sm2, dp2, ⟨un.free p _ ep1 np1 (by simp), un.keep p _ ep1 np1 pPf (by simp)⟩, un.free kS _ ek nk1 (by simp), un.keep kS _ ek nk1 kSf (by simp)⟩
        | next => exact False.elim hq
        | brk => exact False.elim hq
        | cont => exact False.elim hq
    · obtain ⟨v, H2, J2, rv2, sm2, dp2, ⟨np2, ep2⟩, nk2, ek2⟩ := hu
      try dsimp only
      obtain ⟨c2, hc2⟩ : ∃ c2, (s2.heap.update kS (Obj.mapSeq (·.push u))).get? kS = some (PyProof.Rows.seqObj "list" (kA.push u) c2) := ⟨_, PyProof.Rows.get?_update_seq ek2 (·.push u)⟩
      have ht : ds.take (j + 1) = ds.take j ++ [d] := by rw [List.take_add_one, hd]; simp
      refine wpAny_bind (PyProof.Rows.listUpdate_at ek2 rfl ?_ (by omega) (Nat.le_trans (Nat.le_of_eq (Array.size_push ..)) (by omega)))
      have J3 : Inv X pins σ H2 { s2 with heap := s2.heap.update kS (Obj.mapSeq (·.push u)) } :=
        J2.turned (t' := s2.toks) (it := kS) (fun b o hb e => (Heap.get?_update_other s2.heap (Obj.mapSeq (·.push u)) (Ne.symm hb)).trans e) nk2 kSL (.inr kSs) kSc kSp
      refine wpAny_pure ⟨rfl, H2, kA.push u, c2, vsK ++ [v], J3, sm.trans sm2, ⟨np2, (Heap.get?_update_other s2.heap (Obj.mapSeq (·.push u)) hpk).trans ep2⟩, nk2, hc2, ?_, ?_⟩
      · have : (kA.push u).toList = kA.toList ++ [u] := by simp
        rw [this]
        exact vk.append (.cons rv2 .nil)
      · rw [ht]
        exact (L2.DpAll.same sm2 _ _ dk).app (.cons dp2 .nil)
  case done =>
    rintro s' ⟨H1, kA, e, vsK, J, sm, ⟨np1, ep1⟩, nk1, ek, vk, dk⟩
    simp only [Nat.zero_add] at dk
    rw [List.take_of_length_le (by omega)] at dk
    try dsimp only
    have hkl : kA.size = its.length := by
      have h1 : vsK.length = kA.size := vk.length.trans Array.length_toList
      have h2 : vsK.length = ds.length := dk.len
      omega
    refine wpAny_bind (PyProof.Rows.listItems_at ek rfl ?_)
    obtain ⟨G, g1, g2⟩ := restrict s'.heap fun b => decide (b ≠ kS)
    have gk : ∀ b, b ≠ kS → G.get? b = s'.heap.get? b := fun b hb => g1 b (decide_eq_true hb)
    have gS : G.get? kS = none := g2 kS (by simp)
    have er : PySem.W.EachIs (fun u d => ∃ as, Reads s'.heap u d as) kA.toList ds := by
      have q := each_of (P := fun u d => ∃ as, Reads s'.heap u d as) vk (ds := ds) (fun i u d h1 h2 => ?_) dk.len
      · have em := PySem.W.each_map (R := fun u d => ∃ as, Reads s'.heap u d as) (fun b : V × PyData => b.2) (q.mono fun _ _ z => z.2)
        rw [zip_snd dk.len] at em
        exact em
      · obtain ⟨x, hx⟩ : ∃ x, vsK[i]? = some x := ⟨_, List.getElem?_eq_getElem (by rw [dk.len]; exact (List.getElem?_eq_some_iff.mp h2).1)⟩
        obtain ⟨u', hu', ru⟩ := vk.get hx
        rw [h1] at hu'
        cases hu'
        exact Dp.reads J d x u (dk.get hx h2) ru
    have hko : PySem.W.KeyedOut false ds its (PySem.W.sortVals (PySem.W.dataKind s'.heap ds) false kA.toList its) := ⟨s'.heap, kA.toList, hal, rfl, er⟩
    have ez : PySem.W.EachIs (fun u (b : V × PyData) => RelV b.1 u) its (xs.zip ds) := (each_of (P := fun _ _ => True) rv (fun _ _ _ _ _ => trivial) hlen).mono fun _ _ z => z.1
    have hzl : (xs.zip ds).map (fun b : V × PyData => b.2) = ds := zip_snd hlen
    refine PySem.W.keyH_end (κ := PySem.W.dataKind s'.heap ds) (h₁ := G) (fun b o hb eb => ?_) gS ek ep1 hpk (PySem.W.SortsAt.data (s := s') er hal hk fun d hd => ?_) hkl (by rw [hle]; exact hz) fun h' tk c kp hc => ⟨rfl, ?_⟩
    · by_cases hb2 : b = kS
      · rw [hb2, gS] at eb
        cases eb
      · exact (gk b hb2).symm.trans eb
    · have := hdp d hd
      have e1 : X.A.in1.in1.units = X.A.units + 2 := rfl
      omega
    · have out := PySem.W.keyedOut_each (fun b : V × PyData => b.2) (by rw [hzl]; exact hko) ez
      have ev := each_vals out
      have hpl := (srt_perm hlen).length_eq
      have kpS : ∀ b o, b ≠ p → b ≠ kS → s'.heap.get? b = some o → h'.get? b = some o := fun b o h1 h2 h3 => kp b o h1 ((gk b h2).trans h3)
      refine ⟨.ref p, upd H1 p (.lst (srt xs ds)), ?_, rfl, q p H1 sm np1⟩
      have np_ : ∀ b, H1 b ≠ none → b ≠ p := fun b h z => h (by rw [z]; exact np1)
      have nk_ : ∀ b, H1 b ≠ none → b ≠ kS := fun b h z => h (by rw [z]; exact nk1)
      have some_ : ∀ {b o}, H1 b = some o → H1 b ≠ none := fun e z => by
        rw [e] at z
        cases z
      refine J.step (g' := s'.gens) (d' := s'.drawn) (t' := tk) (ch := [p, kS]) (fun b hb => ?_) (fun b o _ _ hc e _ => kpS b o (fun z => hc (by simp [z])) (fun z => hc (by simp [z])) e) (fun b o _ _ hc e _ => ⟨o.slots, kpS b o (fun z => hc (by simp [z])) (fun z => hc (by simp [z])) e⟩)
        (fun b o hc _ n => by rw [upd_ne (fun z => hc (by simp [z]))]; exact n) (fun b o hc e => ⟨o, kpS b o (fun z => hc (by simp [z])) (fun z => hc (by simp [z])) e⟩)
        (fun b ys e => by rw [upd_ne (np_ b (some_ e))]; exact e) (fun b o u e => by rw [upd_ne (np_ b (some_ e))]; exact e) (fun b us e => ⟨#[], by rw [upd_ne (np_ b (some_ e)), e]; simp⟩) (fun m hm => ?_) (fun b u e => ?_) J.bare
      · rcases List.mem_cons.mp hb with z | z
        · rw [z]
          exact ⟨.inr pPs, pPL, pPc, pPp⟩
        · have z : b = kS := by simpa using z
          rw [z]
          exact ⟨.inr kSs, kSL, kSc, kSp⟩
      · obtain ⟨o, es, ep, ho, rr⟩ := hm
        exact ⟨o, es, ep, kpS _ o (Ne.symm pPL) (Ne.symm kSL) ho, rr⟩
      · by_cases hb : b = p
        · rw [hb, upd_same] at e
          cases e
          rw [hb]
          exact ⟨by rw [hpl]; exact hz, _, c, ev, hc⟩
        · rw [upd_ne hb] at e
          refine (J.hok b u e).stay (fun d v hd e2 => ?_) (fun d e2 => by rw [upd_ne (np_ d (some_ e2))]; exact e2) fun d ys e2 => by rw [upd_ne (np_ d (some_ e2))]; exact e2
          have hd' : H1 d ≠ none := by
            rcases hd with z | z
            · rw [z]
              exact some_ e
            · exact some_ z
          exact kpS d v (np_ d hd') (nk_ d hd') e2
end
end NB

/-! a == b, a != b of two instances by their class's own __eq__, whichever flag it gives -/
namespace NB
open PySem PySem.Spec PyProof.Rows L2
section
open PySem.W
variable {prog : Program} {w : World} {A : Around} {E : Value → Shared → Prop} {s : Shared} {K : Frag} {x C L f : Addr} {h₀ : Heap} {m : Str → Option Value} {ox : Obj} {od : Option Obj} {b tb : Value}
theorem ifBound_builtin {M : Model} {name : Str} {id : String} {args : List Value} {Q : Option Value → Shared → Prop} (X : K.In s.heap) (I : InstAt s.heap x ox C od) (hs : findIn K (.ref C) name = some (some (.builtin id))) (hb : ∀ v, bindSpecial (.builtin id) v = pure (.builtin id, [v]))
    (h : wpAny M A (call (.builtin id) (.ref x :: args)) (fun v => Q (some v)) E s) : wpAny M A (callSpecialIfBound? (.ref x) name args) Q E s := by
  simp only [callSpecialIfBound?, bindSpecialIfBound?]
  refine wpAny_holding (wpAny_bind (wpAny_bind (wpAny_bind (I.type.here ((looks_findIn X hs).here ?_)))))
  simp only [hb]
  have fin : wpAny M A (call (.builtin id) ([.ref x] ++ args) >>= fun v => pure (some v)) Q E s := wpAny_bind (wpAny_mono h (fun v s' h' => wpAny_pure h') fun _ _ h' => h')
  refine wpAny_bind (wpAny_askSetting (wpAny_ite ?_))
  split
  · exact wpAny_bind (wpAny_pure (wpAny_pure fin))
  · exact wpAny_tryCatch (wpAny_bind (wpAny_pure (wpAny_pure fin)))
theorem ne_own {Q : Value → Shared → Prop} (hu : A.units + 1 < cLine) (hF : Fr h₀ L s.heap m) (X₀ : K.In h₀) (I : InstAt s.heap x ox C od) (hb : Looks (model prog w) s.heap (typeOf b) tb) (hn : notFirst K C tb = true)
    (he : findIn K (.ref C) "__eq__" = some (some (.ref f))) (hf : isFn K (.ref f) = true) (hne : findIn K (.ref C) "__ne__" = some (some (.builtin "object.__ne__"))) (hm : mroIn K C (.type "object") = some true)
    (h : wpAny (model prog w) A.in1 (call (.ref f) [.ref x, b]) (fun v s' => ∃ k, v = .bool k ∧ Q (.bool (!k)) s') E s) : wpAny (model prog w) A (richCompare .NotEq (.ref x) b) Q E s := by
  have X := X₀.keeps hF.keep
  have SN := PySem.F.cmp_object.ne
  have sub : Looks (model prog w) s.heap (isInstance (.ref x) (.type "object")) true := I.type.andThen (looks_mroIn X hm)
  have entry : wpAny (model prog w) A.in1 (Builtin.«object.__ne__» ⟨[.ref x, b], []⟩) (fun fl s' => ∃ v, fl = .done (.ret v) ∧ (v ≠ .notImplemented ∧ Q v s')) E s := by
    unfold Builtin.«object.__ne__»
    refine wpAny_bind (wpAny_pure ?_)
    refine wpAny_bind (wpAny_cRoomFor (show A.in1.units < cLine from hu) ?_)
    refine wpAny_bind (ifBound_K X I he hf (wpAny_mono h (fun v s' hv => ?_) fun _ _ e => e))
    obtain ⟨k, rfl, hq⟩ := hv
    dsimp only
    exact wpAny_bind (wpAny_truthy_bool (wpAny_pure ⟨_, rfl, (fun z => by cases z), hq⟩))
  have one : wpAny (model prog w) A (tryCompare (.ref x) "__ne__" b) (fun r s' => ∃ v, r = some v ∧ Q v s') E s := by
    unfold tryCompare
    refine wpAny_bind (ifBound_builtin X I hne SN.bind (wpAny_call (codeAny_call_builtin SN.plain PySem.F.cmpEntry_ne
      (check_slot PySem.F.cmpKind_ne PySem.F.cmpSplit_ne sub (PySem.F.cmpArgs_ne _ _) ?_))))
    refine wpAny_mono entry (fun fl s' hv => ?_) fun _ _ e => e
    obtain ⟨v, rfl, hne', hq⟩ := hv
    show wpAny _ _ _ _ _ _
    cases v <;> first | exact absurd rfl hne' | exact wpAny_pure ⟨_, rfl, hq⟩
  unfold richCompare
  simp only [oneThing_ref]
  refine wpAny_holding (wpAny_bind (wpAny_cRoomFor (Nat.lt_of_succ_lt hu) ?_))
  rw [cmpInfo_NotEq]
  dsimp only
  refine wpAny_bind (I.type.here (wpAny_bind (hb.here ?_)))
  split
  · rename_i q
    have e : subIn K tb (.ref C) = some false := by
      rcases Bool.or_eq_true_iff.mp hn with e | e
      · rw [beq_iff_eq.mp e] at q; simp at q
      · exact beq_iff_eq.mp e
    refine wpAny_bind ((looks_subIn X e).here ?_)
    simp only [Bool.false_eq_true, if_false]
    refine wpAny_bind (wpAny_mono one (fun r s' z => ?_) fun _ _ e => e)
    obtain ⟨v, rfl, hq⟩ := z
    exact wpAny_pure hq
  · refine wpAny_bind (wpAny_pure ?_)
    simp only [Bool.false_eq_true, if_false]
    refine wpAny_bind (wpAny_mono one (fun r s' z => ?_) fun _ _ e => e)
    obtain ⟨v, rfl, hq⟩ := z
    exact wpAny_pure hq
end
/-- the class's == -/
structure OwnEqC (K : PySem.W.Frag) (C f : Addr) : Prop where
  eq : PySem.W.findIn K (.ref C) "__eq__" = some (some (.ref f))
  fn : PySem.W.isFn K (.ref f) = true
  ne : PySem.W.findIn K (.ref C) "__ne__" = some (some (.builtin "object.__ne__"))
  ob : PySem.W.mroIn K C (.type "object") = some true
def rOwn (C : Addr) (sp : Sp) (g : Bool → Bool) : R2 := fun x y H Q => ∃ a b dx dy fs gs, x = .ref a ∧ y = .ref b ∧ H a = some (.ins C dx fs) ∧ H b = some (.ins C dy gs) ∧ sp [.ref a, .ref b] H (fun v H' => ∃ k, v = .bl k ∧ Q (.bl (g k)) H') L2.E0
section
variable {X : Cx} {k : Nat} {C f : Addr} {fd : FuncData} {ps : List Str} {sp : Sp}
theorem op_ownNe (F : FnOk X.prog X.w X.K X.mg X.base L2.CX0 k f fd ps sp) (T : OwnEqC X.K C f) (hb : Binds X.K fd ps []) (hr : Room (k + 1) X.A) : OpR X (compareOp .NotEq) (rOwn C sp not) := by
  intro pins s σ H x y v u Q I rx ry h
  obtain ⟨a, b, dx, dy, fs, gs, rfl, rfl, ha, hb', hq⟩ := h
  cases rx
  cases ry
  obtain ⟨mA, J, _⟩ := ins_get I.hok ha
  obtain ⟨mB, J', _⟩ := ins_get I.hok hb'
  obtain ⟨od, J, _⟩ := J.look
  obtain ⟨od', J', _⟩ := J'.look
  obtain ⟨m, hF⟩ := I.fr
  show wpAny (model X.prog X.w) X.A (richCompare .NotEq (.ref a) (.ref b)) (EP X pins σ Q) X.xe s
  have hun := hr.un
  refine ne_own (tb := .ref C) (by omega) hF I.ok.mod.kin J J'.type (by simp [PySem.W.notFirst]) T.eq T.fn T.ne T.ob ?_
  refine wpAny_mono (run_in F ⟨hr.in1, rfl⟩ hb I (vs := [.ref a, .ref b]) (.cons rfl (.cons rfl .nil)) hq) (fun v s' z => ?_) fun _ _ e => e
  obtain ⟨v, H', I', rv, kk, rfl, q⟩ := z
  cases rv
  exact ⟨kk, rfl, .bl _, H', I', rfl, q⟩
theorem op_ownEq (F : FnOk X.prog X.w X.K X.mg X.base L2.CX0 k f fd ps sp) (T : OwnEqC X.K C f) (hb : Binds X.K fd ps []) (hr : Room k X.A) : OpR X (compareOp .Eq) (rOwn C sp id) := by
  intro pins s σ H x y v u Q I rx ry h
  obtain ⟨a, b, dx, dy, fs, gs, rfl, rfl, ha, hb', hq⟩ := h
  cases rx
  cases ry
  obtain ⟨mA, J, _⟩ := ins_get I.hok ha
  obtain ⟨mB, J', _⟩ := ins_get I.hok hb'
  obtain ⟨od, J, _⟩ := J.look
  obtain ⟨od', J', _⟩ := J'.look
  obtain ⟨m, hF⟩ := I.fr
  show wpAny (model X.prog X.w) X.A (richCompare .Eq (.ref a) (.ref b)) (EP X pins σ Q) X.xe s
  refine PySem.W.cmp_K (op := .Eq) (tb := .ref C) hr.units0 hF I.ok.mod.kin J J'.type (by simp [PySem.W.notFirst]) T.eq T.fn ?_
  refine wpAny_mono (run_in F ⟨hr, rfl⟩ hb I (vs := [.ref a, .ref b]) (.cons rfl (.cons rfl .nil)) hq) (fun v s' z => ?_) fun _ _ e => e
  obtain ⟨v, H', I', rv, kk, rfl, q⟩ := z
  cases rv
  exact ⟨.bl _, H', I', rfl, q⟩
end
end NB

/-! a lambda with parameters, handed as the second argument to a def g(x, maker), which calls it -/
namespace NB
open PySem PySem.Spec PyProof.Rows L2 LamX NdefX
/-- a lambda's words as a nested def's (the body apart) -/
abbrev lamF (qual : Str) (params : Arguments) (scope : Scope) (cl : List (Str × Addr)) (c : Addr) : NF := ⟨"<lambda>", qual, params, [], scope, cl, c⟩
section
variable {P : Program} {w : World} {K : PySem.W.Frag} {mg : Str → Option Value} {base : Heap} {N ps fr : List Str} {f : Addr}
/-- the call of a lambda's object: its body's reading over the parameters and what its cells hold -/
theorem lam_run {A : Around} {outer : List Env} {s : Shared} {H : Hp} {us : List Value} {vs : List V} {ws : List (Option V)} {Q : VK} {qual : Str} {params : Arguments} {body : Expr} {scope : Scope} {cl : List (Str × Addr)} {c : Addr} {pm ctv : Value} {tb : TE} {k : Nat}
    (S : NScope N ps fr scope) (hbind : bindArgs (PySem.W.kla_fn "<lambda>" qual params body scope cl pm (.ref c) ctv) ⟨us, []⟩ = pure (ps.zip us)) (hr : Room (k + 1) A) (e0 : Env0 P w K mg base A outer s H)
    (hf : s.heap.get? f = some (PySem.W.kla_obj "<lambda>" qual params body scope cl pm c ctv)) (hc : H c = some (CodeO c qual)) (C : CellsAt cl fr ws s.heap H) (r : Vals vs us) (hl : vs.length = ps.length)
    (hb : Room k (A.deeper (envF (lamF qual params scope cl c) f s.heap.objs.size)) → PE (ncx L2.CX0 P w K mg base N (lamF qual params scope cl c) f A outer s H L2.E0) body tb) (hq : tb (startF N vs ws) H Q) :
    codeAny (model P w) A (.call (.ref f) ⟨us, []⟩) (CR L2.CX0 outer P w H s Q L2.E0) s := by
  have lim : s.heap.NoLimit := e0.mod.nolimit.keeps fun b o e => (e0.bs b o e).1
  obtain ⟨c2, oc, vs2, t, ec, hoc, hdc, hvc⟩ := codeO_at e0.hok hc
  refine PySem.W.kla_callFunE hr.depth hf rfl S.co S.gen rfl ⟨c2, oc, vs2, t, ec, hoc, hdc, hvc⟩ ?_
  rw [hbind]
  refine wpAny_pure (wpAny_newFunctionEnv S.nocell (fun ⟨n, _⟩ hy => S.par n (List.of_mem_zip hy).1) (fun h₁ hns hsb => ⟨lim.fresh _ hsb, ?_⟩) S.kind)
  show codeAny _ _ (.expr body (envF (lamF qual params scope cl c) f s.heap.objs.size)) _ _
  have kp : ∀ b o, s.heap.get? b = some o → h₁.get? b = some o := fun b o e => hsb.extBut b o (Nat.ne_of_lt (Heap.lt_size e)) (Heap.get?_push_of_some _ e)
  have J : Inv (ncx L2.CX0 P w K mg base N (lamF qual params scope cl c) f A outer s H L2.E0) [] (startF N vs ws) H { s with heap := h₁, toks := s.toks + (ps.zip us).length } :=
    inv_startN (F := lamF qual params scope cl c) S hr.hd e0 hl r C hns kp
  refine PySem.W.kla_codeExpr (wpAny_mono ((hb (hr.deeper _)).run [] _ _ H Q J hq) (fun v s' hv => ?_) fun e s' he => he)
  obtain ⟨w', H', J', rv, q⟩ := hv
  exact ⟨w', H', J'.os, J'.bare, J'.base, J'.hok, rv, q⟩
end

/-! ### maker(..) in the def that got the lambda -/
/-- what the def's frame Z knows of the lambda's object at f from its entry on -/
structure LamAt (Z : Cx) (f c : Addr) (qual : Str) (params : Arguments) (body : Expr) (scope : Scope) (cl : List (Str × Addr)) (fr : List Str) (ws : List (Option V)) : Prop where
  obj : ∃ pm ctv, Z.s_0.heap.get? f = some (PySem.W.kla_obj "<lambda>" qual params body scope cl pm c ctv)
  free : Z.H_0 f = none
  nofr : f ∉ Z.fs
  noex : f ∉ Z.ex
  cells : CellsAt cl fr ws Z.s_0.heap Z.H_0
  cfr : ∀ y a, cl.lookup y = some a → a ∉ Z.fs
  cex : ∀ y a, cl.lookup y = some a → a ∉ Z.ex
/-- maker(e, ..): f stands in the slot i -/
def tMaker (i : Nat) (f c : Addr) (qual : Str) (msp : List V → Hp → VK → Prop) (t : TA) : TE := fun σ H Q => σ[i]? = some (some (.ref f)) ∧ t σ H fun vs H1 => H1 c = some (CodeO c qual) ∧ msp vs H1 Q
theorem pe_maker {Z : Cx} {f c : Addr} {qual : Str} {params : Arguments} {body : Expr} {scope : Scope} {cl : List (Str × Addr)} {N ps fr : List Str} {ws : List (Option V)} {k i : Nat} {x : Str} {e : Expr} {es : List Expr} {t : TA} {p pos : Pos} {msp : List V → Hp → VK → Prop}
    (L : LamAt Z f c qual params body scope cl fr ws) (S : NScope N ps fr scope) (hbind : ∀ (pm cv ctv : Value) (us : List Value), us.length = ps.length → bindArgs (PySem.W.kla_fn "<lambda>" qual params body scope cl pm cv ctv) ⟨us, []⟩ = pure (ps.zip us))
    (hr : Room (k + 1) Z.A) (hsp : ∀ vs H Q, msp vs H Q → vs.length = ps.length)
    (hb : ∀ (A : Around) (outer : List Env) (s : Shared) (H : Hp) (vs : List V) (Q : VK), Room k (A.deeper (envF (lamF qual params scope cl c) f s.heap.objs.size)) → msp vs H Q →
      ∃ tb, PE (ncx L2.CX0 Z.prog Z.w Z.K Z.mg Z.base N (lamF qual params scope cl c) f A outer s H L2.E0) body tb ∧ tb (startF N vs ws) H Q)
    (hN : Z.N[i]? = some x) (hv : Vis Z.env.scope x) (ha : PA Z (e :: es) t) (hd : (x == ("__debug__" : Str)) = false := by decide) (hcd : (x == ("__classdict__" : Str)) = false := by decide)
    (he : starEach (e :: es) Z.env = (false, eval e Z.env) :: starEach es Z.env := by rfl) (hpl : (backTo pos (starEach es Z.env)).any (·.1) = false := by rfl) :
    PE Z (.Call (.Name x p) (e :: es) [] pos) (tMaker i f c qual msp t) := by
  refine ⟨fun pins s σ H Q I h => ?_⟩
  obtain ⟨hs, ht⟩ := h
  obtain ⟨pm, ctv, hobj⟩ := L.obj
  have at_ : ∀ {pins σ H s}, Inv Z pins σ H s → s.heap.get? f = some (PySem.W.kla_obj "<lambda>" qual params body scope cl pm c ctv) := fun I => I.base.keep f _ hobj L.free L.nofr L.noex
  refine wpAny_Call_Name_kw (thn ((pe_var (pos := p) hN hv hd hcd).run pins s σ H (fun v H1 => v = .ref f ∧ H1 = H) I ⟨.ref f, hs, rfl, rfl⟩) fun u s1 ⟨v, H1, I1, r1, q1⟩ => ?_)
  obtain ⟨ev, eH⟩ := q1
  subst ev
  rw [eH] at I1
  obtain rfl : u = Value.ref f := r1
  refine PySem.W.callWith_F (first := []) ⟨_, _, _, _, at_ I1⟩ (thn (ha.run pos pins s1 σ H _ I1 ht) fun us s2 ⟨vs, H2, I2, r, hc, q⟩ => ⟨⟨_, _, _, _, at_ I2⟩, ?_⟩) he hpl
  show wpAny _ _ (call (.ref f) us) _ _ _
  have hl := hsp _ _ _ q
  obtain ⟨tb, hB, hq⟩ : ∃ tb, (Room k (Z.A.deeper (envF (lamF qual params scope cl c) f s2.heap.objs.size)) → PE (ncx L2.CX0 Z.prog Z.w Z.K Z.mg Z.base N (lamF qual params scope cl c) f Z.A Z.stack s2 H2 L2.E0) body tb) ∧ tb (startF N vs ws) H2 Q := by
    obtain ⟨tb, h1, h2⟩ := hb Z.A Z.stack s2 H2 vs Q (hr.deeper _) q
    exact ⟨tb, fun _ => h1, h2⟩
  have hb2 := hbind pm (.ref c) ctv us (by rw [← r.length]; exact hl)
  refine wpAny_call (codeAny_mono (lam_run (ws := ws) (k := k) S hb2 hr I2.env0 (at_ I2) hc (L.cells.later L.cfr L.cex I2) r hl hB hq) fun rr s' hq' => ?_)
  cases rr with
  | error er => exact False.elim hq'
  | ok fl =>
    cases fl with
    | ret u => exact I2.after hq'
    | next => exact False.elim hq'
    | brk => exact False.elim hq'
    | cont => exact False.elim hq'

/-! ### g(e, lambda ..: body) -/
/-- the context of g's body, entered at s -/
abbrev gcx (X : Cx) (Ng : List Str) (x : Str) (sg : Scope) (g : Addr) (cdg : Value) (s : Shared) (H : Hp) : Cx := (cxOf L2.CX0 X.prog X.w X.K X.mg X.base Ng x sg g cdg X.A X.stack s H L2.E0).nox
/-- g's body, whatever the maker at its second slot promises: TT is g's promise over the maker's -/
def GivesM (X : Cx) (Ng : List Str) (x : Str) (sg : Scope) (g : Addr) (cdg : Value) (bg : List Stmt) (a : Str) (TT : (List V → Hp → VK → Prop) → V → Hp → VK → Prop) : Prop :=
  ∀ (f c : Addr) (q : Str) (s : Shared) (H : Hp) (v : V) (Q : VK) (msp : List V → Hp → VK → Prop),
    (∀ (e : Expr) (es : List Expr) (t : TA) (p pos : Pos), PA (gcx X Ng x sg g cdg s H) (e :: es) t → starEach (e :: es) (gcx X Ng x sg g cdg s H).env = (false, eval e (gcx X Ng x sg g cdg s H).env) :: starEach es (gcx X Ng x sg g cdg s H).env →
      (backTo pos (starEach es (gcx X Ng x sg g cdg s H).env)).any (·.1) = false → PE (gcx X Ng x sg g cdg s H) (.Call (.Name a p) (e :: es) [] pos) (tMaker 1 f c q msp t)) →
    H c = some (CodeO c q) → TT (fun vs H1 Q1 => H1 c = some (CodeO c q) ∧ msp vs H1 Q1) v H Q →
    ∃ t, PSs (gcx X Ng x sg g cdg s H) bg t ∧ t { nx := fun _ H' => Q .non H', rt := Q } (L2.start Ng [v, .ref f]) H
def tLamP (T : List (Addr × Str)) (q : Str) (TT : (List V → Hp → VK → Prop) → V → Hp → VK → Prop) (js : List Nat) (msp : List (Option V) → List V → Hp → VK → Prop) (t1 : TE) : TE := fun σ H Q => t1 σ H fun v H1 => Tabs T H1 ∧
  ∀ H2 c, ExtN H1 H2 → Tabs T H2 → H2 c = some (CodeO c q) → TT (fun vs H3 Q3 => H3 c = some (CodeO c q) ∧ msp (js.map (slotAt σ)) vs H3 Q3) v H2 Q
section
variable {X : Cx}
theorem pe_lamP {T : List (Addr × Str)} {TT : (List V → Hp → VK → Prop) → V → Hp → VK → Prop} {x a : Str} {ag : Str} {g c P : Addr} {k : Nat} {pg : Arguments} {bg : List Stmt} {sg : Scope} {dV kV doc pm cdv ct oc : Value} {an od : Option Addr} {osl : Array (Option Value)} {Ng N ps fr : List Str}
    {params : Arguments} {body : Expr} {scope : Scope} {e1 : Expr} {t1 : TE} {p lpos pos : Pos} {js : List Nat} {msp : List (Option V) → List V → Hp → VK → Prop} (hg : Gl X x) (hm : X.mg x = some (.ref g)) (hk : PySem.W.keepIn X.K (.ref g) = true)
    (lk : X.K.lookup g = some ⟨oc, od, .func (PySem.W.fnOf x x pg bg sg dV kV doc pm an cdv ct), osl⟩) (hcg : PySem.W.codeIn X.K cdv x = true) (hb : L2.Binds X.K (PySem.W.fnOf x x pg bg sg dV kV doc pm an cdv ct) [ag, a] []) (Sg : FnScope Ng [ag, a] sg) (hNg : Ng[1]? = some a) (hva : Vis sg a)
    (hG : GivesM X Ng x sg g cdv bg a TT)
    (TB : TabB X.base X.mg c P) (hcode : X.env.code = .ref c) (hmT : (P, X.env.qual ++ "<lambda>") ∈ T) (hu : ∀ p ∈ T, p.1 = P → p.2 = X.env.qual ++ "<lambda>") (hr : Room (k + 2) X.A) (hdef : defaultsOf params X.env = ([], []))
    (hsc : ndefB X.env.scope scope fr = true) (hjs : js.map (fun j => X.N[j]?) = fr.map some) (S : NScope N ps fr scope)
    (hbind : ∀ (q : Str) (cl : List (Str × Addr)) (pm cv ctv : Value) (us : List Value), us.length = ps.length → bindArgs (PySem.W.kla_fn "<lambda>" q params body scope cl pm cv ctv) ⟨us, []⟩ = pure (ps.zip us))
    (hsp : ∀ ws vs H Q, msp ws vs H Q → vs.length = ps.length)
    (hbody : ∀ (A : Around) (outer : List Env) (s : Shared) (H : Hp) (f c' : Addr) (cl : List (Str × Addr)) (ws : List (Option V)) (vs : List V) (Q : VK), Room k (A.deeper (envF (lamF (X.env.qual ++ "<lambda>") params scope cl c') f s.heap.objs.size)) → msp ws vs H Q →
      ∃ tb, PE (ncx L2.CX0 X.prog X.w X.K X.mg X.base N (lamF (X.env.qual ++ "<lambda>") params scope cl c') f A outer s H L2.E0) body tb ∧ tb (startF N vs ws) H Q)
    (h1 : PE X e1 t1) (hdb : (x == ("__debug__" : Str)) = false := by decide) (hd : (a == ("__debug__" : Str)) = false := by decide) (hcd : (a == ("__classdict__" : Str)) = false := by decide)
    (hfn0 : ∀ y, X.fn y = true := by intro _; rfl)
    (hst : ∀ l, starEach [e1, .Lambda params body scope l] X.env = [(false, eval e1 X.env), (false, eval (.Lambda params body scope l) X.env)] := by intro _; rfl) :
    PE X (.Call (.Name x p) [e1, .Lambda params body scope lpos] [] pos) (tLamP T (X.env.qual ++ "<lambda>") TT js msp t1) := by
  refine ⟨fun pins s σ H Q I h => ?_⟩
  have hfree : ∀ y ∈ scope.names, y.2 = .free → ∃ c, X.env.cells.lookup y.1 = some c := fun y hy e => (ndef_free hsc y hy e).elim (fun z => I.ok.has _ (.inl z)) fun z => I.ok.has _ (.inr z)
  refine wpAny_Call_Name_kw (ld_glob I hg hm ?_ hdb)
  refine PySem.W.callWith_K (h₀ := X.base) I.ok.mod.kin hk ?_ (hst lpos) (by rfl)
  rw [hst lpos]
  show wpAny _ _ (spliced [(false, eval e1 X.env), (false, eval (.Lambda params body scope lpos) X.env)]) _ _ s
  refine Calls.spliced_cons (thn (h1.run pins s σ H _ I h) fun u1 s1 ⟨v, H1, I1, r1, hT, q1⟩ => ?_)
  refine Calls.spliced_cons (lam_make2 I1 TB hcode hmT hu hT hdef hfree fun f c' pm' ctv H2 s2 I2 eN T2 hf hfn hfr hco => ?_)
  refine Calls.spliced_nil ⟨I2.kIn, ?_⟩
  have hsub : ∀ y b, (cloFrom X.env.cells scope.names []).lookup y = some b → X.env.cells.lookup y = some b := fun y b e => clo_cm hfree e
  have nofs : ∀ y b, (cloFrom X.env.cells scope.names []).lookup y = some b → b ∉ frs X.stack := fun y b e z => by
    have e' := hsub y b e
    rcases List.mem_cons.mp (I2.stkSub b z) with q | q
    · exact I2.cne y b e' q
    · obtain ⟨_, o', ho', _⟩ := I2.ok.funs.mem q
      exact absurd (Heap.lt_size ho') (Nat.not_lt_of_le (I2.ok.cab y b (hfn0 y) e'))
  have rc : codeAny (model X.prog X.w) X.A (.call (.ref g) ⟨[u1, .ref f], []⟩) (CR L2.CX0 X.stack X.prog X.w H2 s2 Q L2.E0) s2 := by
    refine run_ofS (N := Ng) (ps := [ag, a]) (us := [u1, .ref f]) (vs := [v, .ref f]) lk hcg Sg hr I2.env0 (hb s2 [u1, .ref f] I2.kIn rfl) (.cons r1 (.cons rfl .nil)) rfl fun hr' => ?_
    have L : LamAt (gcx X Ng x sg g cdv s2 H2) f c' (X.env.qual ++ "<lambda>") params body scope (cloFrom X.env.cells scope.names []) fr (js.map (slotAt σ)) :=
      { obj := ⟨pm', ctv, hf⟩
        free := hfn
        nofr := hfr
        noex := fun z => nomatch (show f ∈ ([] : List Addr) from z)
        cells := cells_of I2 (Caps.made I2.ok (ndef_free hsc) (ndef_fr hsc) hjs)
        cfr := nofs
        cex := fun _ _ _ z => nomatch (show _ ∈ ([] : List Addr) from z) }
    obtain ⟨t', ht', hq'⟩ := hG f c' (X.env.qual ++ "<lambda>") s2 H2 v Q (msp (js.map (slotAt σ))) (fun e es t p1 pos1 hA he hpl =>
      pe_maker L S (fun pm cv ctv us hl => hbind _ _ pm cv ctv us hl) hr' (fun vs H Q q => hsp _ vs H Q q) (fun A outer s H vs Q hr2 hm2 => hbody A outer s H f c' _ _ vs Q hr2 hm2) hNg hva hA hd hcd he hpl) hco (q1 H2 c' eN T2 hco)
    exact ⟨t', ht'.nox, hq'⟩
  refine wpAny_call (codeAny_mono rc fun r s' hq => ?_)
  cases r with
  | error e => exact (show False from hq).elim
  | ok fl =>
    cases fl with
    | ret u => exact I2.after hq
    | next => exact False.elim hq
    | brk => exact False.elim hq
    | cont => exact False.elim hq
end
end NB

/-! a call of an expression that gives a def; l.count(x) -/
namespace NB
open PySem PySem.Spec PyProof.Rows L2
/-- f(e, ..), f an expression that gives one of the defs S -/
def tCallXS (S : Addr → Sp → Prop) (E : L2.St → XK) (tf : TE) (t : TA) : TE := fun σ H Q => tf σ H fun y H1 => ∃ f sp, y = V.ref f ∧ S f sp ∧ t σ H1 fun vs H2 => sp vs H2 Q (E σ)
section
variable {X : Cx} {CX : CXT} {k : Nat} {S : Addr → Sp → Prop} {E : L2.St → XK} {fe e : Expr} {es : List Expr} {tf : TE} {t : TA} {pos : Pos}
theorem pe_callXS (A : ∀ f sp, S f sp → ∃ (fd : FuncData) (ps : List Str), FnOk X.prog X.w X.K X.mg X.base CX k f fd ps sp ∧ PySem.W.keepIn X.K (.ref f) = true ∧ Binds X.K fd ps []) (hr : Room k X.A) (hx : ∀ σ, PassesAt CX X σ (E σ)) (hf : PE X fe tf) (ha : PA X (e :: es) t)
    (ht : eval (.Call fe (e :: es) [] pos) X.env = (do callWith pos (← eval fe X.env) [] (backTo pos (starEach (e :: es) X.env)) (backToKw pos (keywordEach [] X.env))) := by rfl)
    (he : starEach (e :: es) X.env = (false, eval e X.env) :: starEach es X.env := by rfl) (hpl : (backTo pos (starEach es X.env)).any (·.1) = false := by rfl) : PE X (.Call fe (e :: es) [] pos) (tCallXS S E tf t) := by
  refine ⟨fun pins s σ H Q I h => ?_⟩
  refine PyProof.Rows.Call_ (thn (hf.run pins s σ H _ I h) fun u s1 ⟨y, H1, I1, ry, f, sp, ey, hS, q⟩ => ?_) ht
  subst ey
  obtain rfl : u = Value.ref f := ry
  obtain ⟨fd, ps, F, hk, hb⟩ := A f sp hS
  refine PySem.W.callWith_K (h₀ := X.base) I1.ok.mod.kin hk (thn (ha.run pos pins s1 σ H1 _ I1 q) fun us s2 ⟨vs, H2, I2, r, q2⟩ => ⟨I2.kIn, ?_⟩) he hpl
  exact run_fnS F hr hb (hx σ) I2 r q2
/-- l.count(x) -/
def rCountD (K : PySem.W.Frag) : V → List V → Hp → VK → Prop := fun x xs H Q => ∃ (a : Addr) (y : V) (d : PyData) (ds : List PyData), x = V.ref a ∧ xs = [y] ∧ Dp K H (V.ref a) (.list ds) ∧ Dp K H y d ∧
  PyData.plainAll ds = true ∧ d.plain = true ∧ PyData.depthAll ds ≤ 60 ∧ Q (.int ((ds.countP fun z => PyData.eqv z d : Nat) : Int)) H
theorem mt_countD (hu : X.A.units + 65 < cLine) : MtR X "list.count" (rCountD X.K) := by
  intro pins s σ H x xs v us Q I rx rxs h
  obtain ⟨a, y, d, ds, rfl, rfl, hl, hy, sl, sd, hdp, q⟩ := h
  cases rx
  cases rxs with
  | cons ry rt =>
    rename_i uy ut
    cases rt
    obtain ⟨bs, r1⟩ := Dp.reads I d y uy hy ry
    cases hl with
    | lst hs ha =>
      obtain ⟨its, rv, il, hlen⟩ := I.list hs
      obtain ⟨as, h4⟩ := Dp.readsAll I ds _ its ha rv
      refine PySem.SeqAt.count_list_data (vs := its.toArray) (xs := ds) (d := d) il.isList h4 r1 sl sd (by omega) ?_
      exact ⟨.int _, H, I.tok _, ⟨_, rfl⟩, q⟩
end
/-- isinstance(e, C) of a caught exception that has no fields, its class the reading's -/
def rIsM (K : PySem.W.Frag) (a : Addr) (cls : Value) (d : Option Addr) : List V → Hp → VK → Prop := fun xs H Q => ∃ D : Addr, cls = .ref D ∧ d = none ∧ ExcC K D ∧ rIsE K D a xs H Q
theorem call_isM {X : Cx} {a : Addr} {oe : Obj} {cls : Value} {d : Option Addr} {pn : List (Addr × Obj)} (hz : Zc cls d oe) (hf : ∃ vs, oe.data = .fields vs) : CallR (X.suite a ((a, oe) :: pn)) (.builtin "isinstance") (rIsM X.K a cls d) := by
  intro pins s σ H xs us Q I r h
  obtain ⟨D, rfl, rfl, C, h⟩ := h
  exact call_isE C hz hf pins s σ H xs us Q I r h
end NB

/-! dicts whose keys are nested tuples of ints, texts, None: of the kind ("f", (0, 1)) -/
namespace NB
open PySem PySem.Spec PyProof.Rows L2
/-- an entry: the key, where its tuple stands, the value -/
abbrev NE := NestedKey × Addr × V
def valN (kvs : List NE) (k : NestedKey) : Option V := (kvs.find? fun e => decide (e.1 = k)).map (·.2.2)
def repN (k : NestedKey) (v : V) (e : NE) : NE := if e.1 = k then (e.1, e.2.1, v) else e
def putN (kvs : List NE) (k : NestedKey) (b : Addr) (v : V) : List NE := if (valN kvs k).isSome then kvs.map (repN k v) else kvs ++ [(k, b, v)]
theorem valN_nil {k : NestedKey} : valN [] k = none := rfl
theorem valN_cons {e : NE} {r : List NE} {k : NestedKey} : valN (e :: r) k = if e.1 = k then some e.2.2 else valN r k := by
  unfold valN
  by_cases h : e.1 = k
  · simp [List.find?_cons, h]
  · simp [List.find?_cons, h]
theorem valN_app {k j : NestedKey} {b : Addr} {v : V} : ∀ {kvs : List NE}, valN kvs k = none → valN (kvs ++ [(k, b, v)]) j = if k = j then some v else valN kvs j
  | [], _ => by simp [valN_cons, valN_nil]
  | e :: r, h => by
    rw [valN_cons] at h
    by_cases h1 : e.1 = k
    · rw [if_pos h1] at h
      cases h
    · rw [if_neg h1] at h
      rw [List.cons_append, valN_cons, valN_cons, valN_app h]
      by_cases h2 : e.1 = j
      · rw [if_pos h2, if_pos h2, if_neg (fun q => h1 (h2.trans q.symm))]
      · rw [if_neg h2, if_neg h2]
theorem putN_new {kvs : List NE} {k : NestedKey} {b : Addr} {v : V} (h : valN kvs k = none) : putN kvs k b v = kvs ++ [(k, b, v)] := by
  unfold putN
  rw [h]
  rfl
theorem valN_mem {k : NestedKey} {v : V} : ∀ {kvs : List NE}, valN kvs k = some v → ∃ b, (k, b, v) ∈ kvs
  | [], h => by cases h
  | e :: r, h => by
    rw [valN_cons] at h
    by_cases h1 : e.1 = k
    · rw [if_pos h1] at h
      obtain ⟨a, b, c⟩ := e
      cases h
      cases h1
      exact ⟨b, List.mem_cons_self ..⟩
    · rw [if_neg h1] at h
      obtain ⟨b, hb⟩ := valN_mem h
      exact ⟨b, List.mem_cons_of_mem _ hb⟩
theorem valN_none {k : NestedKey} : ∀ {kvs : List NE}, valN kvs k = none → ∀ e ∈ kvs, e.1 ≠ k
  | [], _, _, h => by cases h
  | e :: r, h, x, hx => by
    rw [valN_cons] at h
    by_cases h1 : e.1 = k
    · rw [if_pos h1] at h
      cases h
    · rw [if_neg h1] at h
      rcases List.mem_cons.mp hx with q | q
      · rw [q]
        exact h1
      · exact valN_none h x q
abbrev NRel : List NE → List (NestedKey × Addr × Value) → Prop := Paired fun p q => p.1 = q.1 ∧ p.2.1 = q.2.1 ∧ RelV p.2.2 q.2.2
theorem NRel.val (k : NestedKey) : ∀ {kvs : List NE} {xs : List (NestedKey × Addr × Value)}, NRel kvs xs → RelO (valN kvs k) ((atKey xs k).map (·.2))
  | _, _, .nil => True.intro
  | _, _, @Paired.cons _ _ _ p q ps qs r t => by
    obtain ⟨h1, h2, h3⟩ := r
    rw [valN_cons]
    by_cases h : p.1 = k
    · have h' : q.1 = k := h1 ▸ h
      rw [if_pos h]
      simp only [atKey, List.find?_cons, h', decide_true, Option.map_some]
      exact h3
    · have h' : ¬ q.1 = k := h1 ▸ h
      rw [if_neg h]
      have := NRel.val k t
      simpa [atKey, List.find?_cons, h'] using this
theorem NRel.put {k : NestedKey} {b : Addr} {v : V} {u : Value} (rv : RelV v u) {kvs : List NE} {xs : List (NestedKey × Addr × Value)} (r : NRel kvs xs) : NRel (putN kvs k b v) (storedH xs k b u) := by
  have e : (valN kvs k).isSome = (atKey xs k).isSome := by
    have := (r.val k).isSome_eq
    rw [Option.isSome_map] at this
    exact this
  unfold putN storedH
  rw [e]
  have snoc : ∀ {kvs : List NE} {xs : List (NestedKey × Addr × Value)}, NRel kvs xs → NRel (kvs ++ [(k, b, v)]) (xs ++ [(k, b, u)]) := by
    intro kvs xs r
    induction r with
    | nil => exact .cons ⟨rfl, rfl, rv⟩ .nil
    | cons h t ih => exact .cons h ih
  have rep : ∀ {kvs : List NE} {xs : List (NestedKey × Addr × Value)}, NRel kvs xs → NRel (kvs.map (repN k v)) (xs.map (putAt k u)) := by
    intro kvs xs r
    induction r with
    | nil => exact .nil
    | @cons p q ps qs h t ih =>
      refine .cons ?_ ih
      obtain ⟨h1, h2, h3⟩ := h
      unfold repN putAt
      by_cases c : p.1 = k
      · rw [if_pos c, if_pos (h1 ▸ c)]
        exact ⟨h1, h2, rv⟩
      · rw [if_neg c, if_neg (fun z => c (h1.trans z))]
        exact ⟨h1, h2, h3⟩
  split
  · exact rep r
  · exact snoc r
theorem NRel.length {kvs : List NE} {xs : List (NestedKey × Addr × Value)} (r : NRel kvs xs) : kvs.length = xs.length := Paired.length r
theorem NRel.mem : ∀ {kvs : List NE} {xs : List (NestedKey × Addr × Value)}, NRel kvs xs → ∀ x ∈ xs, ∃ e ∈ kvs, e.1 = x.1 ∧ e.2.1 = x.2.1
  | _, _, .nil, _, h => by cases h
  | _, _, @Paired.cons _ _ _ p q ps qs r t, x, h => by
    rcases List.mem_cons.mp h with z | z
    · exact ⟨p, List.mem_cons_self .., by rw [z]; exact r.1, by rw [z]; exact r.2.1⟩
    · obtain ⟨e, h1, h2⟩ := NRel.mem t x z
      exact ⟨e, List.mem_cons_of_mem _ h1, h2⟩
theorem putN_len (kvs : List NE) (k : NestedKey) (b : Addr) (v : V) : (putN kvs k b v).length ≤ kvs.length + 1 := by
  unfold putN
  split
  · simp
  · simp

/-- at a: a dict with these entries (where the keys' tuples stand is said by NDct) -/
def DN (P : Program) (w : World) (a : Addr) (kvs : List NE) : HO := .ext fun h => (a == sysModules) = false ∧ kvs.length ≤ sizeLine ∧ ∃ xs : List (NestedKey × Addr × Value), NRel kvs xs ∧
  ∃ o es ep, h.get? a = some o ∧ o.ExactDict ∧ o.data = .dict es ep ∧ es.toList = xs.map (entryOfKey (nestedKind P w)) ∧ (xs.map (·.1)).Nodup
/-- v is the key k -/
def NKey (K : PySem.W.Frag) (H : Hp) (b : Addr) (k : NestedKey) : Prop := Dp K H (.ref b) k.data ∧ k.depth ≤ 8
structure NDct (P : Program) (w : World) (K : PySem.W.Frag) (H : Hp) (a : Addr) (kvs : List NE) : Prop where
  at_ : H a = some (DN P w a kvs)
  keys : ∀ e ∈ kvs, NKey K H e.2.1 e.1
theorem DN_inj {P : Program} {w : World} {a : Addr} {kvs : List NE} {o : HO} (h : DN P w a kvs = o) : ∃ φ, o = .ext φ := ⟨_, h.symm⟩

section
variable {X : Cx} {pins : List (Addr × Obj)} {σ : L2.St} {H : Hp} {s : Shared}
mutual
theorem nk_is (I : Inv X pins σ H s) : ∀ (k : NestedKey) (v : V) (u : Value), Dp X.K H v k.data → RelV v u → NestedIs s.heap k u
  | .none, _, _, h, r => by
    cases h
    cases r
    exact .none
  | .num i, _, _, h, r => by
    cases h
    obtain ⟨t, rfl⟩ := r
    exact .int i t
  | .text x, _, _, h, r => by
    cases h
    obtain ⟨t, rfl⟩ := r
    exact .text x t
  | .tup ks, _, _, h, r => by
    rw [NestedKey.data] at h
    cases h with
    | tup hs ha =>
      cases r
      obtain ⟨its, rv, ⟨o, ho, hc, n, hd⟩, _⟩ := I.tuple hs
      exact .tup ho hc hd (nk_all I ks _ _ ha rv)
theorem nk_all (I : Inv X pins σ H s) : ∀ (ks : List NestedKey) (vs : List V) (us : List Value), DpAll X.K H vs (NestedKey.datas ks) → Vals vs us → NestedAll s.heap ks us
  | [], _, _, h, r => by
    rw [NestedKey.datas] at h
    cases h
    cases r
    exact .nil
  | k :: ks, _, _, h, r => by
    rw [NestedKey.datas] at h
    cases h with
    | cons h1 h2 =>
      cases r with
      | cons r1 r2 => exact .cons (nk_is I k _ _ h1 r1) (nk_all I ks _ _ h2 r2)
end
theorem nkey_is (I : Inv X pins σ H s) {b : Addr} {k : NestedKey} (h : NKey X.K H b k) : (nestedKind X.prog X.w).is s.heap k b := ⟨nk_is I k _ _ h.1 rfl, h.2⟩
theorem nd_of (I : Inv X pins σ H s) {a : Addr} {kvs : List NE} (d : NDct X.prog X.w X.K H a kvs) : (a == sysModules) = false ∧ kvs.length ≤ sizeLine ∧ ∃ xs, NRel kvs xs ∧ s.heap.DictOfH (nestedKind X.prog X.w) a xs := by
  obtain ⟨⟨h1, hz, xs, r, o, es, ep, ho, hx, hd, he, hn⟩, _, _⟩ := (show ObjOk X.prog X.w H s.heap a (DN X.prog X.w a kvs) from I.hok a _ d.at_)
  refine ⟨h1, hz, xs, r, o, es, ep, ho, hx, hd, he, fun x hx => ?_, hn⟩
  obtain ⟨e, hm, e1, e2⟩ := r.mem x hx
  have := nkey_is I (d.keys e hm)
  rw [e1, e2] at this
  exact this
theorem dn_ok {P : Program} {w : World} {H : Hp} {h : Heap} {a : Addr} {kvs : List NE} {xs : List (NestedKey × Addr × Value)} (h1 : (a == sysModules) = false) (hz : kvs.length ≤ sizeLine) (r : NRel kvs xs) (d : h.DictOfH (nestedKind P w) a xs) : ObjOk P w H h a (DN P w a kvs) := by
  obtain ⟨o, es, ep, ho, hx, hd, he, _, hn⟩ := d
  refine ⟨⟨h1, hz, xs, r, o, es, ep, ho, hx, hd, he, hn⟩, ⟨o, ho⟩, fun g1 g2 ⟨a1, a2, xs, a3, o, es, ep, a4, a5⟩ k => ⟨a1, a2, xs, a3, o, es, ep, k _ a4, a5⟩⟩
theorem room8 {A : Around} (hu : A.units + 16 < cLine) : (nestedKind X.prog X.w).room A.in1 := by
  show A.in1.units + 8 < cLine
  have : A.in1.units = A.units + 1 := rfl
  omega
variable {A : Around} {E : Value → Shared → Prop} {a b : Addr} {k : NestedKey} {kvs : List NE}
theorem nd_getItem {v : V} {Q : Value → Shared → Prop} (hu : A.units + 16 < cLine) (I : Inv X pins σ H s) (d : NDct X.prog X.w X.K H a kvs) (hk : NKey X.K H b k) (hv : valN kvs k = some v) (h : ∀ w' s', Inv X pins σ H s' → RelV v w' → Q w' s') :
    wpAny (model X.prog X.w) A (getItem (.ref a) (.ref b)) Q E s := by
  obtain ⟨h1, hz, xs, r, dd⟩ := nd_of I d
  obtain ⟨w', hw, rw'⟩ := RelO.some_of (v := v) (o := (atKey xs k).map (·.2)) (by rw [← hv]; exact r.val k)
  obtain ⟨p, hp, hp2⟩ := Option.map_eq_some_iff.mp hw
  refine wpAny_getItem_heap (room8 (X := X) hu) (nkey_is I hk) dd hp ?_
  rw [hp2]
  exact h w' _ (I.tok _) rw'
theorem nd_in {Q : Value → Shared → Prop} (hu : A.units + 16 < cLine) (I : Inv X pins σ H s) (d : NDct X.prog X.w X.K H a kvs) (hk : NKey X.K H b k) (h : ∀ s', Inv X pins σ H s' → Q (.bool (valN kvs k).isSome) s') :
    wpAny (model X.prog X.w) A (compareOp .In (.ref b) (.ref a)) Q E s := by
  obtain ⟨h1, hz, xs, r, dd⟩ := nd_of I d
  refine wpAny_in_heap (room8 (X := X) hu) (nkey_is I hk) h1 dd ?_
  have q := (r.val k).isSome_eq
  rw [Option.isSome_map] at q
  rw [← q]
  exact h _ (I.tok _)
theorem nd_notIn {Q : Value → Shared → Prop} (hu : A.units + 16 < cLine) (I : Inv X pins σ H s) (d : NDct X.prog X.w X.K H a kvs) (hk : NKey X.K H b k) (h : ∀ s', Inv X pins σ H s' → Q (.bool (!(valN kvs k).isSome)) s') :
    wpAny (model X.prog X.w) A (compareOp .NotIn (.ref b) (.ref a)) Q E s := by
  obtain ⟨h1, hz, xs, r, dd⟩ := nd_of I d
  refine wpAny_notIn_heap (room8 (X := X) hu) (nkey_is I hk) h1 dd ?_
  have q := (r.val k).isSome_eq
  rw [Option.isSome_map] at q
  rw [← q]
  exact h _ (I.tok _)
theorem nd_new {h' : Heap} {t' : Nat} {v : V} {u : Value} {xs : List (NestedKey × Addr × Value)} (I : Inv X pins σ H s) (d : NDct X.prog X.w X.K H a kvs) (h1 : (a == sysModules) = false) (r : NRel kvs xs) (rv : RelV v u) (hl : kvs.length < sizeLine)
    (dd : h'.DictOfH (nestedKind X.prog X.w) a (storedH xs k b u)) (hs : Heap.SameBut a s.heap h') : Inv X pins σ (upd H a (DN X.prog X.w a (putN kvs k b v))) { s with heap := h', toks := t' } := by
  refine d_write I (by rw [d.at_]; exact True.intro) hs ?_ (dn_ok h1 ?_ (r.put rv) dd)
  · obtain ⟨o, _, _, ho, _⟩ := dd
    exact ⟨o, ho⟩
  · have := putN_len kvs k b v
    omega
theorem nd_setItem {v : V} {u : Value} {Q : Unit → Shared → Prop} (hu : A.units + 16 < cLine) (I : Inv X pins σ H s) (d : NDct X.prog X.w X.K H a kvs) (hk : NKey X.K H b k) (rv : RelV v u) (hl : kvs.length < sizeLine)
    (h : ∀ s', Inv X pins σ (upd H a (DN X.prog X.w a (putN kvs k b v))) s' → Q () s') : wpAny (model X.prog X.w) A (setItem (.ref a) (.ref b) u) Q E s := by
  obtain ⟨h1, hz, xs, r, dd⟩ := nd_of I d
  refine wpAny_setItem_heap (hsz := by rw [← r.length]; exact hz) (room8 (X := X) hu) (nkey_is I hk) dd fun h' dd' hs => h _ ?_
  exact nd_new I d h1 r rv hl dd' hs
theorem nd_setdefault {v : V} {u : Value} {Q : Value → Shared → Prop} (hu : A.units + 16 < cLine) (I : Inv X pins σ H s) (d : NDct X.prog X.w X.K H a kvs) (hk : NKey X.K H b k) (rv : RelV v u) (hl : kvs.length < sizeLine)
    (q1 : ∀ x w' s', valN kvs k = some x → Inv X pins σ H s' → RelV x w' → Q w' s') (q2 : ∀ s', valN kvs k = none → Inv X pins σ (upd H a (DN X.prog X.w a (putN kvs k b v))) s' → Q u s') :
    wpAny (model X.prog X.w) A (call (.builtin "dict.setdefault") [.ref a, .ref b, u]) Q E s := by
  obtain ⟨h1, hz, xs, r, dd⟩ := nd_of I d
  have q := r.val k
  refine call_setdefault_heap (hsz := by rw [← r.length]; exact hz) (room8 (X := X) hu) (nkey_is I hk) h1 dd (fun p hp => ?_) fun hn h' dd' hs => ?_
  · rw [hp] at q
    cases hv : valN kvs k with
    | none =>
      rw [hv] at q
      exact q.elim
    | some x =>
      rw [hv] at q
      exact q1 x _ _ hv (I.tok _) q
  · rw [hn] at q
    cases hv : valN kvs k with
    | none => exact q2 _ hv (nd_new I d h1 r rv hl dd' hs)
    | some x =>
      rw [hv] at q
      exact q.elim
theorem nd_get1 {Q : Value → Shared → Prop} (hu : A.units + 16 < cLine) (I : Inv X pins σ H s) (d : NDct X.prog X.w X.K H a kvs) (hk : NKey X.K H b k) (h : ∀ w' s', Inv X pins σ H s' → RelV ((valN kvs k).getD .non) w' → Q w' s') :
    wpAny (model X.prog X.w) A (call (.builtin "dict.get") [.ref a, .ref b]) Q E s := by
  obtain ⟨h1, hz, xs, r, dd⟩ := nd_of I d
  exact call_meetsIn PySem.F.slot_dict_get dd.typeIs PySem.F.entry_dict_get (PySem.F.args_dict_get_2 _ _) (meetsH_dict_get (nestedKind X.prog X.w) a b h1) ⟨room8 (X := X) hu, k, xs, nkey_is I hk, dd, h _ _ (I.tok _) ((r.val k).getD rfl)⟩
theorem nd_get2 {v : V} {u : Value} {Q : Value → Shared → Prop} (hu : A.units + 16 < cLine) (I : Inv X pins σ H s) (d : NDct X.prog X.w X.K H a kvs) (hk : NKey X.K H b k) (rv : RelV v u) (h : ∀ w' s', Inv X pins σ H s' → RelV ((valN kvs k).getD v) w' → Q w' s') :
    wpAny (model X.prog X.w) A (call (.builtin "dict.get") [.ref a, .ref b, u]) Q E s := by
  obtain ⟨h1, hz, xs, r, dd⟩ := nd_of I d
  exact call_meetsIn PySem.F.slot_dict_get dd.typeIs PySem.F.entry_dict_get (PySem.F.args_dict_get_3 _ _ _) (meetsH_dict_get_default (nestedKind X.prog X.w) a b h1 u) ⟨room8 (X := X) hu, k, xs, nkey_is I hk, dd, h _ _ (I.tok _) ((r.val k).getD rv)⟩
theorem nd_typeIs (I : Inv X pins σ H s) (d : NDct X.prog X.w X.K H a kvs) : s.TypeIs (.ref a) "dict" ∧ (∀ b, Value.ref a = .ref b → ∃ ob, s.heap.get? b = some ob ∧ ob.dict = none) := by
  obtain ⟨h1, hz, xs, r, dd⟩ := nd_of I d
  refine ⟨dd.typeIs, fun b q => ?_⟩
  cases q
  obtain ⟨ob, _, _, h1, h2, _⟩ := dd
  exact ⟨ob, h1, h2.2.1⟩
end

/-! ### readings -/
def tNNew (P : Program) (w : World) : TE := fun _ H Q => ∀ p, H p = none → Q (.ref p) (upd H p (DN P w p []))
def tNGet (P : Program) (w : World) (K : PySem.W.Frag) (td ty : TE) : TE := fun σ H Q => td σ H fun x H1 => ty σ H1 fun y H2 => ∃ a b kvs k v, x = .ref a ∧ y = .ref b ∧ NDct P w K H2 a kvs ∧ NKey K H2 b k ∧ valN kvs k = some v ∧ Q v H2
def tNIn (P : Program) (w : World) (K : PySem.W.Frag) (ty td : TE) : TE := fun σ H Q => ty σ H fun y H1 => td σ H1 fun x H2 => ∃ a b kvs k, x = .ref a ∧ y = .ref b ∧ NDct P w K H2 a kvs ∧ NKey K H2 b k ∧ Q (.bl (valN kvs k).isSome) H2
def tNNotIn (P : Program) (w : World) (K : PySem.W.Frag) (ty td : TE) : TE := fun σ H Q => ty σ H fun y H1 => td σ H1 fun x H2 => ∃ a b kvs k, x = .ref a ∧ y = .ref b ∧ NDct P w K H2 a kvs ∧ NKey K H2 b k ∧ Q (.bl (!(valN kvs k).isSome)) H2
def sNPut (P : Program) (w : World) (K : PySem.W.Frag) (td ty tv : TE) : TS := fun D σ H => tv σ H fun v H1 => td σ H1 fun x H2 => ty σ H2 fun y H3 => ∃ a b kvs k, x = .ref a ∧ y = .ref b ∧ NDct P w K H3 a kvs ∧ NKey K H3 b k ∧ kvs.length < sizeLine ∧
  D.nx σ (upd H3 a (DN P w a (putN kvs k b v)))
def tNSetd (P : Program) (w : World) (K : PySem.W.Frag) (td ty tv : TE) : TE := fun σ H Q => td σ H fun x H1 => ∃ a kvs1, x = .ref a ∧ NDct P w K H1 a kvs1 ∧ ty σ H1 fun y H2 => tv σ H2 fun v H3 => ∃ b kvs k, y = .ref b ∧ NDct P w K H3 a kvs ∧ NKey K H3 b k ∧ kvs.length < sizeLine ∧
  (∀ x, valN kvs k = some x → Q x H3) ∧ (valN kvs k = none → Q v (upd H3 a (DN P w a (putN kvs k b v))))
def tNGet1 (P : Program) (w : World) (K : PySem.W.Frag) (td ty : TE) : TE := fun σ H Q => td σ H fun x H1 => ∃ a kvs1, x = .ref a ∧ NDct P w K H1 a kvs1 ∧ ty σ H1 fun y H2 => ∃ b kvs k, y = .ref b ∧ NDct P w K H2 a kvs ∧ NKey K H2 b k ∧ Q ((valN kvs k).getD .non) H2
def tNGet2 (P : Program) (w : World) (K : PySem.W.Frag) (td ty tv : TE) : TE := fun σ H Q => td σ H fun x H1 => ∃ a kvs1, x = .ref a ∧ NDct P w K H1 a kvs1 ∧ ty σ H1 fun y H2 => tv σ H2 fun v H3 => ∃ b kvs k, y = .ref b ∧ NDct P w K H3 a kvs ∧ NKey K H3 b k ∧ Q ((valN kvs k).getD v) H3
section
variable {X : Cx} {o i e f value : Expr} {pos pos' tpos apos cpos : Pos} {td ty tv : TE}
theorem pe_nnew : PE X (.Dict [] [] pos) (tNNew X.prog X.w) := ⟨fun pins s σ H Q I h =>
  wpAny_Dict_empty ⟨.ref s.heap.objs.size, _, I.laid (a := s.heap.objs.size) (o := DN X.prog X.w s.heap.objs.size []) (t' := s.toks) (fun _ _ q => Heap.get?_push_of_some _ q) (Nat.le_refl _)
    (dn_ok (xs := []) (beq_eq_false_iff_ne.mpr (Ne.symm (Nat.ne_of_lt I.big))) (Nat.zero_le _) .nil (Heap.DictOfH.new s.heap)), rfl, h _ (I.hok.fresh (Nat.le_refl _))⟩⟩
theorem pe_nget (hu : X.A.units + 16 < cLine) (ho : PE X o td) (hi : PE X i ty) (hs : NoSl i) : PE X (.Subscript o i pos) (tNGet X.prog X.w X.K td ty) := by
  refine ⟨fun pins s σ H Q I h => ?_⟩
  refine subD_of PySem.F.slot_dict_getitem.lookup hs (thn (ho.run pins s σ H _ I h) fun u s1 ⟨x, H1, I1, rx, q1⟩ => thn (hi.run pins s1 σ H1 _ I1 q1) fun iv s2 ⟨y, H2, I2, ry, a, b, kvs, k, v, ex, ey, d, hk, hv, q2⟩ => ?_)
  subst ex ey
  obtain rfl : u = Value.ref a := rx
  obtain rfl : iv = Value.ref b := ry
  exact ⟨(nd_typeIs I2 d).1, nd_getItem hu I2 d hk hv fun w' s3 I3 rw' => ⟨v, H2, I3, rw', q2⟩⟩
theorem pc_nin (hu : X.A.units + 16 < cLine) (hi : PE X i ty) (ho : PE X o td) : PC X .In i o (tNIn X.prog X.w X.K ty td) := by
  refine ⟨fun pins s σ H Q I h => ?_⟩
  refine thn (hi.run pins s σ H _ I h) fun iv s1 ⟨y, H1, I1, ry, q1⟩ => thn (ho.run pins s1 σ H1 _ I1 q1) fun u s2 ⟨x, H2, I2, rx, a, b, kvs, k, ex, ey, d, hk, q2⟩ => ?_
  subst ex ey
  obtain rfl : u = Value.ref a := rx
  obtain rfl : iv = Value.ref b := ry
  exact nd_in hu I2 d hk fun s3 I3 => ⟨.bl _, H2, I3, rfl, q2⟩
theorem pc_nnotin (hu : X.A.units + 16 < cLine) (hi : PE X i ty) (ho : PE X o td) : PC X .NotIn i o (tNNotIn X.prog X.w X.K ty td) := by
  refine ⟨fun pins s σ H Q I h => ?_⟩
  refine thn (hi.run pins s σ H _ I h) fun iv s1 ⟨y, H1, I1, ry, q1⟩ => thn (ho.run pins s1 σ H1 _ I1 q1) fun u s2 ⟨x, H2, I2, rx, a, b, kvs, k, ex, ey, d, hk, q2⟩ => ?_
  subst ex ey
  obtain rfl : u = Value.ref a := rx
  obtain rfl : iv = Value.ref b := ry
  exact nd_notIn hu I2 d hk fun s3 I3 => ⟨.bl _, H2, I3, rfl, q2⟩
theorem ps_nput (hu : X.A.units + 16 < cLine) (ho : PE X o td) (hi : PE X i ty) (hv : PE X value tv) (hs : swapsWith value (some (.Subscript o i pos')) pos.line X.env = pure false) :
    PS X (.Assign [.Subscript o i pos'] value pos) (sNPut X.prog X.w X.K td ty tv) := by
  refine ⟨fun pins s σ H D I h => ?_⟩
  refine wpAny_Assign_Subscript (thn (hv.run pins s σ H _ I h) fun r s1 ⟨v, H1, I1, rv, q1⟩ => thn (ho.run pins s1 σ H1 _ I1 q1) fun u s2 ⟨x, H2, I2, rx, q2⟩ => thn (hi.run pins s2 σ H2 _ I2 q2) fun iv s3 ⟨y, H3, I3, ry, a, b, kvs, k, ex, ey, d, hk, hl, q3⟩ => ?_) hs
  subst ex ey
  obtain rfl : u = Value.ref a := rx
  obtain rfl : iv = Value.ref b := ry
  exact nd_setItem hu I3 d hk rv hl fun s4 I4 => ⟨σ, _, I4, q3⟩
theorem pe_nsetd (hu : X.A.units + 16 < cLine) (ho : PE X o td) (he : PE X e ty) (hf : PE X f tv) (m : M2 X o "setdefault" apos e f cpos) : PE X (.Call (.Attribute o "setdefault" apos) [e, f] [] cpos) (tNSetd X.prog X.w X.K td ty tv) := by
  refine ⟨fun pins s σ H Q I h => ?_⟩
  refine wpAny_Call_method m.base m.few m.line PySem.F.plainAttrs_dict PySem.F.slot_dict_setdefault PySem.F.type_dict_setdefault (thn (ho.run pins s σ H _ I h) fun u s1 ⟨x, H1, I1, rx, a, kvs1, ex, d1, q1⟩ => ?_)
  subst ex
  obtain rfl : u = Value.ref a := rx
  obtain ⟨t1, t2⟩ := nd_typeIs I1 d1
  refine ⟨t1, t2, ?_⟩
  rw [m.trees]
  refine Calls.callWith_builtin rfl (Calls.evalArgs_plain (Calls.spliced_cons (thn (he.run pins s1 σ H1 _ I1 q1) fun iv s2 ⟨y, H2, I2, ry, q2⟩ =>
    Calls.spliced_cons (thn (hf.run pins s2 σ H2 _ I2 q2) fun fv s3 ⟨z, H3, I3, rz, b, kvs, k, ey, d, hk, hl, q3, q4⟩ => Calls.spliced_nil ?_))))
  subst ey
  obtain rfl : iv = Value.ref b := ry
  exact nd_setdefault hu I3 d hk rz hl (fun x w' s4 hx I4 rw' => ⟨x, H3, I4, rw', q3 x hx⟩) fun s4 hn I4 => ⟨z, _, I4, rz, q4 hn⟩
theorem pe_nget1 (hu : X.A.units + 16 < cLine) (ho : PE X o td) (he : PE X e ty) (m : M1 X o "get" apos e cpos) : PE X (.Call (.Attribute o "get" apos) [e] [] cpos) (tNGet1 X.prog X.w X.K td ty) := by
  refine ⟨fun pins s σ H Q I h => ?_⟩
  refine wpAny_Call_method m.base m.few m.line PySem.F.plainAttrs_dict PySem.F.slot_dict_get PySem.F.type_dict_get (thn (ho.run pins s σ H _ I h) fun u s1 ⟨x, H1, I1, rx, a, kvs1, ex, d1, q1⟩ => ?_)
  subst ex
  obtain rfl : u = Value.ref a := rx
  obtain ⟨t1, t2⟩ := nd_typeIs I1 d1
  refine ⟨t1, t2, ?_⟩
  rw [m.trees]
  refine Calls.callWith_builtin rfl (Calls.evalArgs_plain (Calls.spliced_cons (thn (he.run pins s1 σ H1 _ I1 q1) fun iv s2 ⟨y, H2, I2, ry, b, kvs, k, ey, d, hk, q2⟩ => Calls.spliced_nil ?_)))
  subst ey
  obtain rfl : iv = Value.ref b := ry
  exact nd_get1 hu I2 d hk fun w' s4 I4 rw' => ⟨_, H2, I4, rw', q2⟩
theorem pe_nget2 (hu : X.A.units + 16 < cLine) (ho : PE X o td) (he : PE X e ty) (hf : PE X f tv) (m : M2 X o "get" apos e f cpos) : PE X (.Call (.Attribute o "get" apos) [e, f] [] cpos) (tNGet2 X.prog X.w X.K td ty tv) := by
  refine ⟨fun pins s σ H Q I h => ?_⟩
  refine wpAny_Call_method m.base m.few m.line PySem.F.plainAttrs_dict PySem.F.slot_dict_get PySem.F.type_dict_get (thn (ho.run pins s σ H _ I h) fun u s1 ⟨x, H1, I1, rx, a, kvs1, ex, d1, q1⟩ => ?_)
  subst ex
  obtain rfl : u = Value.ref a := rx
  obtain ⟨t1, t2⟩ := nd_typeIs I1 d1
  refine ⟨t1, t2, ?_⟩
  rw [m.trees]
  refine Calls.callWith_builtin rfl (Calls.evalArgs_plain (Calls.spliced_cons (thn (he.run pins s1 σ H1 _ I1 q1) fun iv s2 ⟨y, H2, I2, ry, q2⟩ =>
    Calls.spliced_cons (thn (hf.run pins s2 σ H2 _ I2 q2) fun fv s3 ⟨z, H3, I3, rz, b, kvs, k, ey, d, hk, q3⟩ => Calls.spliced_nil ?_))))
  subst ey
  obtain rfl : iv = Value.ref b := ry
  exact nd_get2 hu I3 d hk rz fun w' s4 I4 rw' => ⟨_, H3, I4, rw', q3⟩
end
end NB

/-! len of a dict whose keys are nested tuples; a rule with a weaker reading; makers that are defs -/
namespace NB
open PySem PySem.Spec PyProof.Rows L2
section
variable {X : Cx}
def rLenN (P : Program) (w : World) (K : PySem.W.Frag) : List V → Hp → VK → Prop := fun xs H Q => ∃ (p : Addr) (kvs : List NE), xs = [.ref p] ∧ NDct P w K H p kvs ∧ Q (.int (kvs.length : Int)) H
theorem call_lenN : CallR X (.builtin "len") (rLenN X.prog X.w X.K) := by
  intro pins s σ H xs us Q I r h
  obtain ⟨p, kvs, rfl, nd, q⟩ := h
  obtain rfl := Vals.ref1 r
  obtain ⟨lo, hz, ys, rel, dd⟩ := nd_of I nd
  have hl := rel.length
  rw [sizeLine_eq] at hz
  refine call_len_dictH lo dd (by rw [← hl]; omega) ?_
  rw [← hl]
  exact ⟨.int (kvs.length : Int), H, I.tok _, ⟨_, rfl⟩, q⟩
theorem PE.weak {e : Expr} {t t' : TE} (h : PE X e t) (k : ∀ σ H Q, t' σ H Q → t σ H Q) : PE X e t' := ⟨fun pins s σ H Q I q => h.run pins s σ H Q I (k σ H Q q)⟩
end
end NB

/-! makers: whatever is called by the name of a parameter -/
namespace NB
open PySem PySem.Spec PyProof.Rows L2 LamX
def tMaker0 (i : Nat) (f : Addr) (msp : List V → Hp → VK → Prop) (t : TA) : TE := fun σ H Q => σ[i]? = some (some (.ref f)) ∧ t σ H fun vs H1 => msp vs H1 Q
/-- g's body, whatever stands at its second slot and keeps what msp promises -/
def GivesD (X : Cx) (Ng : List Str) (x : Str) (sg : Scope) (g : Addr) (cdg : Value) (bg : List Stmt) (a : Str) (TT : (List V → Hp → VK → Prop) → V → Hp → VK → Prop) : Prop :=
  ∀ (f : Addr) (s : Shared) (H : Hp) (v : V) (Q : VK) (msp : List V → Hp → VK → Prop),
    (∀ (e : Expr) (es : List Expr) (t : TA) (p pos : Pos), PA (gcx X Ng x sg g cdg s H) (e :: es) t → starEach (e :: es) (gcx X Ng x sg g cdg s H).env = (false, eval e (gcx X Ng x sg g cdg s H).env) :: starEach es (gcx X Ng x sg g cdg s H).env →
      (backTo pos (starEach es (gcx X Ng x sg g cdg s H).env)).any (·.1) = false → PE (gcx X Ng x sg g cdg s H) (.Call (.Name a p) (e :: es) [] pos) (tMaker0 1 f msp t)) →
    TT msp v H Q → ∃ t, PSs (gcx X Ng x sg g cdg s H) bg t ∧ t { nx := fun _ H' => Q .non H', rt := Q } (L2.start Ng [v, .ref f]) H
theorem GivesD.lam {X : Cx} {Ng : List Str} {x : Str} {sg : Scope} {g : Addr} {cdg : Value} {bg : List Stmt} {a : Str} {TT : (List V → Hp → VK → Prop) → V → Hp → VK → Prop} (h : GivesD X Ng x sg g cdg bg a TT) : GivesM X Ng x sg g cdg bg a TT :=
  fun f c q s H v Q msp MK hco ht => h f s H v Q (fun vs H1 Q1 => H1 c = some (CodeO c q) ∧ msp vs H1 Q1) (fun e es t p pos hA hs hb => MK e es t p pos hA hs hb) ht
/-- g(e, d), d one of the defs: what g does over what d promises -/
def tDefP (TT : (List V → Hp → VK → Prop) → V → Hp → VK → Prop) (sp : Sp) (f : Addr) (t1 : TE) : TE := fun σ H Q => tCons t1 (tCons (tC (.ref f)) tNil) σ H fun vs H1 => ∃ v, vs = [v, .ref f] ∧ TT (fun vs H2 Q2 => sp vs H2 Q2 L2.E0) v H1 Q
section
variable {X : Cx}
theorem pe_defP {TT : (List V → Hp → VK → Prop) → V → Hp → VK → Prop} {x a ag y : Str} {g f : Addr} {k : Nat} {pg : Arguments} {bg : List Stmt} {sg : Scope} {dV kV doc pm cdv ct oc : Value} {an od : Option Addr} {osl : Array (Option Value)} {Ng psf : List Str} {fd : FuncData} {sp : Sp}
    {e1 : Expr} {t1 : TE} {p p2 pos : Pos} (hg : Gl X x) (hm : X.mg x = some (.ref g)) (hk : PySem.W.keepIn X.K (.ref g) = true)
    (lk : X.K.lookup g = some ⟨oc, od, .func (PySem.W.fnOf x x pg bg sg dV kV doc pm an cdv ct), osl⟩) (hcg : PySem.W.codeIn X.K cdv x = true) (hb : L2.Binds X.K (PySem.W.fnOf x x pg bg sg dV kV doc pm an cdv ct) [ag, a] []) (Sg : FnScope Ng [ag, a] sg) (hNg : Ng[1]? = some a) (hva : Vis sg a)
    (hG : GivesD X Ng x sg g cdv bg a TT)
    (hgy : Gl X y) (hmy : X.mg y = some (.ref f)) (F : FnOk X.prog X.w X.K X.mg X.base L2.CX0 k f fd psf sp) (hkf : PySem.W.keepIn X.K (.ref f) = true) (hbf : L2.Binds X.K fd psf []) (hr : Room (k + 1) X.A)
    (h1 : PE X e1 t1) (hdb : (x == ("__debug__" : Str)) = false := by decide) (hdy : (y == ("__debug__" : Str)) = false := by decide) (hd : (a == ("__debug__" : Str)) = false := by decide) (hcd : (a == ("__classdict__" : Str)) = false := by decide)
    (he : starEach [e1, .Name y p2] X.env = (false, eval e1 X.env) :: starEach [.Name y p2] X.env := by rfl) (hpl : (backTo pos (starEach [.Name y p2] X.env)).any (·.1) = false := by rfl) (he2 : starEach [.Name y p2] X.env = (false, eval (.Name y p2) X.env) :: starEach [] X.env := by rfl) :
    PE X (.Call (.Name x p) [e1, .Name y p2] [] pos) (tDefP TT sp f t1) := by
  refine ⟨fun pins s σ H Q I h => ?_⟩
  have ha : PA X [e1, .Name y p2] (tCons t1 (tCons (tC (.ref f)) tNil)) := pa_cons h1 (pa_cons (pe_glob (v := .ref f) hgy hmy rfl hdy) pa_nil he2) he
  refine wpAny_Call_Name_kw (ld_glob I hg hm ?_ hdb)
  refine PySem.W.callWith_K (h₀ := X.base) I.ok.mod.kin hk (thn (ha.run pos pins s σ H (fun vs H1 => ∃ v, vs = [v, .ref f] ∧ TT (fun vs H2 Q2 => sp vs H2 Q2 L2.E0) v H1 Q) I h) fun us s1 ⟨vs, H1, I1, r, v, ev, q⟩ => ⟨I1.kIn, ?_⟩) he hpl
  · subst ev
    have hl : us.length = 2 := r.length.symm
    have rc : codeAny (model X.prog X.w) X.A (.call (.ref g) ⟨us, []⟩) (CR L2.CX0 X.stack X.prog X.w H1 s1 Q L2.E0) s1 := by
      refine run_ofS (N := Ng) (ps := [ag, a]) (us := us) (vs := [v, .ref f]) lk hcg Sg hr I1.env0 ?_ r rfl fun hr' => ?_
      · have z := hb s1 us I1.kIn (by rw [List.length_append, hl]; rfl)
        rw [List.append_nil] at z
        exact z
      · refine (hG f s1 H1 v Q (fun vs H2 Q2 => sp vs H2 Q2 L2.E0) ?_ q).elim fun t' z => ⟨t', z.1.nox, z.2⟩
        intro e es t p1 pos1 hA hs hb2
        refine ⟨fun pins2 s2 σ2 H2 Q2 J2 ⟨z1, z2⟩ => ?_⟩
        refine wpAny_Call_Name_kw (thn ((pe_var (i := 1) (pos := p1) hNg hva hd hcd).run pins2 s2 σ2 H2 (fun v H1 => v = .ref f ∧ H1 = H2) J2 ⟨.ref f, z1, rfl, rfl⟩) fun u s3 ⟨v3, H3, J3, r3, q3⟩ => ?_)
        obtain ⟨rfl, rfl⟩ := q3
        obtain rfl : u = Value.ref f := r3
        refine PySem.W.callWith_K (h₀ := X.base) J3.ok.mod.kin hkf (thn (hA.run pos1 pins2 s3 σ2 H3 _ J3 z2) fun us s4 ⟨vs, H4, J4, r4, q4⟩ => ⟨J4.kIn, ?_⟩) hs hb2
        exact run_fnS (E := fun _ => L2.E0) F hr' hbf (fun pins H s e s5 I h => h.elim) J4 r4 q4
    refine wpAny_call (codeAny_mono rc fun r s' hq => ?_)
    cases r with
    | error e => exact (show False from hq).elim
    | ok fl =>
      cases fl with
      | ret u => exact I1.after hq
      | next => exact False.elim hq
      | brk => exact False.elim hq
      | cont => exact False.elim hq
end
end NB

/-! tuples that are known to have no dict of their own; dict(t) of such a tuple of pairs -/
namespace NB
open PySem PySem.Spec PyProof.Rows L2
/-- at a: the tuple xs, which has no dict of its own -/
def PlT (K : PySem.W.Frag) (H : Hp) (a : Addr) (xs : List V) : Prop :=
  (∃ o : Obj, o.cls = .type "tuple" ∧ o.dict = none ∧ H a = some (.frz o (.tup xs))) ∨
    ∃ (o : Obj) (its : Array Value) (n : Nat), K.lookup a = some o ∧ o.cls = .type "tuple" ∧ o.dict = none ∧ o.data = .seq its n ∧ its.size ≤ sizeLine ∧ Vals xs its.toList
theorem PlT.sq {K : PySem.W.Frag} {H : Hp} {a : Addr} {xs : List V} (h : PlT K H a xs) : SqT K H a xs := by
  rcases h with ⟨o, _, _, h⟩ | ⟨o, its, n, h1, h2, h3, h4, h5, h6⟩
  · exact .inl (.inr ⟨o, h⟩)
  · exact .inr ⟨o, its, n, h1, h2, h4, h5, h6⟩
theorem PlT.same {K : PySem.W.Frag} {H H' : Hp} {a : Addr} {xs : List V} (h : PlT K H a xs) (e : ∀ b o u, H b = some (.frz o u) → H' b = some (.frz o u)) : PlT K H' a xs := by
  rcases h with ⟨o, h1, h2, h⟩ | h
  · exact .inl ⟨o, h1, h2, e _ _ _ h⟩
  · exact .inr h
section
variable {X : Cx} {pins : List (Addr × Obj)} {σ : L2.St} {H : Hp} {s : Shared}
theorem PlT.at_ (I : Inv X pins σ H s) {a : Addr} {xs : List V} (h : PlT X.K H a xs) : ∃ its : List Value, Vals xs its ∧ PySem.PlainSeq "tuple" s.heap a its.toArray ∧ xs.length ≤ sizeLine := by
  rcases h with ⟨o, h1, h2, h⟩ | ⟨o, its, n, hk, h2, h3, h4, h5, h6⟩
  · obtain ⟨e, z, its, r, o', e', c', n', d'⟩ := (show ObjOk X.prog X.w H s.heap a (.frz o (.tup xs)) from I.hok a _ h)
    rw [e] at e'
    cases e'
    exact ⟨its, r, ⟨o, n', e, h1, h2, d'⟩, z⟩
  · refine ⟨its.toList, h6, ⟨o, n, I.kIn a o hk, h2, h3, by simpa using h4⟩, ?_⟩
    have e := h6.length
    simp only [Array.length_toList] at e
    omega
/-- tuple(xs), xs a list -/
theorem call_tupleZ : CallR X (.type "tuple") (fun xs H Q => ∃ p ys, xs = [.ref p] ∧ SqL X.K H p ys ∧ ∀ l o, o.cls = Value.type "tuple" → o.dict = none → H l = none → Q (.ref l) (upd H l (.frz o (.tup ys)))) := by
  intro pins s σ H xs us Q I r h
  obtain ⟨p, ys, rfl, hq, q⟩ := h
  obtain ⟨u, rfl, rx⟩ := vals1 r
  cases rx
  obtain ⟨its, r', pl, hz⟩ := I.list hq
  have hlen := r'.length
  refine call_tuple_list pl.isList (fun h' kp => ?_) (by simp only [List.size_toArray] <;> omega)
  have I1 : Inv X pins σ H { s with heap := h' } := I.kept (t' := s.toks) kp
  have hg : (h'.push { cls := .type "tuple", data := .seq its.toArray }).get? h'.objs.size = some { cls := .type "tuple", data := .seq its.toArray } := Heap.get?_push_size _ rfl
  have I2 : Inv X pins σ (upd H h'.objs.size (.frz { cls := .type "tuple", data := .seq its.toArray } (.tup ys))) { s with heap := h'.push { cls := .type "tuple", data := .seq its.toArray } } :=
    I1.laid (t' := s.toks) (fun b o e => Heap.get?_push_of_some _ e) (Nat.le_refl _) (show ObjOk X.prog X.w _ _ _ (.frz _ (.tup ys)) from ⟨hg, hz, its, r', IsTup.new _ _⟩)
  exact ⟨.ref h'.objs.size, _, I2, rfl, q _ _ rfl rfl (I1.hok.fresh (Nat.le_refl _))⟩
def tTupZ (t : TA) : TE := fun σ H Q => t σ H fun xs H1 => xs.length ≤ sizeLine ∧ ∀ l o, o.cls = Value.type "tuple" → o.dict = none → H1 l = none → Q (.ref l) (upd H1 l (.frz o (.tup xs)))
theorem pe_tupZ {es : List Expr} {t : TA} {x1 : Nat} {pos : Pos} (h : PA X es t) : PE X (.Tuple es x1 pos) (tTupZ t) := by
  refine ⟨fun pins s σ H Q I hq => ?_⟩
  refine wpAny_Tuple_spliced (thn (h.run pos pins s σ H _ I hq) fun us s1 ⟨xs, H1, I1, r, z, q⟩ => ⟨by rw [← r.length]; exact z, ?_⟩)
  have hg : (s1.heap.push { cls := .type "tuple", data := .seq us.toArray }).get? s1.heap.objs.size = some { cls := .type "tuple", data := .seq us.toArray } := Heap.get?_push_size _ rfl
  exact ⟨.ref s1.heap.objs.size, upd H1 s1.heap.objs.size (.frz { cls := .type "tuple", data := .seq us.toArray } (.tup xs)), I1.laid (t' := s1.toks) (fun b u e => Heap.get?_push_of_some _ e) (Nat.le_refl _) ⟨hg, z, us, r, ⟨_, hg, rfl, _, rfl⟩⟩, rfl, q _ _ rfl rfl (I1.hok.fresh (Nat.le_refl _))⟩
/-- dict(t), t a tuple of pairs -/
theorem call_dictT (hcalm : X.calm = true) : CallR X (.type "dict") (fun xs H Q => ∃ (a : Addr) (ps : List Addr) (kvs : List (Key × V)), xs = [.ref a] ∧ PlT X.K H a (ps.map V.ref) ∧ Paired (fun p kv => SqT X.K H p [kV kv.1, kv.2]) ps kvs ∧
    ∀ p, H p = none → Q (.ref p) (upd H p (.dK (mergeK [] kvs)))) := by
  intro pins s σ H xs us Q I r q
  obtain ⟨a, ps, kvs, ex, hq, hp, q⟩ := q
  subst ex
  obtain ⟨u, eu, rx⟩ := vals1 r
  subst eu
  cases rx
  obtain ⟨its, rv, pl, hz⟩ := PlT.at_ I hq
  have ei := refs_at rv
  subst ei
  rw [List.length_map] at hz
  obtain ⟨prs, rel, hl, hpr⟩ := pairs_of I hp
  -- the pairs by their values: the keys' own values stand in the tuples
  have hkeys : ∀ j : Nat, ∃ u : Value, ∀ q : Key × Value, prs[j]? = some q → ∃ b : Addr, ps[j]? = some b ∧ IsTup s.heap b #[u, q.2] ∧ keyIs q.1 u = true := fun j => by
    cases e : prs[j]? with
    | none => exact ⟨.none, fun q h => by cases h⟩
    | some q =>
      obtain ⟨b, u, e1, e2, e3⟩ := hpr j q e
      exact ⟨u, fun q' h => by cases h; exact ⟨b, e1, e2, e3⟩⟩
  obtain ⟨kf, hkf⟩ : ∃ kf : Nat → Value, ∀ (j : Nat) (q : Key × Value), prs[j]? = some q → ∃ b : Addr, ps[j]? = some b ∧ IsTup s.heap b #[kf j, q.2] ∧ keyIs q.1 (kf j) = true := ⟨fun j => (hkeys j).choose, fun j => (hkeys j).choose_spec⟩
  let vps : List (Value × Value) := (List.range prs.length).map fun j => (kf j, ((prs[j]?).map (·.2)).getD .none)
  have hvl : vps.length = prs.length := by simp [vps]
  have hv : ∀ j k v, vps[j]? = some (k, v) → ∃ q, prs[j]? = some q ∧ k = kf j ∧ v = q.2 := fun j k v e => by
    have hj : j < prs.length := by
      rw [← hvl]
      exact (List.getElem?_eq_some_iff.mp e).1
    simp only [vps, List.getElem?_map, List.getElem?_range hj, Option.map_some, Option.some.injEq, Prod.mk.injEq] at e
    obtain ⟨q, hq⟩ : ∃ q, prs[j]? = some q := ⟨_, List.getElem?_eq_getElem hj⟩
    rw [hq] at e
    exact ⟨q, hq, e.1.symm, e.2.symm⟩
  let Ts : Nat → Addr := fun j => (ps[j]?).getD 0
  have items : PySem.PairItems s.heap (ps.map Value.ref).toArray Ts vps := by
    refine ⟨by rw [List.size_toArray, List.length_map, hvl, hl], fun j k v e => ?_⟩
    obtain ⟨q, hq, rfl, rfl⟩ := hv j k v e
    obtain ⟨b, hb, ht, _⟩ := hkf j q hq
    have eT : Ts j = b := by simp [Ts, hb]
    rw [eT]
    exact ⟨by simp [hb], .inl ht⟩
  have P := PySem.PairArg.tuple (prog := X.prog) (w := X.w) a (ps.map Value.ref).toArray Ts vps
  refine PySem.call_dict_pairs (knd := mixKind X.prog X.w) (kvs := prs) P (I.ok.hd hcalm) ⟨pl, items⟩ ⟨hvl.symm, fun i key v hrel => ?_⟩ (by rw [hvl, hl]; exact hz) fun h' tk hd' k => ?_
  · obtain ⟨q, hq, rfl, rfl⟩ := hv i key v hrel
    obtain ⟨b, hb, ht, hk⟩ := hkf i q hq
    exact ⟨q.1, hq, hk⟩
  · have hm : (s.heap.objs.size == sysModules) = false := beq_eq_false_iff_ne.mpr (Nat.ne_of_gt I.big)
    have hlen : (mergeK [] kvs).length ≤ sizeLine := by
      refine Nat.le_trans (length_mergeK kvs []) ?_
      rw [List.length_nil, Nat.zero_add, rel.length, hl]
      exact hz
    exact ⟨.ref s.heap.objs.size, upd H s.heap.objs.size (.dK (mergeK [] kvs)), I.laid (t' := tk) (fun b o e => k b o (by simp) e) (Nat.le_refl _) (show ObjOk X.prog X.w _ _ _ (.dK (mergeK [] kvs)) from ⟨hlen, hm, merged [] prs, KV.merge rel .nil, hd'⟩), rfl, q _ (I.hok.fresh (Nat.le_refl _))⟩
end
end NB

/-! for i, x in enumerate(t), t a tuple -/
namespace NB
open PySem PySem.Spec PyProof.Rows L2
theorem enum1_make {v : Value} {o : Obj} {Hq : Heap → Prop} (B : Begins v o Hq) :
    Meets (Builtin.«enumerate.__new__» ⟨[.type "enumerate", v], []⟩) (fun _ R s => Hq s.heap ∧
      R (.ok (.ret (.ref (s.heap.push o).objs.size))) { s with heap := (s.heap.push o).push { cls := .type "enumerate", data := .fields #[.none, .bool false, .ref s.heap.objs.size, rawInt 0, .none, .none] } }) :=
  .of_wp fun prog w A R s h => by
    obtain ⟨hp, g, d, tk, os⟩ := s
    obtain ⟨h1, h⟩ := h
    have hsub := sub_enumerate
    have q1 : ∀ {A' : Around} {E : Value → Shared → Prop} {Q : Value → Shared → Prop}, Q (.ref hp.objs.size) ⟨hp.push o, g, d, tk, os⟩ → wpAny (model prog w) A' (pyIter v) Q E ⟨hp, g, d, tk, os⟩ :=
      fun q => B.iter prog w _ _ ⟨hp, g, d, tk, os⟩ _ h1 q
    wp_walk using q1
    refine wpAny_stack_any fun st => wpAny_pure ?_
    split
    · rename_i c _ _ _ _ _
      cases (c == Value.type "enumerate")
      · wp_walk using q1
        exact ⟨_, rfl, h⟩
      · wp_walk using q1
        exact ⟨_, rfl, h⟩
    · wp_walk using q1
      exact ⟨_, rfl, h⟩
theorem call_enum1 {prog : Program} {w : World} {A : Around} {E : Value → Shared → Prop} {s : Shared} {v : Value} {o : Obj} {Hq : Heap → Prop} {Q : Value → Shared → Prop} (B : Begins v o Hq) (h1 : Hq s.heap)
    (h : ∀ h', IsEnum h' (s.heap.objs.size + 1) s.heap.objs.size 0 .none → h'.get? s.heap.objs.size = some o → (∀ b u, s.heap.get? b = some u → h'.get? b = some u) → Q (.ref (s.heap.objs.size + 1)) { s with heap := h' }) :
    wpAny (model prog w) A (call (.type "enumerate") [v]) Q E s := by
  refine callType_new F.called_enumerate (by decide) (F.typeCall_enumerate_1 _) (F.newCall_enumerate_1 _) (fun obj => F.args_object_init_2 obj _) F.entry_enumerate_new (enum1_make B) ⟨h1, ?_⟩
  have hz : (s.heap.push o).objs.size = s.heap.objs.size + 1 := Heap.size_push ..
  show _ ∧ _
  rw [hz]
  have he : IsEnum ((s.heap.push o).push { cls := .type "enumerate", data := .fields #[.none, .bool false, .ref s.heap.objs.size, rawInt 0, .none, .none] }) (s.heap.objs.size + 1) s.heap.objs.size 0 .none := by
    have := Heap.get?_push_size (s.heap.push o) (o := { cls := .type "enumerate", data := .fields #[.none, .bool false, .ref s.heap.objs.size, rawInt 0, .none, .none] }) rfl
    rw [hz] at this
    exact this
  exact ⟨⟨_, he, rfl⟩, h _ he (Heap.get?_push_of_some _ (Heap.get?_push_size _ B.free)) fun b u x => Heap.get?_push_of_some _ (Heap.get?_push_of_some _ x)⟩
/-- the tuple's items, each in a new pair with its number -/
def IeT (K : PySem.W.Frag) (a : Addr) : It :=
  ⟨fun i H => ∃ (xs : List V) (x : V), SqT K H a xs ∧ xs[i]? = some x, fun i H v H' => ∃ T x, v = .ref T ∧ H T = none ∧ H' = upd H T (.tup [.int (i : Nat), x]) ∧ ∀ xs, SqT K H a xs → xs[i]? = some x, fun i H => ∃ xs : List V, SqT K H a xs ∧ xs.length = i⟩
theorem turn_enumT {P : Program} {w : World} {K : PySem.W.Frag} {elts : List Expr} {kk : Nat} {tpos : Pos} (a e it : Addr) (hae : e ≠ a) (hai : a ≠ it) :
    Turn P w K (.Tuple elts kk tpos) (IeT K a) [e, it] e (fun i h => (∃ old, IsEnum h e it ((i : Nat) : Int) old) ∧ h.IsTupleIter it a i ∧ e ≠ it) where
  mem := by simp
  obj := fun i h st b hb => by
    obtain ⟨⟨old, he⟩, ⟨o, ho, hc, hd⟩, _⟩ := st
    have e' : b = e ∨ b = it := by simpa using hb
    rcases e' with z | z
    · rw [z]; exact ⟨_, he, fun v q => nomatch q⟩
    · rw [z]; exact ⟨o, ho, fun v q => by rw [hd] at q; cases q⟩
  keep := fun i h h' st k => let ⟨⟨old, he⟩, hi, hne⟩ := st; ⟨⟨old, k e (by simp) _ he⟩, hi.at fun o q => k it (by simp) o q, hne⟩
  item := by
    intro X hP hw hK hc i pins s σ H E I hf st hg
    subst hP hw hK
    obtain ⟨⟨old, he⟩, hit, hne⟩ := st
    obtain ⟨xs, x, hq, hx⟩ := hg
    obtain ⟨its, rv, p, hz⟩ := I.tuple hq
    obtain ⟨u, hu, ru⟩ := rv.get hx
    have hel : e < s.heap.objs.size := Heap.lt_size he
    have hil : it < s.heap.objs.size := by obtain ⟨_, q, _⟩ := hit; exact Heap.lt_size q
    have hlt : i < its.toArray.size := by
      rw [List.size_toArray]
      exact (List.getElem?_eq_some_iff.mp hu).1
    have D := Draws.tuple (prog := X.prog) (w := X.w) (A := X.A.in1) (show X.A.in1.handled = none from I.ok.hd hc) it a hai its.toArray
    refine wpAny_pyNext_enum_itemC D he ⟨hit, p⟩ hlt hne (by simp [hne, hae]) fun u' h' tk hP ho hSt hT hsz hk => ?_
    have eu : u' = u := by
      have : its.toArray[i]? = some u := by simpa using hu
      rw [this] at hP
      exact (Option.some.inj hP).symm
    subst eu
    refine ⟨_, rfl, wpAny_letOwnedTupleGo_enum (s := { s with heap := h', toks := tk + 1 }) ho fun h'' he' sb => ?_⟩
    have hT2 : h''.get? s.heap.objs.size = some { cls := .type "tuple", data := .seq #[.int i tk, u'] } := (sb.2 _ (Nat.ne_of_gt hel)).trans hT
    have new : ObjOk X.prog X.w (upd H s.heap.objs.size (.tup [.int (i : Nat), x])) h'' s.heap.objs.size (.tup [.int (i : Nat), x]) :=
      ⟨by show 2 ≤ sizeLine; decide, [.int i tk, u'], .cons ⟨_, rfl⟩ (.cons ru .nil), ⟨_, hT2, rfl, _, rfl⟩⟩
    have I1 : Inv X pins σ (upd H s.heap.objs.size (.tup [.int (i : Nat), x])) { s with heap := h'', toks := tk + 1 } :=
      I.turnedNew (ch := [e, it]) (fun b ob hb q => (sb.2 b (fun z => hb (by simp [z]))).trans (hk b ob (fun z => hb (by simp [z])) (fun z => hb (by simp [z])) q)) hf (Nat.le_refl _) new
    refine ⟨.ref s.heap.objs.size, _, I1, rfl, ⟨_, x, rfl, I.hok.fresh (Nat.le_refl _), rfl, fun ys hy => by rw [I.tuple_inj hy hq]; exact hx⟩, ⟨⟨u', ?_⟩, hSt.1.at fun o q => (sb.2 it (Ne.symm hne)).trans q, hne⟩, fun b hb => ?_⟩
    · have e1 : ((i + 1 : Nat) : Int) = (i : Int) + 1 := by omega
      rw [e1]; exact he'
    · have hb' : b < s.heap.objs.size := by
        have e' : b = e ∨ b = it := by simpa using hb
        rcases e' with z | z
        · rw [z]; exact hel
        · rw [z]; exact hil
      rw [upd_ne (Nat.ne_of_lt hb')]
      exact (hf b hb).1
  done := by
    intro X hP hw hK hc i pins s σ H E I hf st hg
    subst hP hw hK
    obtain ⟨⟨old, he⟩, hit, hne⟩ := st
    obtain ⟨xs, hq, hx⟩ := hg
    obtain ⟨its, rv, p, hz⟩ := I.tuple hq
    obtain ⟨f0, f1, f2, f3, f4, f5⟩ := hf it (by simp)
    have hl := rv.length
    have D := Draws.tuple (prog := X.prog) (w := X.w) (A := X.A.in1) (show X.A.in1.handled = none from I.ok.hd hc) it a hai its.toArray
    have hi : its.toArray.size = i := by
      rw [List.size_toArray]
      omega
    refine wpAny_pyNext_enum_endD D he (by rw [hi]; exact ⟨hit, p⟩) fun h' eb => ⟨rfl, I.turned (t' := s.toks) (fun b o hb q => eb b o hb q) f0 f1 f3 f4 f5⟩
  self := fun A i s Q E st h => let ⟨⟨_, he⟩, _⟩ := st; wpAny_pyIter_enum he h
def iEnumT (K : PySem.W.Frag) (ta : TA) : TI := fun σ H R => ta σ H fun vs H1 => ∃ a xs, vs = [.ref a] ∧ SqT K H1 a xs ∧ R (IeT K a) H1
theorem pi_enumT {X : Cx} {e : Expr} {ta : TA} {p pos tpos : Pos} {elts : List Expr} {kk : Nat} (hg : Gl X "enumerate") (hm : X.mg "enumerate" = none) (ha : PA X [e] ta) (hs : starEach [e] X.env = [(false, eval e X.env)] := by rfl) :
    PI X (.Tuple elts kk tpos) (.Call (.Name "enumerate" p) [e] [] pos) (iEnumT X.K ta) := by
  refine ⟨fun pins s σ H R I h => ?_⟩
  refine Call_ (ld_blt I hg hm boot_enumerate (PyProof.Rows.callWith_type1 (thn (ha.run pos pins s σ H _ I h) fun us s1 ⟨vs, H1, I1, r1, q1⟩ => ?_) hs rfl))
  obtain ⟨a, xs, ex, hq, q⟩ := q1
  subst ex
  cases r1 with
  | cons r rr =>
    cases rr
    cases r
    obtain ⟨its, rv, p', hz⟩ := I1.tuple hq
    have hal : a < s1.heap.objs.size := p'.lt
    refine call_enum1 (begins_tuple a its.toArray) p' fun h' he hit hk => wpAny_pyIter_enum he ?_
    have I2 : Inv X pins σ H1 { s1 with heap := h' } := I1.kept (t' := s1.toks) hk
    refine ⟨s1.heap.objs.size + 1, [s1.heap.objs.size + 1, s1.heap.objs.size], _, _, H1, rfl, I2, turn_enumT a (s1.heap.objs.size + 1) s1.heap.objs.size (Nat.ne_of_gt (Nat.lt_succ_of_lt hal)) (Nat.ne_of_lt hal), ⟨⟨.none, he⟩, ⟨_, hit, rfl, rfl⟩, Nat.succ_ne_self _⟩, fun b hb => ?_, q⟩
    have e' : b = s1.heap.objs.size + 1 ∨ b = s1.heap.objs.size := by simpa using hb
    have hle : s1.heap.objs.size ≤ b := by
      rcases e' with z | z
      · rw [z]; exact Nat.le_add_right _ _
      · rw [z]; exact Nat.le_refl _
    exact I1.fpOk hle (I1.hok.fresh hle)
end NB

/-! t[::-1], t[:0:-1] of a tuple -/
namespace NB
open PySem PySem.Spec PyProof.Rows L2 HT
section
variable {prog : Program} {w : World} {A : Around} {E : Value → Shared → Prop} {s : Shared}
/-- how many are left out ahead: t[::-1] none, t[:0:-1] the first -/
def backHi : Nat → Option Int
  | 0 => none
  | _ + 1 => some 0
theorem adjust_back {c n : Nat} (hc : c ≤ 1) (hn : c ≤ n) : Builtin.Slice.sliceAdjust none (backHi c) (-1) (n : Int) = ((n : Int) - 1, (c : Int) - 1) := by
  unfold Builtin.Slice.sliceAdjust
  match c, hc with
  | 0, _ => simp [backHi]
  | 1, _ =>
    simp [backHi]
    omega
theorem places_back {c n : Nat} (hn : c ≤ n) : Builtin.Slice.slicePlaces ((n : Int) - 1) ((c : Int) - 1) (-1) = n - c := by
  unfold Builtin.Slice.slicePlaces
  have h1 : ¬ ((-1 : Int) > 0) := by omega
  simp only [h1, if_false]
  have e : (- -1 : Int) = 1 := by decide
  rw [e, Int.ediv_one]
  split <;> omega
theorem applied_back {sl : Addr} {vu vc : Value} {c n : Nat} {Q : Int × Int × Nat → Shared → Prop} (hs : s.heap.IsSliceOf sl .none vu vc) (pu : IsPart vu (backHi c)) (pc : IsPart vc (some (-1))) (hc : c ≤ 1) (hn : c ≤ n)
    (h : Q ((n : Int) - 1, -1, n - c) s) : wpAny (model prog w) A (Builtin.Slice.sliceApplied (.ref sl) (pure (n : Int))) Q E s := by
  obtain ⟨os, hos, hcs, hds⟩ := id hs
  unfold Builtin.Slice.sliceApplied Builtin.Slice.sliceFields
  refine wpAny_bind (wpAny_bind (wpAny_field hos hds (x := .none) rfl (wpAny_bind (wpAny_field hos hds (x := vu) rfl (wpAny_bind (wpAny_field hos hds (x := vc) rfl (wpAny_pure ?_)))))))
  refine wpAny_bind (slicePart_ pc ?_)
  show wpAny _ _ (if ((-1 : Int) == 0) = true then _ else _) _ _ s
  rw [if_neg (by decide)]
  refine wpAny_bind (slicePart_none (wpAny_bind (slicePart_ pu (wpAny_bind (wpAny_pure ?_)))))
  show wpAny _ _ (match Builtin.Slice.sliceAdjust none (backHi c) (-1) (n : Int) with | (lo, hi) => pure (lo, (-1 : Int), Builtin.Slice.slicePlaces lo hi (-1))) _ _ s
  rw [adjust_back hc hn]
  show wpAny _ _ (pure (((n : Int) - 1), (-1 : Int), Builtin.Slice.slicePlaces ((n : Int) - 1) ((c : Int) - 1) (-1))) _ _ s
  rw [places_back hn]
  exact wpAny_pure h
theorem fmap_some {α β : Type} {f : α → Option β} {g : α → β} : ∀ {l : List α}, (∀ m ∈ l, f m = some (g m)) → l.filterMap f = l.map g
  | [], _ => rfl
  | a :: l, h => by
    rw [List.filterMap_cons, h a (List.mem_cons_self ..), List.map_cons]
    exact congrArg (List.cons (g a)) (fmap_some fun m hm => h m (List.mem_cons_of_mem _ hm))
theorem pick_back (xs : Array Value) (c : Nat) (hc : c ≤ xs.size) : ((List.range (xs.size - c)).filterMap fun (m : Nat) => xs[(((xs.size : Int) - 1) + (m : Int) * (-1)).toNat]?) = (xs.toList.drop c).reverse := by
  apply List.ext_getElem?
  intro i
  have e : ((List.range (xs.size - c)).filterMap fun (m : Nat) => xs[(((xs.size : Int) - 1) + (m : Int) * (-1)).toNat]?) = (List.range (xs.size - c)).map fun m => xs.toList.getD (xs.size - 1 - m) .none := by
    refine fmap_some fun m hm => ?_
    have hm' := List.mem_range.mp hm
    have z : (((xs.size : Int) - 1) + (m : Int) * (-1)).toNat = xs.size - 1 - m := by omega
    rw [z]
    have hl : xs.size - 1 - m < xs.size := by omega
    simp [hl]
  rw [e]
  by_cases hi : i < xs.size - c
  · have h2 : i < (xs.toList.drop c).length := by simp; omega
    rw [List.getElem?_map, List.getElem?_range hi, List.getElem?_reverse (by simpa using hi)]
    simp
    have h3 : xs.size - 1 - i < xs.size := by omega
    have h4 : c + (xs.size - c - 1 - i) = xs.size - 1 - i := by omega
    rw [h4]
    simp [h3]
  · rw [List.getElem?_eq_none_iff.mpr (by simp; omega), List.getElem?_eq_none_iff.mpr (by simp; omega)]
theorem getItem_back {t sl : Addr} {items : Array Value} {vu vc : Value} {c : Nat} {Q : Value → Shared → Prop} (ht : IsTup s.heap t items) (hs : s.heap.IsSliceOf sl .none vu vc) (pu : IsPart vu (backHi c)) (pc : IsPart vc (some (-1)))
    (hc : c ≤ 1) (hn : c ≤ items.size) (h : Q (.ref s.heap.objs.size) { s with heap := s.heap.push { cls := .type "tuple", data := .seq (items.toList.drop c).reverse.toArray } }) (hsz : items.size ≤ sizeLine) : wpAny (model prog w) A (getItem (.ref t) (.ref sl)) Q E s := by
  have htake : sizeOk (.seq (items.toList.drop c).reverse.toArray) := by
    show (items.toList.drop c).reverse.toArray.size ≤ sizeLine
    rw [List.size_toArray, List.length_reverse, List.length_drop, Array.length_toList]
    omega
  obtain ⟨os, hos, hcs, hds⟩ := id hs
  have hTs : s.TypeIs (.ref sl) "slice" := ⟨os, hos, hcs⟩
  unfold getItem
  try with_reducible refine wpAny_holding ?_
  first | refine wpAny_bind (wpAny_pure ?_) | skip
  refine wpAny_bind (wpAny_sequenceKey ht.typeIs (by decide) ?_)
  refine wpAny_bind (wpAny_callSpecial?_slot (name := Str.ofString "__getitem__") ht.typeIs PyProof.Rows.slot_tuple_getitem
    (wpAny_call_entry PyProof.Rows.slot_tuple_getitem ht.typeIs entry_tuple_getitem ?_ (args_tuple_getitem _ _)))
  show wpAny _ _ (Builtin.Tuple.tupleItemsOf (.ref t) >>= _) _ _ s
  refine wpAny_bind (tupleItemsOf_ ht ?_)
  refine wpAny_bind (wpAny_typeOf hTs ?_)
  rw [if_pos (by decide)]
  refine wpAny_bind (applied_back hs pu pc hc hn ?_)
  have hno : ¬ ((((items.size : Int) - 1) == 0 && (-1 : Int) == 1 && (items.size - c) == items.size) = true) := by
    rw [show ((-1 : Int) == 1) = false by decide, Bool.and_false, Bool.false_and]
    exact Bool.false_ne_true
  show wpAny _ _ (if (((items.size : Int) - 1) == 0 && (-1 : Int) == 1 && (items.size - c) == items.size) = true then _ else _) _ _ s
  rw [if_neg hno, pick_back items c hn]
  first
    | exact wpAny_bind (m := Builtin.Tuple.tupleExact _) (wpAny_newObj_type (wpAny_pure ⟨_, rfl, wpAny_pure h⟩) htake)
    | exact wpAny_bind (m := Builtin.Tuple.tupleExact _) (wpAny_newObj_type (wpAny_bind (wpAny_pure (wpAny_pure ⟨_, rfl, wpAny_pure h⟩))) htake)
    | exact wpAny_bind (wpAny_bind (m := Builtin.Tuple.tupleExact _) (wpAny_newObj_type (wpAny_pure (wpAny_pure ⟨_, rfl, wpAny_pure h⟩)) htake))
    | exact wpAny_bind (wpAny_bind (m := Builtin.Tuple.tupleExact _) (wpAny_newObj_type (wpAny_pure ⟨_, rfl, wpAny_pure h⟩) htake))
end
/-- t[::-1] (c = 0), t[:0:-1] (c = 1) -/
def tBack (K : PySem.W.Frag) (c : Nat) (te : TE) : TE := fun σ H Q => te σ H fun x H1 => ∃ a xs, x = .ref a ∧ SqT K H1 a xs ∧ c ≤ xs.length ∧ ∀ p, H1 p = none → Q (.ref p) (upd H1 p (.tup (xs.drop c).reverse))
section
variable {X : Cx}
theorem back_fin {pins : List (Addr × Obj)} {s : Shared} {σ : L2.St} {H : Hp} {a : Addr} {xs : List V} {vu vc : Value} {c : Nat} {Q : VK} (I : Inv X pins σ H s) (hx : SqT X.K H a xs) (pu : IsPart vu (backHi c)) (pc : IsPart vc (some (-1))) (hc : c ≤ 1) (hn : c ≤ xs.length)
    (q : ∀ p, H p = none → Q (.ref p) (upd H p (.tup (xs.drop c).reverse))) {value slice : Expr} {ops : List Value}
    (hw : subscripted slice false (.ref a) (.ref s.heap.objs.size) = operate ops (getItem (.ref a) (.ref s.heap.objs.size)))  :
    wpAny (model X.prog X.w) X.A (subscriptTail value slice (.ref a) (.ref s.heap.objs.size)) (EP X pins σ Q) X.xe { s with heap := s.heap.push { cls := .type "slice", data := .fields #[.none, vu, vc] } } := by
  have I5 : Inv X pins σ H { s with heap := s.heap.push { cls := .type "slice", data := .fields #[.none, vu, vc] } } := I.kept (t' := s.toks) fun b ob q => Heap.get?_push_of_some _ q
  obtain ⟨its, r, ht, hz⟩ := I5.tuple hx
  have hlen : its.toArray.size = xs.length := by rw [List.size_toArray]; exact r.length.symm
  refine tail_any (ops := ops) ht.typeIs (PyProof.Rows.slot_tuple_getitem.lookup) ?_ hw
  refine getItem_back ht (Heap.IsSliceOf.new _ _ vu vc) pu pc hc (by rw [hlen]; exact hn) ?_ (by rw [hlen]; exact hz)
  refine ⟨.ref _, _, I5.laid (t' := s.toks) (o := .tup (xs.drop c).reverse) (fun b ob q => Heap.get?_push_of_some _ q) (Nat.le_refl _) ?_, rfl, q _ (I5.hok.fresh (Nat.le_refl _))⟩
  refine ⟨?_, _, (r.drop c).reverse, IsTup.new _ _⟩
  rw [List.length_reverse, List.length_drop]
  omega
theorem pe_back0 {e : Expr} {te : TE} {k : Nat} {p1 p2 p3 pos : Pos} (he : PE X e te) : PE X (.Subscript e (.Slice none none (some (.UnaryOp .USub (.Constant (.int 1) k p1) p2)) p3) pos) (tBack X.K 0 te) := by
  refine ⟨fun pins s σ H Q I h => ?_⟩
  refine Subscript_ (thn (he.run pins s σ H _ I h) fun v s1 ⟨x, H1, I1, r1, q1⟩ => ?_)
  obtain ⟨a, xs, ex, hx, hn, q⟩ := q1
  subst ex
  cases r1
  have hst : PO X (some (.UnaryOp .USub (.Constant (.int 1) k p1) p2)) (tPart (tUn (rU fun i => .int (-i)) (tC (.int 1)))) := po_some (pe_un un_neg pe_int)
  refine wpAny_Slice (thn (po_none.run pins s1 σ H1 (fun o H2 => o = none ∧ H2 = H1) I1 ⟨rfl, rfl⟩) fun vl s2 ⟨l, H2, I2, pl, el, e2⟩ => ?_)
  subst el e2
  refine thn (po_none.run pins s2 σ H2 (fun o H3 => o = none ∧ H3 = H2) I2 ⟨rfl, rfl⟩) fun vu s3 ⟨u, H3, I3, pu, eu, e3⟩ => ?_
  subst eu e3
  refine thn (hst.run pins s3 σ H3 (fun o H4 => o = some (-1) ∧ H4 = H3) I3 ⟨1, rfl, -1, rfl, rfl, rfl⟩) fun vs s4 ⟨o, H4, I4, ps, eo, e4⟩ => ?_
  subst eo e4
  cases pl
  exact back_fin (ops := [.ref a, .ref s4.heap.objs.size]) I4 hx pu ps (Nat.zero_le _) hn q (by with_unfolding_all rfl)
theorem pe_back1 {e : Expr} {te : TE} {k j : Nat} {p0 p1 p2 p3 pos : Pos} (he : PE X e te) : PE X (.Subscript e (.Slice none (some (.Constant (.int 0) j p0)) (some (.UnaryOp .USub (.Constant (.int 1) k p1) p2)) p3) pos) (tBack X.K 1 te) := by
  refine ⟨fun pins s σ H Q I h => ?_⟩
  refine Subscript_ (thn (he.run pins s σ H _ I h) fun v s1 ⟨x, H1, I1, r1, q1⟩ => ?_)
  obtain ⟨a, xs, ex, hx, hn, q⟩ := q1
  subst ex
  cases r1
  have hst : PO X (some (.UnaryOp .USub (.Constant (.int 1) k p1) p2)) (tPart (tUn (rU fun i => .int (-i)) (tC (.int 1)))) := po_some (pe_un un_neg pe_int)
  have hu0 : PO X (some (.Constant (.int 0) j p0)) (tPart (tC (.int 0))) := po_some pe_int
  refine wpAny_Slice (thn (po_none.run pins s1 σ H1 (fun o H2 => o = none ∧ H2 = H1) I1 ⟨rfl, rfl⟩) fun vl s2 ⟨l, H2, I2, pl, el, e2⟩ => ?_)
  subst el e2
  refine thn (hu0.run pins s2 σ H2 (fun o H3 => o = some 0 ∧ H3 = H2) I2 ⟨0, rfl, rfl, rfl⟩) fun vu s3 ⟨u, H3, I3, pu, eu, e3⟩ => ?_
  subst eu e3
  refine thn (hst.run pins s3 σ H3 (fun o H4 => o = some (-1) ∧ H4 = H3) I3 ⟨1, rfl, -1, rfl, rfl, rfl⟩) fun vs s4 ⟨o, H4, I4, ps, eo, e4⟩ => ?_
  subst eo e4
  cases pl
  exact back_fin (ops := [.ref a, .ref s4.heap.objs.size]) I4 hx pu ps (Nat.le_refl _) hn q (by with_unfolding_all rfl)
end
end NB

/-! xs.extend(t), t any tuple -/
namespace NB
open PySem PySem.Spec PyProof.Rows L2
section
open PySem.AutoSeq1
set_option maxRecDepth 8000 in
theorem list_extend_tup (l : Addr) (items : Array Value) (n : Nat) (b : Addr) (db : Option Addr) (sb : Array (Option Value)) (items2 : Array Value) (n2 : Nat) (hs0 : ¬(!items.isEmpty && Builtin.List.listTooLong (items.size + items2.size)) = true) (hs1 : items.size ≤ sizeLine) (hs2 : items.size + items2.size ≤ sizeLine + 1) :
    Meets (Builtin.«list.extend» ⟨[.ref l, .ref b], []⟩) (fun _ R s => s.heap.get? l = some { cls := .type "list", dict := none, data := .seq items n, slots := #[] } ∧ s.heap.get? b = some ⟨.type "tuple", db, .seq items2 n2, sb⟩ ∧ R (.ok (.ret Value.none)) { s with heap := s.heap.update l (Obj.mapSeq fun x => x ++ items2), toks := s.toks }) :=
  .of_wp fun prog w A R s h => by
    obtain ⟨hp, g, d, tk, os⟩ := s; obtain ⟨hl, hb, h⟩ := h
    have hz' : (items ++ items2).size ≤ sizeLine + 1 := by rw [Array.size_append]; exact hs2
    wp_walk using (wpAny_updateSeq hl rfl (hz := hs1) (_hz' := hz')), wpAny_loadPart' hl, wpAny_loadPart' hb; exact ⟨_, rfl, h⟩
end
def rExtendT (K : PySem.W.Frag) : V → List V → Hp → VK → Prop := fun x vs H Q => ∃ l b xs zs, x = .ref l ∧ vs = [.ref b] ∧ H l = some (.lst xs) ∧ SqT K H b zs ∧ xs.length + zs.length ≤ sizeLine ∧ Q .non (upd H l (.lst (xs ++ zs)))
section
variable {X : Cx}
theorem mt_extendT : MtM X "list.extend" (rExtendT X.K) := by
  intro pins s σ H x vs v us Q I rx rv h
  obtain ⟨l, b, xs, zs, rfl, rfl, hH, hB, hz, q⟩ := h
  cases rx
  obtain ⟨u, rfl, ru⟩ := rv.one
  cases ru
  obtain ⟨z, its, n, r, hl, e⟩ := I.lstM hH
  obtain ⟨its2, r2, ⟨ob, ho2, hc2, n2, hd2⟩, hl2⟩ := I.tuple hB
  obtain ⟨cb, db, dd, sb⟩ := ob
  cases hc2
  cases hd2
  have e1 : its.length = xs.length := r.length.symm
  have e3 : its2.length = zs.length := r2.length.symm
  have hsz : its.toArray.size + its2.toArray.size ≤ sizeLine := by rw [List.size_toArray, List.size_toArray]; omega
  have hlong : ¬ (!its.toArray.isEmpty && Builtin.List.listTooLong (its.toArray.size + its2.toArray.size)) = true := by
    rw [notLongL hsz, Bool.and_false]
    exact Bool.false_ne_true
  refine call_meets F.slot_list_extend ⟨_, e, rfl⟩ F.entry_list_extend (F.args_list_extend_2 _ _)
    (list_extend_tup l its.toArray n b db sb its2.toArray n2 hlong (by rw [List.size_toArray]; omega) (by omega)) ⟨e, ho2, ?_⟩
  refine ⟨.non, _, I.lset (its' := its ++ its2) hH e (by simp) (r.append r2) ?_, rfl, q⟩
  rw [List.length_append]
  omega
end
end NB

/-! what stays of a heap; terms, their data -/
namespace NB
open PySem PySem.Spec PyProof.Rows L2 LamX
/-! ### what stays -/
/-- tuples stay -/
def Imm (H H' : Hp) : Prop := ∀ b xs, (H b = some (.tup xs) → H' b = some (.tup xs)) ∧ ∀ o, H b = some (.frz o (.tup xs)) → H' b = some (.frz o (.tup xs))
theorem Imm.refl (H : Hp) : Imm H H := fun _ _ => ⟨id, fun _ => id⟩
theorem Imm.trans {H H1 H2 : Hp} (a : Imm H H1) (b : Imm H1 H2) : Imm H H2 := fun c xs => ⟨fun h => (b c xs).1 ((a c xs).1 h), fun o h => (b c xs).2 o ((a c xs).2 o h)⟩
theorem Imm.of {H H' : Hp} (e : Same H H') : Imm H H' := fun b xs => ⟨fun h => e _ _ h, fun o h => e _ _ h⟩
theorem Imm.extN {H H' : Hp} (e : ExtN H H') : Imm H H' := fun b xs => ⟨fun h => e _ _ h (fun _ z => nomatch z), fun o h => e _ _ h (fun _ z => nomatch z)⟩
/-- a place that holds no tuple is written -/
theorem Imm.upd {H : Hp} {p : Addr} {o : HO} (h : (∀ xs, H p ≠ some (.tup xs)) ∧ ∀ u xs, H p ≠ some (.frz u (.tup xs))) : Imm H (upd H p o) := fun b xs => by
  by_cases e : b = p
  · subst e
    exact ⟨fun z => absurd z (h.1 xs), fun u z => absurd z (h.2 u xs)⟩
  · rw [upd_ne e]
    exact ⟨id, fun _ => id⟩
theorem Imm.new {H : Hp} {p : Addr} {o : HO} (h : H p = none) : Imm H (L2.upd H p o) := Imm.upd ⟨(fun _ z => nomatch (h.symm.trans z)), (fun _ _ z => nomatch (h.symm.trans z))⟩
theorem Imm.lst {H : Hp} {p : Addr} {xs : List V} {o : HO} (h : H p = some (.lst xs)) : Imm H (L2.upd H p o) := Imm.upd ⟨(fun _ z => nomatch (h.symm.trans z)), (fun _ _ z => nomatch (h.symm.trans z))⟩
theorem Imm.sq {K : PySem.W.Frag} {H H' : Hp} {a : Addr} {xs : List V} (i : Imm H H') (h : SqT K H a xs) : SqT K H' a xs := by
  rcases h with (h | ⟨o, h⟩) | h
  · exact .inl (.inl ((i a xs).1 h))
  · exact .inl (.inr ⟨o, (i a xs).2 o h⟩)
  · exact .inr h
theorem same_new {H : Hp} {p : Addr} {o : HO} (h : H p = none) : Same H (upd H p o) := fun b u e => by
  rw [upd_ne (ne_of_none e h)]
  exact e
/-- all but S and the tables stay -/
def Kp (S : List Addr) (H H' : Hp) : Prop := ∀ b o, H b = some o → b ∉ S → (∀ ps, o ≠ .tbl ps) → H' b = some o
theorem Kp.refl (S : List Addr) (H : Hp) : Kp S H H := fun _ _ h _ _ => h
theorem Kp.trans {S : List Addr} {H H1 H2 : Hp} (a : Kp S H H1) (b : Kp S H1 H2) : Kp S H H2 := fun c o h n t => b c o (a c o h n t) n t
theorem Kp.same {S : List Addr} {H H' : Hp} (e : Same H H') : Kp S H H' := fun b o h _ _ => e b o h
theorem Kp.extN {S : List Addr} {H H' : Hp} (e : ExtN H H') : Kp S H H' := fun b o h _ t => e b o h t
theorem Kp.mono {S S' : List Addr} {H H' : Hp} (e : Kp S H H') (s : ∀ b ∈ S, b ∈ S') : Kp S' H H' := fun b o h n t => e b o h (fun z => n (s b z)) t
theorem Kp.upd {S : List Addr} {H : Hp} {p : Addr} {o : HO} (h : p ∈ S) : Kp S H (L2.upd H p o) := fun b u e n _ => by
  have ne : b ≠ p := fun z => n (by rw [z]; exact h)
  rw [upd_ne ne]
  exact e
/-- behind H0, what S adds that H0 did not hold does not matter -/
theorem Kp.drop {S S' : List Addr} {H0 H' : Hp} (e : Kp S H0 H') (h : ∀ b ∈ S, b ∈ S' ∨ H0 b = none) : Kp S' H0 H' := fun b o hb n t => e b o hb (fun z => (h b z).elim n (fun q => by rw [q] at hb; cases hb)) t
theorem Kp.ext {H H' : Hp} (e : Kp [] H H') : ExtN H H' := fun b o h t => e b o h (fun z => nomatch z) t
/-- the places S hold lists or things told by what is true of them -/
def Mut (H : Hp) (S : List Addr) : Prop := ∀ b ∈ S, (∀ xs, H b ≠ some (.tup xs)) ∧ ∀ u xs, H b ≠ some (.frz u (.tup xs))
theorem Kp.imm {S : List Addr} {H H' : Hp} (e : Kp S H H') (m : Mut H S) : Imm H H' := fun b xs => ⟨fun h => e b _ h (fun z => (m b z).1 xs h) (fun _ z => nomatch z), fun o h => e b _ h (fun z => (m b z).2 o xs h) (fun _ z => nomatch z)⟩
structure Fr (T : List (Addr × Str)) (S : List Addr) (H H' : Hp) : Prop where
  kp : Kp S H H'
  tb : Tabs T H → Tabs T H'
theorem Fr.refl {T : List (Addr × Str)} {S : List Addr} (H : Hp) : Fr T S H H := ⟨Kp.refl S H, id⟩
theorem Fr.trans {T : List (Addr × Str)} {S : List Addr} {H H1 H2 : Hp} (a : Fr T S H H1) (b : Fr T S H1 H2) : Fr T S H H2 := ⟨a.kp.trans b.kp, fun t => b.tb (a.tb t)⟩
theorem Fr.same {T : List (Addr × Str)} {S : List Addr} {H H' : Hp} (e : Same H H') : Fr T S H H' := ⟨Kp.same e, fun t => t.ext e⟩
theorem Fr.mono {T : List (Addr × Str)} {S S' : List Addr} {H H' : Hp} (e : Fr T S H H') (s : ∀ b ∈ S, b ∈ S') : Fr T S' H H' := ⟨e.kp.mono s, e.tb⟩
theorem Fr.drop {T : List (Addr × Str)} {S S' : List Addr} {H0 H' : Hp} (e : Fr T S H0 H') (h : ∀ b ∈ S, b ∈ S' ∨ H0 b = none) : Fr T S' H0 H' := ⟨e.kp.drop h, e.tb⟩
/-- a place is written that is neither a table nor a code object -/
theorem tabs_put {T : List (Addr × Str)} {H : Hp} {p : Addr} {o : HO} (t : Tabs T H) (h1 : ∀ ps, H p ≠ some (.tbl ps)) (h2 : ∀ q, H p ≠ some (CodeO p q)) : Tabs T (upd H p o) := fun x hx => by
  obtain ⟨ps, a, b, c⟩ := t x hx
  refine ⟨ps, ?_, b, fun pos cv hc => ?_⟩
  · have n : x.1 ≠ p := fun z => h1 ps (by rw [← z]; exact a)
    rw [upd_ne n]
    exact a
  · obtain ⟨d, e1, e2⟩ := c pos cv hc
    refine ⟨d, e1, ?_⟩
    have n : d ≠ p := fun z => h2 x.2 (by rw [← z]; exact e2)
    rw [upd_ne n]
    exact e2
theorem codeO_lst {c : Addr} {q : Str} {xs : List V} : some (HO.lst xs) ≠ some (CodeO c q) := fun z => by
  unfold CodeO at z
  cases z
/-- the heap in which a code object stands at c -/
theorem codeO_not {c : Addr} {q : Str} {φ : Heap → Prop} (h : ∀ (hp : Heap) (o : Obj) (vs : Array Value), hp.get? c = some o → o.data = .fields vs → ¬ φ hp) : some (HO.ext φ) ≠ some (CodeO c q) := fun z => by
  unfold CodeO at z
  have e := HO.ext.inj (Option.some.inj z)
  let ob : Obj := { cls := .type "code", data := .fields #[.none, .str q 0] }
  let hp : Heap := { objs := (List.replicate (c + 1) ob).toArray }
  have hg : hp.get? c = some ob := by
    have e1 : hp.objs[c]? = some ob := by simp [hp]
    unfold Heap.get?
    rw [e1]
  have hq : φ hp := by
    rw [e]
    exact ⟨ob, #[.none, .str q 0], 0, hg, rfl, rfl⟩
  exact h hp ob _ hg rfl hq
theorem DN_code {P : Program} {w : World} {a : Addr} {kvs : List NE} {q : Str} : some (DN P w a kvs) ≠ some (CodeO a q) := codeO_not fun hp o vs hg hd ⟨_, _, xs, _, o', es, ep, h1, _, h2, _⟩ => by
  rw [hg] at h1
  cases h1
  rw [hd] at h2
  cases h2
theorem DN_tup {P : Program} {w : World} {a : Addr} {kvs : List NE} {xs : List V} : some (DN P w a kvs) ≠ some (.tup xs) := fun z => by
  unfold DN at z
  cases z
theorem DN_frz {P : Program} {w : World} {a : Addr} {kvs : List NE} {o : Obj} {u : HO} : some (DN P w a kvs) ≠ some (.frz o u) := fun z => by
  unfold DN at z
  cases z
theorem tabs_putL {T : List (Addr × Str)} {H : Hp} {p : Addr} {o : HO} {xs : List V} (t : Tabs T H) (h : H p = some (.lst xs)) : Tabs T (upd H p o) := tabs_put t (fun _ z => nomatch (h.symm.trans z)) (fun _ z => codeO_lst (h.symm.trans z))
theorem tabs_putN {P : Program} {w : World} {T : List (Addr × Str)} {H : Hp} {p : Addr} {o : HO} {kvs : List NE} (t : Tabs T H) (h : H p = some (DN P w p kvs)) : Tabs T (upd H p o) :=
  tabs_put t (fun _ z => by rw [h] at z; unfold DN at z; cases z) (fun _ z => DN_code (h.symm.trans z))
theorem tabs_putI {T : List (Addr × Str)} {H : Hp} {p : Addr} {o : HO} {C dx : Addr} {fs : List (Str × V)} (t : Tabs T H) (h : H p = some (.ins C dx fs)) : Tabs T (upd H p o) :=
  tabs_put t (fun _ z => nomatch (h.symm.trans z)) (fun _ z => by unfold CodeO at z; exact nomatch (h.symm.trans z))
theorem Fr.putL {T : List (Addr × Str)} {S : List Addr} {H : Hp} {p : Addr} {o : HO} {xs : List V} (h : H p = some (.lst xs)) (m : p ∈ S) : Fr T S H (upd H p o) := ⟨Kp.upd m, fun t => tabs_putL t h⟩
theorem Fr.putI {T : List (Addr × Str)} {S : List Addr} {H : Hp} {p : Addr} {o : HO} {C dx : Addr} {fs : List (Str × V)} (h : H p = some (.ins C dx fs)) (m : p ∈ S) : Fr T S H (upd H p o) := ⟨Kp.upd m, fun t => tabs_putI t h⟩
theorem Fr.putN {P : Program} {w : World} {T : List (Addr × Str)} {S : List Addr} {H : Hp} {p : Addr} {o : HO} {kvs : List NE} (h : H p = some (DN P w p kvs)) (m : p ∈ S) : Fr T S H (upd H p o) := ⟨Kp.upd m, fun t => tabs_putN t h⟩

/-! ### data without lists stay where tuples stay -/
mutual
def nl : PyData → Bool
  | .none => true
  | .bool _ => true
  | .int _ => true
  | .str _ => true
  | .tuple ds => nls ds
  | .list _ => false
  | .dict _ => false
def nls : List PyData → Bool
  | [] => true
  | d :: ds => nl d && nls ds
end
mutual
theorem Dp.imm {K : PySem.W.Frag} {H H' : Hp} (e : Imm H H') : ∀ (d : PyData) (v : V), nl d = true → Dp K H v d → Dp K H' v d
  | .none, _, _, h => by cases h; exact .non
  | .bool b, _, _, h => by cases h; exact .bl b
  | .int i, _, _, h => by cases h; exact .int i
  | .str x, _, _, h => by cases h; exact .str x
  | .list ds, _, n, h => by simp [nl] at n
  | .tuple ds, _, n, h => by
    cases h with
    | tup hs ha => exact .tup (e.sq hs) (DpAll.imm e ds _ (by simpa [nl] using n) ha)
  | .dict _, _, n, h => by simp [nl] at n
theorem DpAll.imm {K : PySem.W.Frag} {H H' : Hp} (e : Imm H H') : ∀ (ds : List PyData) (vs : List V), nls ds = true → DpAll K H vs ds → DpAll K H' vs ds
  | [], _, _, h => by cases h; exact .nil
  | d :: ds, _, n, h => by
    cases h with
    | cons h1 h2 =>
      have q := Bool.and_eq_true_iff.mp (show (nl d && nls ds) = true from n)
      exact .cons (Dp.imm e d _ q.1 h1) (DpAll.imm e ds _ q.2 h2)
end
/-- a text as data, at any heap -/
theorem Dp.tupI {K : PySem.W.Frag} {H : Hp} {a : Addr} {xs : List V} {ds : List PyData} (h : Dp K H (.ref a) (.tuple ds)) (hs : SqT K H a xs) (ha : DpAll K H xs ds) : Dp K H (.ref a) (.tuple ds) := .tup hs ha
theorem Dp.tupD {K : PySem.W.Frag} {H : Hp} {v : V} {ds : List PyData} (h : Dp K H v (.tuple ds)) : ∃ a xs, v = .ref a ∧ SqT K H a xs ∧ DpAll K H xs ds := by
  cases h with
  | tup hs ha => exact ⟨_, _, rfl, hs, ha⟩
theorem DpAll.consD {K : PySem.W.Frag} {H : Hp} {vs : List V} {d : PyData} {ds : List PyData} (h : DpAll K H vs (d :: ds)) : ∃ v ws, vs = v :: ws ∧ Dp K H v d ∧ DpAll K H ws ds := by
  cases h with
  | cons h1 h2 => exact ⟨_, _, rfl, h1, h2⟩
theorem DpAll.nilD {K : PySem.W.Frag} {H : Hp} {vs : List V} (h : DpAll K H vs []) : vs = [] := by
  cases h
  rfl
theorem Dp.strD {K : PySem.W.Frag} {H : Hp} {v : V} {x : Str} (h : Dp K H v (.str x)) : v = .str x := by
  cases h
  rfl
theorem Dp.intD {K : PySem.W.Frag} {H : Hp} {v : V} {i : Int} (h : Dp K H v (.int i)) : v = .int i := by
  cases h
  rfl
theorem DpAll.getD' {K : PySem.W.Frag} {H : Hp} : ∀ {vs : List V} {ds : List PyData} {i : Nat} {d : PyData}, DpAll K H vs ds → ds[i]? = some d → ∃ v, vs[i]? = some v ∧ Dp K H v d
  | _, _, _, _, .nil, h => by simp at h
  | _, _, 0, _, .cons h _, h2 => by
    simp at h2
    subst h2
    exact ⟨_, rfl, h⟩
  | _, _, i + 1, _, .cons _ t, h2 => by
    obtain ⟨v, h1, h3⟩ := DpAll.getD' (i := i) t (by simpa using h2)
    exact ⟨v, by simpa using h1, h3⟩
theorem DpAll.rev {K : PySem.W.Frag} {H : Hp} : ∀ {vs : List V} {ds : List PyData}, DpAll K H vs ds → DpAll K H vs.reverse ds.reverse
  | _, _, .nil => .nil
  | _, _, .cons h t => by
    rw [List.reverse_cons, List.reverse_cons]
    exact (DpAll.rev t).app (.cons h .nil)
theorem DpAll.splitD {K : PySem.W.Frag} {H : Hp} : ∀ {ds es : List PyData} {vs : List V}, DpAll K H vs (ds ++ es) → ∃ xs ys, vs = xs ++ ys ∧ DpAll K H xs ds ∧ DpAll K H ys es
  | [], _, vs, h => ⟨[], vs, rfl, .nil, h⟩
  | d :: ds, es, _, h => by
    obtain ⟨v, ws, rfl, h1, h2⟩ := DpAll.consD h
    obtain ⟨xs, ys, rfl, h3, h4⟩ := DpAll.splitD h2
    exact ⟨v :: xs, ys, rfl, .cons h1 h3, h4⟩

/-! ### terms -/
inductive Tm where
  | mk (s : Str) (ps : List Tm)
namespace Tm
def sg : Tm → Str
  | .mk s _ => s
def parts : Tm → List Tm
  | .mk _ ps => ps
mutual
def data : Tm → PyData
  | .mk s ps => .tuple (.str s :: datas ps)
def datas : List Tm → List PyData
  | [] => []
  | t :: ts => data t :: datas ts
end
mutual
/-- all terms within, a term ahead of its parts -/
def pre : Tm → List Tm
  | .mk s ps => .mk s ps :: pres ps
def pres : List Tm → List Tm
  | [] => []
  | t :: ts => pre t ++ pres ts
end
theorem datas_map : ∀ ts : List Tm, datas ts = ts.map data
  | [] => rfl
  | t :: ts => by rw [datas, List.map_cons, datas_map ts]
theorem datas_app (a b : List Tm) : datas (a ++ b) = datas a ++ datas b := by simp [datas_map]
theorem datas_rev (a : List Tm) : datas a.reverse = (datas a).reverse := by simp [datas_map]
theorem datas_len (a : List Tm) : (datas a).length = a.length := by simp [datas_map]
theorem pres_app : ∀ a b : List Tm, pres (a ++ b) = pres a ++ pres b
  | [], b => rfl
  | t :: ts, b => by rw [List.cons_append, pres, pres, pres_app ts b, List.append_assoc]
theorem pres_step (s : Str) (ps r : List Tm) : pres (.mk s ps :: r) = .mk s ps :: pres (ps ++ r) := by
  rw [pres, pre, pres_app, List.cons_append]
mutual
theorem nl_data : ∀ t : Tm, nl (data t) = true
  | .mk s ps => by rw [data, nl, nls, nl, nl_datas ps]; rfl
theorem nl_datas : ∀ ts : List Tm, nls (datas ts) = true
  | [] => rfl
  | t :: ts => by rw [datas, nls, nl_data t, nl_datas ts]; rfl
end
theorem pre_ne (t : Tm) : pre t ≠ [] := by
  cases t
  rw [pre]
  exact fun z => nomatch z
theorem pre_pos (t : Tm) : 0 < (pre t).length := List.length_pos_iff.mpr (pre_ne t)
theorem pres_len : ∀ ts : List Tm, ts.length ≤ (pres ts).length
  | [] => Nat.le_refl _
  | t :: ts => by
    rw [pres, List.length_append, List.length_cons]
    have := pre_pos t
    have := pres_len ts
    omega
end Tm
end NB

/-! own exception classes two steps below ValueError, whose __init__ calls that of the class between -/
namespace NB
open PySem PySem.Spec PyProof.Rows L2
section
variable {X : Cx} {o e : Expr} {es : List Expr} {to te : TE} {ta : TA} {f : Str} {p p' p1 p2 pos : Pos}
/-- Base.__init__(self, ..), Base an own class directly over ValueError, without an __init__ of its own -/
theorem pe_baseInit {x : Str} {L : Addr} {pl : Sem Bool} (hg : Gl X x) (hm : X.mg x = some (.ref L)) (vG : PySem.W.specialIn X.K (.ref L) "__getattribute__" = some (some (.builtin "type.__getattribute__"))) (vT : PySem.W.typeIn X.K (.ref L) = some (.type "type"))
    (vR : PySem.W.readsIn X.K L (.type "type") = true) (vV : PySem.W.findCls X.K (.ref L) (.type "type") "__init__" = some (.val (.builtin "ValueError.__init__"))) (ha : PA X (e :: es) ta)
    (hc : eval (.Call (.Attribute (.Name x p1) "__init__" p2) (e :: es) [] pos) X.env = (do
      let ov ← eval (.Name x p1) X.env
      standAt p2.atName
      let (f, first) ← holding [ov] (getMethod ov "__init__" pl)
      callWith pos f first (backTo pos (starEach (e :: es) X.env)) (backToKw pos (keywordEach [] X.env))) := by rfl) (hdb : (x == ("__debug__" : Str)) = false := by decide)
    (he : starEach (e :: es) X.env = (false, eval e X.env) :: starEach es X.env := by rfl) (hpl : (backTo pos (starEach es X.env)).any (·.1) = false := by rfl) :
    PE X (.Call (.Attribute (.Name x p1) "__init__" p2) (e :: es) [] pos) (tVeI X.K ta) := by
  refine ⟨fun pins s σ H Q I h => ?_⟩
  refine PySem.W.methodCall_KW (ld_glob I hg hm ?_ hdb) hc
  obtain ⟨m, fr⟩ := I.fr
  refine PySem.W.method_of_cls fr I.ok.mod.kin vG ?_
  refine PySem.W.cls_val fr I.ok.mod.kin vT vR vV (by decide +kernel) ?_
  show wpAny _ _ (callWith pos (Value.builtin "ValueError.__init__") [] (backTo pos (starEach (e :: es) X.env)) []) _ _ _
  refine PyProof.Rows.callWith_method1 (thn (ha.run pos pins _ σ H _ (I.tok _) h) fun us s1 ⟨vs, H1, I1, r1, a, C, ws, ev, hl, T, ea, q⟩ => ?_) he hpl
  subst ev
  cases r1 with
  | @cons _ u0 _ ur ra rw' =>
    obtain rfl : u0 = Value.ref a := ra
    have hlen : ur.length ≤ sizeLine := by
      rw [← Paired.length rw', sizeLine_eq]
      omega
    exact oinit_ok T I1 ea hlen fun s' J => ⟨.non, H1, J, rfl, q⟩
/-- the end of C(): an exception that has got no dict is let go -/
theorem mk_endN {pins : List (Addr × Obj)} {σ : L2.St} {H1 H2 : Hp} {Q : XK} {hp hp2 h2 : Heap} {g1 g2 : Array GenState} {d1 d2 : Drawn} {t1 t2 : Nat} {os1 os2 : OsState} {a C : Addr} (T : Raises X (.ref C)) (I1 : Inv X pins σ H1 ⟨hp, g1, d1, t1, os1⟩)
    (ha : hp.objs.size ≤ a) (k : ∀ b o, hp.get? b = some o → hp2.get? b = some o) (un : Un (frs X.stack) [] (upd H1 a (exo a C none)) H2 hp2 h2) (hok : HOk X.prog X.w H2 h2) (ho : os2 = os1) (hb : AllBare g2)
    (ea : H2 a = some (exo a C none)) (q : Q (.ref C) none (del H2 a)) : MkP X pins σ Q (.ref a) ⟨h2, g2, d2, t2, os2⟩ := by
  obtain ⟨t0, hoe⟩ := exo_at hok ea
  have hn : H1 a = none := I1.hok.fresh ha
  obtain ⟨G, g1', g2'⟩ := restrict h2 fun b => decide (b ≠ a)
  have gk : ∀ b, b ≠ a → G.get? b = h2.get? b := fun b hb => g1' b (decide_eq_true hb)
  have ge : G.get? a = none := g2' a (by simp)
  have nha : ∀ {b : Addr} {o : Obj}, hp.get? b = some o → b ≠ a := fun {b o} z => Nat.ne_of_lt (Nat.lt_of_lt_of_le (Heap.lt_size z) ha)
  have up : ∀ {b : Addr}, b ≠ a → H1 b = none → upd H1 a (exo a C none) b = none := fun {b} hb n => by rw [upd_ne hb]; exact n
  have U : Un (frs X.stack) [] H1 (del H2 a) hp G := {
    keep := fun b o z n hf hx => by
      rw [gk b (nha z)]
      exact un.keep b o (k b o z) (up (nha z) n) hf hx
    slot := fun b o z n hf hx => by
      rw [gk b (nha z)]
      exact un.slot b o (k b o z) (up (nha z) n) hf hx
    free := fun b o z n hx => by
      rw [del_ne (nha z)]
      exact un.free b o (k b o z) (up (nha z) n) hx
    there := fun b o z hx => by
      rw [gk b (nha z)]
      exact un.there b o (k b o z) hx
    tups := fun b xs z => by
      rw [del_ne (ne_of_none z hn)]
      exact un.tups b xs (by rw [upd_ne (ne_of_none z hn)]; exact z)
    frzs := fun b o v z => by
      rw [del_ne (ne_of_none z hn)]
      exact un.frzs b o v (by rw [upd_ne (ne_of_none z hn)]; exact z)
    tbls := fun b ps z => by
      rw [del_ne (ne_of_none z hn)]
      exact un.tbls b ps (by rw [upd_ne (ne_of_none z hn)]; exact z) }
  have hok3 : HOk X.prog X.w (del H2 a) G := fun b o z => by
    have hba : b ≠ a := fun e => by
      rw [e, del_same] at z
      cases z
    rw [del_ne hba] at z
    have noa : ∀ {c : Addr}, H2 c = some (.own b) → c ≠ a := fun {c} hc => at_ne ea hc exo_own
    exact (hok b o z).stay (fun c v hc y => by
        have hca : c ≠ a := by
          rcases hc with hc | hc
          · rw [hc]
            exact hba
          · exact noa hc
        rw [gk c hca]
        exact y)
      (fun c hc => by rw [del_ne (noa hc)]; exact hc) (fun c xs hc => by rw [del_ne (at_ne ea hc exo_tup)]; exact hc)
  have J : Inv X pins σ (del H2 a) ⟨G, g2, d2, t2, os2⟩ := I1.call' (ch := []) ho U hok3 hb (fun b z => absurd z (by simp))
  exact ⟨a, _, _, ⟨G, g2, d2, t2, os2⟩, _, .ref C, none, rfl, J, fun b o z => by
    by_cases hba : b = a
    · rw [hba, ge] at z
      cases z
    · exact (gk b hba).symm.trans z, ge, hoe, ⟨rfl, rfl⟩, rfl, rfl, del_same, rfl, hb, T, q⟩
/-- C(), C's own __init__ keeping sp and giving it no field -/
def tMkN (C : Addr) (sp : Sp) : L2.St → Hp → XK → Prop := fun σ H Q => ∀ a, H a = none → sp [.ref a] (upd H a (exo a C none)) (fun v H2 => v = .non ∧ H2 a = some (exo a C none) ∧ Q (.ref C) none (del H2 a)) (fun _ _ _ => False)
theorem pmk_oexN {CX : CXT} {x : Str} {C fI : Addr} {k : Nat} {fd : FuncData} {ps : List Str} {sp : Sp} (T : OexC X.K C) (iC : PySem.W.findIn X.K (.ref C) "__init__" = some (some (.ref fI))) (tI : PySem.W.typeIn X.K (.ref fI) = some (.type "function"))
    (F1 : FnOk X.prog X.w X.K X.mg X.base CX k fI fd ps sp) (hr : Room (k + 1) X.A) (hb : Binds X.K fd ps []) (hx : Passes CX X (fun _ _ _ => False)) (hg : Gl X x) (hm : X.mg x = some (.ref C))
    (hdb : (x == ("__debug__" : Str)) = false := by decide) :
    PMk X (.Call (.Name x p) [] [] pos) (tMkN C sp) := by
  intro pins s σ H Q I h
  obtain ⟨nm, q, N, bs, bm, sn, sub, ab, col, dd, k0, k1, k2, k3, k5, hC, hbm⟩ := T.cls
  refine wpAny_Call_Name_kw (ld_glob I hg hm ?_ hdb)
  refine PySem.W.callWith_K0 I.kIn T.kC ?_
  show wpAny _ _ (call (.ref C) []) _ _ _
  obtain ⟨hp, g, dr, tk, os⟩ := s
  have hsz : hp.objs.size ≤ hp.objs.size + 1 := Nat.le_succ _
  have hn : H (hp.objs.size + 1) = none := I.hok.fresh hsz
  have hq := h (hp.objs.size + 1) hn
  have kk : ∀ b o, hp.get? b = some o → ((hp.push (PySem.W.kdv_tup [])).push (PySem.HandSPX.excO C hp.objs.size)).get? b = some o := fun b o e => Heap.get?_push_of_some _ (Heap.get?_push_of_some _ e)
  have hget : ((hp.push (PySem.W.kdv_tup [])).push (PySem.HandSPX.excO C hp.objs.size)).get? (hp.objs.size + 1) = some (PySem.HandSPX.excO C hp.objs.size) := by heap_get
  have I2 : Inv X pins σ (upd H (hp.objs.size + 1) (exo (hp.objs.size + 1) C none)) ⟨(hp.push (PySem.W.kdv_tup [])).push (PySem.HandSPX.excO C hp.objs.size), g, dr, tk, os⟩ :=
    I.laid (t' := tk) (a := hp.objs.size + 1) (o := exo (hp.objs.size + 1) C none) (h' := (hp.push (PySem.W.kdv_tup [])).push (PySem.HandSPX.excO C hp.objs.size)) kk hsz (exo_ok hget)
  have r2 : Vals [V.ref (hp.objs.size + 1)] [Value.ref (hp.objs.size + 1)] := .cons rfl .nil
  have hl : ([Value.ref (hp.objs.size + 1)] ++ []).length = ps.length := by
    have e := r2.length
    rw [F1.len _ _ _ _ hq] at e
    exact e.symm
  refine wpAny_call (PySem.HandSPX.call_own F.excBase_ValueError (fun Y => PySem.HandSPX.refsVE_contains Y bm hbm) (I.kIn _ _ hC) (PySem.W.looks_findIn I.kIn iC) (fun self => PySem.W.bind_fn I.kIn self tI) (Nat.zero_le _)
    (codeAny_mono (F1.run _ X.stack _ _ ⟨[Value.ref (hp.objs.size + 1)], []⟩ [Value.ref (hp.objs.size + 1)] _ _ (fun _ _ _ => False) (hr.make C [] []) (I2.env0.make C [] []) (hb _ [Value.ref (hp.objs.size + 1)] I2.kIn hl) r2 hq) fun r s' hq' => ?_))
  cases r with
  | error er => exact hx pins σ _ _ er s' I2 hq'
  | ok fl =>
    cases fl with
    | ret u =>
      obtain ⟨v, H2, os2, bare2, un2, hok2, rv, ev, ea, q2⟩ := hq'
      subst ev
      obtain ⟨h2, g2, d2, t2, os'⟩ := s'
      exact ⟨rv, mk_endN (raises_own T.exC T.tyC) I hsz kk un2 hok2 os2 bare2 ea q2⟩
    | next => exact False.elim hq'
    | brk => exact False.elim hq'
    | cont => exact False.elim hq'
end
end NB

/-! isinstance(e, C) of a caught exception that has fields -/
namespace NB
open PySem PySem.Spec PyProof.Rows L2
theorem ExcC.xf {K : PySem.W.Frag} {D : Addr} (h : ExcC K D) : XfC K D := ⟨h.hg, h.hk, h.hs, h.hd⟩
def rIsX (K : PySem.W.Frag) (D a : Addr) (cls : Value) (d : Option Addr) : List V → Hp → VK → Prop := fun xs H Q => ∃ (c : V) (cv : Value) (b : Bool) (dd : Addr) (fs : List (Str × V)), cls = .ref D ∧ d = some dd ∧ H dd = some (.xd fs) ∧ xs = [.ref a, c] ∧ (∀ u, RelV c u → u = cv) ∧ PySem.W.kitOne K (.ref D) cv = some b ∧ Q (.bl b) H
theorem call_isX {X : Cx} {a D : Addr} {oe : Obj} {cls : Value} {d : Option Addr} {pn : List (Addr × Obj)} (C : ExcC X.K D) (hz : Zc cls d oe) (hf : ∃ vs, oe.data = .fields vs) : CallR (X.suite a ((a, oe) :: pn)) (.builtin "isinstance") (rIsX X.K D a cls d) := by
  intro pins s σ H xs us Q I r h
  obtain ⟨c, cv, b, dd, fs, ec, ed, ea, rfl, hcv, e, q⟩ := h
  subst ec
  subst ed
  cases r with
  | cons rx rr =>
    cases rr with
    | cons rt rr =>
      cases rr
      cases rx
      have ec := hcv _ rt
      subst ec
      obtain ⟨hget, _⟩ := I.pin (a, oe) (List.mem_append.mpr (.inl List.mem_cons_self))
      obtain ⟨vs, hv⟩ := hf
      have hx : ObjOk X.prog X.w H s.heap dd (.xd fs) := I.hok dd _ ea
      obtain ⟨mA, hns, hr⟩ := hx
      obtain ⟨od, ho, hl⟩ := lookIn_ns hns
      have J : PySem.W.InstAt s.heap a oe D (some od) := ⟨hget, hz.1, by unfold PySem.W.notCls; rw [hv] <;> rfl, by rw [hz.2]; exact ho⟩
      have hcl : (PySem.W.clsIn X.K D).isSome = true := by
        have z := C.hd
        cases q : PySem.W.clsIn X.K D with
        | some _ => rfl
        | none =>
          unfold PySem.W.hasDictIn at z
          rw [q] at z
          cases z
      exact PySem.W.kia_one (PySem.W.kitx_exc hcl C.hg C.hk C.hs C.ha C.hn C.ht C.hm) I.kIn J e (fun z => nomatch z) fun tk => ⟨.bl b, H, I.kept (t' := tk) fun _ _ z => z, rfl, q⟩
/-- C(..), whose __init__ may raise: what is wanted of the exception is the clause's -/
def tMakeS (C : Addr) (sp : Sp) (E : L2.St → XK) (t : TA) : TE := fun σ H Q => t σ H fun vs H1 => ∀ x dx, H1 x = none → H1 dx = none → dx ≠ x →
  sp (.ref x :: vs) (upd (upd H1 dx (.own x)) x (.ins C dx [])) (fun v H2 => v = .non ∧ Q (.ref x) H2) (E σ)
section
variable {X : Cx} {CX : CXT} {k : Nat} {f C : Addr} {fd : FuncData} {ps : List Str} {sp : Sp} {E : L2.St → XK} {x : Str} {p pos : Pos} {e : Expr} {es : List Expr} {t : TA}
theorem pe_makeS (M : Mk X.K C f) (F : FnOk X.prog X.w X.K X.mg X.base CX k f fd ps sp) (hr : Room (k + 1) X.A) (hg : Gl X x) (hm : X.mg x = some (.ref C)) (hb : Binds X.K fd ps []) (hx : ∀ σ, PassesAt CX X σ (E σ)) (ha : PA X (e :: es) t)
    (hdb : (x == ("__debug__" : Str)) = false := by decide) (he : starEach (e :: es) X.env = (false, eval e X.env) :: starEach es X.env := by rfl) (hpl : (backTo pos (starEach es X.env)).any (·.1) = false := by rfl) :
    PE X (.Call (.Name x p) (e :: es) [] pos) (tMakeS C sp E t) := by
  refine ⟨fun pins s σ H Q I h => ?_⟩
  refine wpAny_Call_Name_kw (ld_glob I hg hm ?_ hdb)
  refine PySem.W.callWith_K (h₀ := X.base) I.ok.mod.kin M.kp (thn (ha.run pos pins s σ H _ I h) fun us s1 ⟨vs, H1, J, r, q⟩ => ⟨J.kIn, ?_⟩) he hpl
  have q' := q (s1.heap.objs.size + 1) s1.heap.objs.size (J.hok.fresh (Nat.le_succ _)) (J.hok.fresh (Nat.le_refl _)) (Nat.ne_of_lt (Nat.lt_succ_self _))
  have J2 := Inv.made (C := C) J
  have r2 : Vals (V.ref (s1.heap.objs.size + 1) :: vs) (Value.ref (s1.heap.objs.size + 1) :: us) := .cons rfl r
  have hl : (Value.ref (s1.heap.objs.size + 1) :: us ++ []).length = ps.length := by
    rw [List.append_nil]
    exact (r2.length.symm.trans (F.len _ _ _ _ q'))
  have hbb := hb _ (Value.ref (s1.heap.objs.size + 1) :: us) J2.kIn hl
  rw [List.append_nil] at hbb
  refine wpAny_call (make_map (f := f) J.kIn M.makes M.init (beq_iff_eq.mp M.fn) (codeAny_mono (F.run _ X.stack _ _ ⟨Value.ref (s1.heap.objs.size + 1) :: us, []⟩ (Value.ref (s1.heap.objs.size + 1) :: us) _ _ (E σ) (hr.make C us [])
    (J2.env0.make C us []) hbb r2 q') fun rr s' hq' => ?_))
  cases rr with
  | error er => exact hx σ pins _ _ er s' J2 hq'
  | ok fl =>
    cases fl with
    | ret u =>
      obtain ⟨v, H', J3, rv, ev, q3⟩ := J2.after hq'
      subst ev
      exact ⟨rv, ⟨V.ref (s1.heap.objs.size + 1), H', J3, rfl, q3⟩⟩
    | next => exact False.elim hq'
    | brk => exact False.elim hq'
    | cont => exact False.elim hq'
end
end NB

namespace NB
open PySem PySem.Spec PyProof.Rows L2 LamX

/-! ### the text by places -/
def top (i : Nat) : Stmt := PySem.Challenge.pw_neatbooks_k15_hall_refused.main.body.getD i (.Pass ⟨0, 0, 0, 0⟩)
abbrev s_fits : Stmt := top 2
abbrev s_nodes : Stmt := top 3
abbrev s_words : Stmt := top 4
abbrev s_from_within : Stmt := top 5
abbrev s_Bank___init__ : Stmt := inClass (top 6) 0
abbrev s_Bank_number_of : Stmt := inClass (top 6) 1
abbrev s_Bank_take : Stmt := inClass (top 6) 2
abbrev s_Bank_take_lines : Stmt := inClass (top 6) 3
abbrev s_ascending : Stmt := top 7
abbrev s_Merger___init__ : Stmt := inClass (top 9) 0
abbrev s_Merger_home : Stmt := inClass (top 9) 1
abbrev s_Merger_unite : Stmt := inClass (top 9) 2
abbrev s_Merger_unite_likes : Stmt := inClass (top 9) 3
abbrev s_united : Stmt := top 10
abbrev s_Hall___init__ : Stmt := inClass (top 11) 0
abbrev s_Hall_worth : Stmt := inClass (top 11) 1
abbrev s_Spots___init__ : Stmt := inClass (top 12) 0
abbrev s_Spots_spot : Stmt := inClass (top 12) 1
abbrev s_Spots_spot_of : Stmt := inClass (top 12) 2
abbrev s_Spots_are_one : Stmt := inClass (top 12) 3
abbrev s_NoTerm___init__ : Stmt := inClass (top 16) 0
abbrev s_is_integer : Stmt := top 22
abbrev s_is_number_below : Stmt := top 23
abbrev s_is_tuple_of : Stmt := top 24
abbrev s_is_sign : Stmt := top 25
abbrev s_is_placed_sign : Stmt := top 26
abbrev s_are_signs : Stmt := top 27
abbrev s_Lore___init__ : Stmt := inClass (top 31) 0
abbrev s_Lore___eq__ : Stmt := inClass (top 31) 1
abbrev s_flat : Stmt := top 32
abbrev s_fits_line : Stmt := top 33
abbrev s_bank_of_told : Stmt := top 34
abbrev s_told_in : Stmt := top 35
abbrev s_is_term : Stmt := top 36
abbrev s_need_term : Stmt := top 37
abbrev s_size : Stmt := top 38
abbrev s_class_of : Stmt := top 40
abbrev s_equal : Stmt := top 41
abbrev s_sign_text : Stmt := top 43
abbrev s_text_of : Stmt := top 44
abbrev s_term_text : Stmt := top 45
abbrev s__law_pool : Stmt := top 47
abbrev s__law_draw : Stmt := top 48
abbrev s__law_deep : Stmt := top 49
abbrev s__law_signs : Stmt := top 50
abbrev s__law_term : Stmt := top 51
abbrev s__law_lines : Stmt := top 52
abbrev s__law_lore : Stmt := top 53
abbrev s__law_made : Stmt := top 54
abbrev s__law_size : Stmt := top 55
abbrev s__law_key : Stmt := top 56
abbrev s__law_within : Stmt := top 57
abbrev s__law_told : Stmt := top 58
abbrev s__law_is_term : Stmt := top 59
abbrev s__law_word : Stmt := top 60
abbrev s_law : Stmt := top 61
/-! ### what the top has made -/
structure Tx (K : PySem.W.Frag) (mg : Str → Option Value) where
  a_fits : Addr
  d_fits : FuncData
  F_fits : Fun K "fits" "fits" s_fits a_fits d_fits
  b_fits : Binds K d_fits ["places", "thing"] []
  m_fits : mg "fits" = some (.ref a_fits)
  a_nodes : Addr
  d_nodes : FuncData
  F_nodes : Fun K "nodes" "nodes" s_nodes a_nodes d_nodes
  b_nodes : Binds K d_nodes ["term"] []
  m_nodes : mg "nodes" = some (.ref a_nodes)
  a_words : Addr
  d_words : FuncData
  F_words : Fun K "words" "words" s_words a_words d_words
  b_words : Binds K d_words ["term"] []
  m_words : mg "words" = some (.ref a_words)
  a_from_within : Addr
  d_from_within : FuncData
  F_from_within : Fun K "from_within" "from_within" s_from_within a_from_within d_from_within
  b_from_within : Binds K d_from_within ["term", "maker"] []
  m_from_within : mg "from_within" = some (.ref a_from_within)
  a_Bank___init__ : Addr
  d_Bank___init__ : FuncData
  F_Bank___init__ : Fun K "__init__" "Bank.__init__" s_Bank___init__ a_Bank___init__ d_Bank___init__
  b_Bank___init__ : Binds K d_Bank___init__ ["self"] []
  a_Bank_number_of : Addr
  d_Bank_number_of : FuncData
  F_Bank_number_of : Fun K "number_of" "Bank.number_of" s_Bank_number_of a_Bank_number_of d_Bank_number_of
  b_Bank_number_of : Binds K d_Bank_number_of ["self", "sign", "parts"] []
  a_Bank_take : Addr
  d_Bank_take : FuncData
  F_Bank_take : Fun K "take" "Bank.take" s_Bank_take a_Bank_take d_Bank_take
  b_Bank_take : Binds K d_Bank_take ["self", "term"] []
  a_Bank_take_lines : Addr
  d_Bank_take_lines : FuncData
  F_Bank_take_lines : Fun K "take_lines" "Bank.take_lines" s_Bank_take_lines a_Bank_take_lines d_Bank_take_lines
  b_Bank_take_lines : Binds K d_Bank_take_lines ["self", "lines"] []
  a_ascending : Addr
  d_ascending : FuncData
  F_ascending : Fun K "ascending" "ascending" s_ascending a_ascending d_ascending
  b_ascending : Binds K d_ascending ["bank"] []
  m_ascending : mg "ascending" = some (.ref a_ascending)
  a_Merger___init__ : Addr
  d_Merger___init__ : FuncData
  F_Merger___init__ : Fun K "__init__" "Merger.__init__" s_Merger___init__ a_Merger___init__ d_Merger___init__
  b_Merger___init__ : Binds K d_Merger___init__ ["self", "many"] []
  a_Merger_home : Addr
  d_Merger_home : FuncData
  F_Merger_home : Fun K "home" "Merger.home" s_Merger_home a_Merger_home d_Merger_home
  b_Merger_home : Binds K d_Merger_home ["self", "number"] []
  a_Merger_unite : Addr
  d_Merger_unite : FuncData
  F_Merger_unite : Fun K "unite" "Merger.unite" s_Merger_unite a_Merger_unite d_Merger_unite
  b_Merger_unite : Binds K d_Merger_unite ["self", "one", "other", "line"] []
  a_Merger_unite_likes : Addr
  d_Merger_unite_likes : FuncData
  F_Merger_unite_likes : Fun K "unite_likes" "Merger.unite_likes" s_Merger_unite_likes a_Merger_unite_likes d_Merger_unite_likes
  b_Merger_unite_likes : Binds K d_Merger_unite_likes ["self", "shapes"] []
  a_united : Addr
  d_united : FuncData
  F_united : Fun K "united" "united" s_united a_united d_united
  b_united : Binds K d_united ["shapes", "pairs"] []
  m_united : mg "united" = some (.ref a_united)
  a_Hall___init__ : Addr
  d_Hall___init__ : FuncData
  F_Hall___init__ : Fun K "__init__" "Hall.__init__" s_Hall___init__ a_Hall___init__ d_Hall___init__
  b_Hall___init__ : Binds K d_Hall___init__ ["self", "lore"] []
  a_Hall_worth : Addr
  d_Hall_worth : FuncData
  F_Hall_worth : Fun K "worth" "Hall.worth" s_Hall_worth a_Hall_worth d_Hall_worth
  b_Hall_worth : Binds K d_Hall_worth ["self"] []
  a_Spots___init__ : Addr
  d_Spots___init__ : FuncData
  F_Spots___init__ : Fun K "__init__" "Spots.__init__" s_Spots___init__ a_Spots___init__ d_Spots___init__
  b_Spots___init__ : Binds K d_Spots___init__ ["self", "table"] []
  a_Spots_spot : Addr
  d_Spots_spot : FuncData
  F_Spots_spot : Fun K "spot" "Spots.spot" s_Spots_spot a_Spots_spot d_Spots_spot
  b_Spots_spot : Binds K d_Spots_spot ["self", "sign", "parts"] []
  a_Spots_spot_of : Addr
  d_Spots_spot_of : FuncData
  F_Spots_spot_of : Fun K "spot_of" "Spots.spot_of" s_Spots_spot_of a_Spots_spot_of d_Spots_spot_of
  b_Spots_spot_of : Binds K d_Spots_spot_of ["self", "term"] []
  a_Spots_are_one : Addr
  d_Spots_are_one : FuncData
  F_Spots_are_one : Fun K "are_one" "Spots.are_one" s_Spots_are_one a_Spots_are_one d_Spots_are_one
  b_Spots_are_one : Binds K d_Spots_are_one ["self", "one", "other"] []
  a_NoTerm___init__ : Addr
  d_NoTerm___init__ : FuncData
  F_NoTerm___init__ : Fun K "__init__" "NoTerm.__init__" s_NoTerm___init__ a_NoTerm___init__ d_NoTerm___init__
  b_NoTerm___init__ : Binds K d_NoTerm___init__ ["self"] []
  a_is_integer : Addr
  d_is_integer : FuncData
  F_is_integer : Fun K "is_integer" "is_integer" s_is_integer a_is_integer d_is_integer
  b_is_integer : Binds K d_is_integer ["thing"] []
  m_is_integer : mg "is_integer" = some (.ref a_is_integer)
  a_is_number_below : Addr
  d_is_number_below : FuncData
  F_is_number_below : Fun K "is_number_below" "is_number_below" s_is_number_below a_is_number_below d_is_number_below
  b_is_number_below : Binds K d_is_number_below ["thing", "limit"] []
  m_is_number_below : mg "is_number_below" = some (.ref a_is_number_below)
  a_is_tuple_of : Addr
  d_is_tuple_of : FuncData
  F_is_tuple_of : Fun K "is_tuple_of" "is_tuple_of" s_is_tuple_of a_is_tuple_of d_is_tuple_of
  b_is_tuple_of : Binds K d_is_tuple_of ["thing", "many"] []
  m_is_tuple_of : mg "is_tuple_of" = some (.ref a_is_tuple_of)
  a_is_sign : Addr
  d_is_sign : FuncData
  F_is_sign : Fun K "is_sign" "is_sign" s_is_sign a_is_sign d_is_sign
  b_is_sign : Binds K d_is_sign ["thing"] []
  m_is_sign : mg "is_sign" = some (.ref a_is_sign)
  a_is_placed_sign : Addr
  d_is_placed_sign : FuncData
  F_is_placed_sign : Fun K "is_placed_sign" "is_placed_sign" s_is_placed_sign a_is_placed_sign d_is_placed_sign
  b_is_placed_sign : Binds K d_is_placed_sign ["thing"] []
  m_is_placed_sign : mg "is_placed_sign" = some (.ref a_is_placed_sign)
  a_are_signs : Addr
  d_are_signs : FuncData
  F_are_signs : Fun K "are_signs" "are_signs" s_are_signs a_are_signs d_are_signs
  b_are_signs : Binds K d_are_signs ["thing"] []
  m_are_signs : mg "are_signs" = some (.ref a_are_signs)
  a_Lore___init__ : Addr
  d_Lore___init__ : FuncData
  F_Lore___init__ : Fun K "__init__" "Lore.__init__" s_Lore___init__ a_Lore___init__ d_Lore___init__
  b_Lore___init__ : Binds K d_Lore___init__ ["self", "signs", "lines"] []
  a_Lore___eq__ : Addr
  d_Lore___eq__ : FuncData
  F_Lore___eq__ : Fun K "__eq__" "Lore.__eq__" s_Lore___eq__ a_Lore___eq__ d_Lore___eq__
  b_Lore___eq__ : Binds K d_Lore___eq__ ["self", "other"] []
  a_flat : Addr
  d_flat : FuncData
  F_flat : Fun K "flat" "flat" s_flat a_flat d_flat
  b_flat : Binds K d_flat ["lines"] []
  m_flat : mg "flat" = some (.ref a_flat)
  a_fits_line : Addr
  d_fits_line : FuncData
  F_fits_line : Fun K "fits_line" "fits_line" s_fits_line a_fits_line d_fits_line
  b_fits_line : Binds K d_fits_line ["places", "thing"] []
  m_fits_line : mg "fits_line" = some (.ref a_fits_line)
  a_bank_of_told : Addr
  d_bank_of_told : FuncData
  F_bank_of_told : Fun K "bank_of_told" "bank_of_told" s_bank_of_told a_bank_of_told d_bank_of_told
  b_bank_of_told : Binds K d_bank_of_told ["lines"] []
  m_bank_of_told : mg "bank_of_told" = some (.ref a_bank_of_told)
  a_told_in : Addr
  d_told_in : FuncData
  F_told_in : Fun K "told_in" "told_in" s_told_in a_told_in d_told_in
  b_told_in : Binds K d_told_in ["lines"] []
  m_told_in : mg "told_in" = some (.ref a_told_in)
  a_is_term : Addr
  d_is_term : FuncData
  F_is_term : Fun K "is_term" "is_term" s_is_term a_is_term d_is_term
  b_is_term : Binds K d_is_term ["lore", "thing"] []
  m_is_term : mg "is_term" = some (.ref a_is_term)
  a_need_term : Addr
  d_need_term : FuncData
  F_need_term : Fun K "need_term" "need_term" s_need_term a_need_term d_need_term
  b_need_term : Binds K d_need_term ["lore", "thing"] []
  m_need_term : mg "need_term" = some (.ref a_need_term)
  a_size : Addr
  d_size : FuncData
  F_size : Fun K "size" "size" s_size a_size d_size
  b_size : Binds K d_size ["lore", "term"] []
  m_size : mg "size" = some (.ref a_size)
  a_class_of : Addr
  d_class_of : FuncData
  F_class_of : Fun K "class_of" "class_of" s_class_of a_class_of d_class_of
  b_class_of : Binds K d_class_of ["lore", "term"] []
  m_class_of : mg "class_of" = some (.ref a_class_of)
  a_equal : Addr
  d_equal : FuncData
  F_equal : Fun K "equal" "equal" s_equal a_equal d_equal
  b_equal : Binds K d_equal ["lore", "term", "other_term"] []
  m_equal : mg "equal" = some (.ref a_equal)
  a_sign_text : Addr
  d_sign_text : FuncData
  F_sign_text : Fun K "sign_text" "sign_text" s_sign_text a_sign_text d_sign_text
  b_sign_text : Binds K d_sign_text ["sign", "parts"] []
  m_sign_text : mg "sign_text" = some (.ref a_sign_text)
  a_text_of : Addr
  d_text_of : FuncData
  F_text_of : Fun K "text_of" "text_of" s_text_of a_text_of d_text_of
  b_text_of : Binds K d_text_of ["term"] []
  m_text_of : mg "text_of" = some (.ref a_text_of)
  a_term_text : Addr
  d_term_text : FuncData
  F_term_text : Fun K "term_text" "term_text" s_term_text a_term_text d_term_text
  b_term_text : Binds K d_term_text ["lore", "term"] []
  m_term_text : mg "term_text" = some (.ref a_term_text)
  a__law_pool : Addr
  d__law_pool : FuncData
  F__law_pool : Fun K "_law_pool" "_law_pool" s__law_pool a__law_pool d__law_pool
  b__law_pool : Binds K d__law_pool ["_law_script"] []
  m__law_pool : mg "_law_pool" = some (.ref a__law_pool)
  a__law_draw : Addr
  d__law_draw : FuncData
  F__law_draw : Fun K "_law_draw" "_law_draw" s__law_draw a__law_draw d__law_draw
  b__law_draw : Binds K d__law_draw ["_law_pool_here", "_law_many"] []
  m__law_draw : mg "_law_draw" = some (.ref a__law_draw)
  a__law_deep : Addr
  d__law_deep : FuncData
  F__law_deep : Fun K "_law_deep" "_law_deep" s__law_deep a__law_deep d__law_deep
  b__law_deep : Binds K d__law_deep [] []
  m__law_deep : mg "_law_deep" = some (.ref a__law_deep)
  a__law_signs : Addr
  d__law_signs : FuncData
  F__law_signs : Fun K "_law_signs" "_law_signs" s__law_signs a__law_signs d__law_signs
  b__law_signs : Binds K d__law_signs ["_law_pool_here"] []
  m__law_signs : mg "_law_signs" = some (.ref a__law_signs)
  a__law_term : Addr
  d__law_term : FuncData
  F__law_term : Fun K "_law_term" "_law_term" s__law_term a__law_term d__law_term
  b__law_term : Binds K d__law_term ["_law_pool_here", "_law_signs_here", "_law_deep_here"] []
  m__law_term : mg "_law_term" = some (.ref a__law_term)
  a__law_lines : Addr
  d__law_lines : FuncData
  F__law_lines : Fun K "_law_lines" "_law_lines" s__law_lines a__law_lines d__law_lines
  b__law_lines : Binds K d__law_lines ["_law_pool_here", "_law_signs_here", "_law_most", "_law_deep_here"] []
  m__law_lines : mg "_law_lines" = some (.ref a__law_lines)
  a__law_lore : Addr
  d__law_lore : FuncData
  F__law_lore : Fun K "_law_lore" "_law_lore" s__law_lore a__law_lore d__law_lore
  b__law_lore : Binds K d__law_lore ["_law_pool_here", "_law_most", "_law_deep_here"] []
  m__law_lore : mg "_law_lore" = some (.ref a__law_lore)
  a__law_made : Addr
  d__law_made : FuncData
  F__law_made : Fun K "_law_made" "_law_made" s__law_made a__law_made d__law_made
  b__law_made : Binds K d__law_made ["_law_spec"] []
  m__law_made : mg "_law_made" = some (.ref a__law_made)
  a__law_size : Addr
  d__law_size : FuncData
  F__law_size : Fun K "_law_size" "_law_size" s__law_size a__law_size d__law_size
  b__law_size : Binds K d__law_size ["_law_term_here"] []
  m__law_size : mg "_law_size" = some (.ref a__law_size)
  a__law_key : Addr
  d__law_key : FuncData
  F__law_key : Fun K "_law_key" "_law_key" s__law_key a__law_key d__law_key
  b__law_key : Binds K d__law_key ["_law_term_here"] []
  m__law_key : mg "_law_key" = some (.ref a__law_key)
  a__law_within : Addr
  d__law_within : FuncData
  F__law_within : Fun K "_law_within" "_law_within" s__law_within a__law_within d__law_within
  b__law_within : Binds K d__law_within ["_law_terms"] []
  m__law_within : mg "_law_within" = some (.ref a__law_within)
  a__law_told : Addr
  d__law_told : FuncData
  F__law_told : Fun K "_law_told" "_law_told" s__law_told a__law_told d__law_told
  b__law_told : Binds K d__law_told ["_law_lines_here"] []
  m__law_told : mg "_law_told" = some (.ref a__law_told)
  a__law_is_term : Addr
  d__law_is_term : FuncData
  F__law_is_term : Fun K "_law_is_term" "_law_is_term" s__law_is_term a__law_is_term d__law_is_term
  b__law_is_term : Binds K d__law_is_term ["_law_signs_here", "_law_thing"] []
  m__law_is_term : mg "_law_is_term" = some (.ref a__law_is_term)
  a__law_word : Addr
  d__law_word : FuncData
  F__law_word : Fun K "_law_word" "_law_word" s__law_word a__law_word d__law_word
  b__law_word : Binds K d__law_word ["_law_door", "_law_lore_here", "_law_one", "_law_other"] []
  m__law_word : mg "_law_word" = some (.ref a__law_word)
  a_law : Addr
  d_law : FuncData
  F_law : Fun K "law" "law" s_law a_law d_law
  b_law : Binds K d_law ["_law_script"] []
  m_law : mg "law" = some (.ref a_law)
  c_Bank : Addr
  cl_Bank : Cls K c_Bank
  m_Bank : mg "Bank" = some (.ref c_Bank)
  mk_Bank : Mk K c_Bank a_Bank___init__
  h_Bank_number_of : Meth K c_Bank "number_of" a_Bank_number_of
  h_Bank_take : Meth K c_Bank "take" a_Bank_take
  h_Bank_take_lines : Meth K c_Bank "take_lines" a_Bank_take_lines
  n_Bank_table : NoAttr K c_Bank "table"
  n_Bank_shapes : NoAttr K c_Bank "shapes"
  n_Bank_terms : NoAttr K c_Bank "terms"
  c_Merger : Addr
  cl_Merger : Cls K c_Merger
  m_Merger : mg "Merger" = some (.ref c_Merger)
  mk_Merger : Mk K c_Merger a_Merger___init__
  h_Merger_home : Meth K c_Merger "home" a_Merger_home
  h_Merger_unite : Meth K c_Merger "unite" a_Merger_unite
  h_Merger_unite_likes : Meth K c_Merger "unite_likes" a_Merger_unite_likes
  n_Merger_homes : NoAttr K c_Merger "homes"
  n_Merger_edges : NoAttr K c_Merger "edges"
  c_Hall : Addr
  cl_Hall : Cls K c_Hall
  m_Hall : mg "Hall" = some (.ref c_Hall)
  mk_Hall : Mk K c_Hall a_Hall___init__
  h_Hall_worth : Meth K c_Hall "worth" a_Hall_worth
  n_Hall_classes : NoAttr K c_Hall "classes"
  n_Hall_table : NoAttr K c_Hall "table"
  n_Hall_ways : NoAttr K c_Hall "ways"
  c_Spots : Addr
  cl_Spots : Cls K c_Spots
  m_Spots : mg "Spots" = some (.ref c_Spots)
  mk_Spots : Mk K c_Spots a_Spots___init__
  h_Spots_spot : Meth K c_Spots "spot" a_Spots_spot
  h_Spots_spot_of : Meth K c_Spots "spot_of" a_Spots_spot_of
  h_Spots_are_one : Meth K c_Spots "are_one" a_Spots_are_one
  n_Spots_table : NoAttr K c_Spots "table"
  n_Spots_further : NoAttr K c_Spots "further"
  c_Lore : Addr
  cl_Lore : Cls K c_Lore
  m_Lore : mg "Lore" = some (.ref c_Lore)
  mk_Lore : Mk K c_Lore a_Lore___init__
  q_Lore : NB.OwnEqC K c_Lore a_Lore___eq__
  n_Lore_signs : NoAttr K c_Lore "signs"
  n_Lore_lines : NoAttr K c_Lore "lines"
  u_LETTERS : Value
  m_LETTERS : mg "LETTERS" = some u_LETTERS
  r_LETTERS : L2.RelV (.str "abcdefghijklmnopqrstuvwxyz") u_LETTERS
  u_MOST_LETTERS : Value
  m_MOST_LETTERS : mg "MOST_LETTERS" = some u_MOST_LETTERS
  r_MOST_LETTERS : L2.RelV (.int 8) u_MOST_LETTERS
  u_MOST_PLACES : Value
  m_MOST_PLACES : mg "MOST_PLACES" = some u_MOST_PLACES
  r_MOST_PLACES : L2.RelV (.int 2) u_MOST_PLACES
  u_MOST_SIGNS : Value
  m_MOST_SIGNS : mg "MOST_SIGNS" = some u_MOST_SIGNS
  r_MOST_SIGNS : L2.RelV (.int 12) u_MOST_SIGNS
  u_MOST_LINES : Value
  m_MOST_LINES : mg "MOST_LINES" = some u_MOST_LINES
  r_MOST_LINES : L2.RelV (.int 24) u_MOST_LINES
  u_MOST_TOLD : Value
  m_MOST_TOLD : mg "MOST_TOLD" = some u_MOST_TOLD
  r_MOST_TOLD : L2.RelV (.int 60) u_MOST_TOLD
  z_ValueError : mg "ValueError" = none
  z_abs : mg "abs" = none
  z_all : mg "all" = none
  z_any : mg "any" = none
  z_bool : mg "bool" = none
  z_dict : mg "dict" = none
  z_enumerate : mg "enumerate" = none
  z_int : mg "int" = none
  z_isinstance : mg "isinstance" = none
  z_len : mg "len" = none
  z_list : mg "list" = none
  z_max : mg "max" = none
  z_range : mg "range" = none
  z_reversed : mg "reversed" = none
  z_sorted : mg "sorted" = none
  z_str : mg "str" = none
  z_sum : mg "sum" = none
  z_tuple : mg "tuple" = none
  z_zip : mg "zip" = none
  c_LoreError : Addr
  m_LoreError : mg "LoreError" = some (.ref c_LoreError)
  g_LoreError : PySem.W.specialIn K (.ref c_LoreError) "__getattribute__" = some (some (.builtin "type.__getattribute__"))
  y_LoreError : PySem.W.typeIn K (.ref c_LoreError) = some (.type "type")
  rd_LoreError : PySem.W.readsIn K c_LoreError (.type "type") = true
  v_LoreError : PySem.W.findCls K (.ref c_LoreError) (.type "type") "__init__" = some (.val (.builtin "ValueError.__init__"))
  c_NoTerm : Addr
  m_NoTerm : mg "NoTerm" = some (.ref c_NoTerm)
  o_NoTerm : OexC K c_NoTerm
  i_NoTerm : PySem.W.findIn K (.ref c_NoTerm) "__init__" = some (some (.ref a_NoTerm___init__))
  t_NoTerm : PySem.W.typeIn K (.ref a_NoTerm___init__) = some (.type "function")
  ex_NoTerm : ExcC K c_NoTerm
  k_NoTerm_NoTerm : PySem.W.kitOne K (.ref c_NoTerm) (.ref c_NoTerm) = some true
  k_NoTerm_ValueError : PySem.W.kitOne K (.ref c_NoTerm) (.type "ValueError") = some true
  e_NoTerm_LoreError : PySem.W.exmOne K (.ref c_NoTerm) (.ref c_LoreError) = some true
end NB

set_option maxHeartbeats 0
namespace NB
open PySem PySem.Spec PyProof.Rows L2 LamX
def dd_fits : He.DefD := ⟨("fits", none), "fits", "fits", defArgs s_fits, defBody s_fits, defScope s_fits, [], []⟩
def dd_nodes : He.DefD := ⟨("nodes", none), "nodes", "nodes", defArgs s_nodes, defBody s_nodes, defScope s_nodes, [], []⟩
def dd_words : He.DefD := ⟨("words", none), "words", "words", defArgs s_words, defBody s_words, defScope s_words, [], []⟩
def dd_from_within : He.DefD := ⟨("from_within", none), "from_within", "from_within", defArgs s_from_within, defBody s_from_within, defScope s_from_within, [], []⟩
def dd_Bank___init__ : He.DefD := ⟨("Bank", some "__init__"), "__init__", "Bank.__init__", defArgs s_Bank___init__, defBody s_Bank___init__, defScope s_Bank___init__, [], []⟩
def dd_Bank_number_of : He.DefD := ⟨("Bank", some "number_of"), "number_of", "Bank.number_of", defArgs s_Bank_number_of, defBody s_Bank_number_of, defScope s_Bank_number_of, [], []⟩
def dd_Bank_take : He.DefD := ⟨("Bank", some "take"), "take", "Bank.take", defArgs s_Bank_take, defBody s_Bank_take, defScope s_Bank_take, [], []⟩
def dd_Bank_take_lines : He.DefD := ⟨("Bank", some "take_lines"), "take_lines", "Bank.take_lines", defArgs s_Bank_take_lines, defBody s_Bank_take_lines, defScope s_Bank_take_lines, [], []⟩
def dd_ascending : He.DefD := ⟨("ascending", none), "ascending", "ascending", defArgs s_ascending, defBody s_ascending, defScope s_ascending, [], []⟩
def dd_Merger___init__ : He.DefD := ⟨("Merger", some "__init__"), "__init__", "Merger.__init__", defArgs s_Merger___init__, defBody s_Merger___init__, defScope s_Merger___init__, [], []⟩
def dd_Merger_home : He.DefD := ⟨("Merger", some "home"), "home", "Merger.home", defArgs s_Merger_home, defBody s_Merger_home, defScope s_Merger_home, [], []⟩
def dd_Merger_unite : He.DefD := ⟨("Merger", some "unite"), "unite", "Merger.unite", defArgs s_Merger_unite, defBody s_Merger_unite, defScope s_Merger_unite, [], []⟩
def dd_Merger_unite_likes : He.DefD := ⟨("Merger", some "unite_likes"), "unite_likes", "Merger.unite_likes", defArgs s_Merger_unite_likes, defBody s_Merger_unite_likes, defScope s_Merger_unite_likes, [], []⟩
def dd_united : He.DefD := ⟨("united", none), "united", "united", defArgs s_united, defBody s_united, defScope s_united, [], []⟩
def dd_Hall___init__ : He.DefD := ⟨("Hall", some "__init__"), "__init__", "Hall.__init__", defArgs s_Hall___init__, defBody s_Hall___init__, defScope s_Hall___init__, [], []⟩
def dd_Hall_worth : He.DefD := ⟨("Hall", some "worth"), "worth", "Hall.worth", defArgs s_Hall_worth, defBody s_Hall_worth, defScope s_Hall_worth, [], []⟩
def dd_Spots___init__ : He.DefD := ⟨("Spots", some "__init__"), "__init__", "Spots.__init__", defArgs s_Spots___init__, defBody s_Spots___init__, defScope s_Spots___init__, [], []⟩
def dd_Spots_spot : He.DefD := ⟨("Spots", some "spot"), "spot", "Spots.spot", defArgs s_Spots_spot, defBody s_Spots_spot, defScope s_Spots_spot, [], []⟩
def dd_Spots_spot_of : He.DefD := ⟨("Spots", some "spot_of"), "spot_of", "Spots.spot_of", defArgs s_Spots_spot_of, defBody s_Spots_spot_of, defScope s_Spots_spot_of, [], []⟩
def dd_Spots_are_one : He.DefD := ⟨("Spots", some "are_one"), "are_one", "Spots.are_one", defArgs s_Spots_are_one, defBody s_Spots_are_one, defScope s_Spots_are_one, [], []⟩
def dd_NoTerm___init__ : He.DefD := ⟨("NoTerm", some "__init__"), "__init__", "NoTerm.__init__", defArgs s_NoTerm___init__, defBody s_NoTerm___init__, defScope s_NoTerm___init__, [], []⟩
def dd_is_integer : He.DefD := ⟨("is_integer", none), "is_integer", "is_integer", defArgs s_is_integer, defBody s_is_integer, defScope s_is_integer, [], []⟩
def dd_is_number_below : He.DefD := ⟨("is_number_below", none), "is_number_below", "is_number_below", defArgs s_is_number_below, defBody s_is_number_below, defScope s_is_number_below, [], []⟩
def dd_is_tuple_of : He.DefD := ⟨("is_tuple_of", none), "is_tuple_of", "is_tuple_of", defArgs s_is_tuple_of, defBody s_is_tuple_of, defScope s_is_tuple_of, [], []⟩
def dd_is_sign : He.DefD := ⟨("is_sign", none), "is_sign", "is_sign", defArgs s_is_sign, defBody s_is_sign, defScope s_is_sign, [], []⟩
def dd_is_placed_sign : He.DefD := ⟨("is_placed_sign", none), "is_placed_sign", "is_placed_sign", defArgs s_is_placed_sign, defBody s_is_placed_sign, defScope s_is_placed_sign, [], []⟩
def dd_are_signs : He.DefD := ⟨("are_signs", none), "are_signs", "are_signs", defArgs s_are_signs, defBody s_are_signs, defScope s_are_signs, [], []⟩
def dd_Lore___init__ : He.DefD := ⟨("Lore", some "__init__"), "__init__", "Lore.__init__", defArgs s_Lore___init__, defBody s_Lore___init__, defScope s_Lore___init__, [], []⟩
def dd_Lore___eq__ : He.DefD := ⟨("Lore", some "__eq__"), "__eq__", "Lore.__eq__", defArgs s_Lore___eq__, defBody s_Lore___eq__, defScope s_Lore___eq__, [], []⟩
def dd_flat : He.DefD := ⟨("flat", none), "flat", "flat", defArgs s_flat, defBody s_flat, defScope s_flat, [], []⟩
def dd_fits_line : He.DefD := ⟨("fits_line", none), "fits_line", "fits_line", defArgs s_fits_line, defBody s_fits_line, defScope s_fits_line, [], []⟩
def dd_bank_of_told : He.DefD := ⟨("bank_of_told", none), "bank_of_told", "bank_of_told", defArgs s_bank_of_told, defBody s_bank_of_told, defScope s_bank_of_told, [], []⟩
def dd_told_in : He.DefD := ⟨("told_in", none), "told_in", "told_in", defArgs s_told_in, defBody s_told_in, defScope s_told_in, [], []⟩
def dd_is_term : He.DefD := ⟨("is_term", none), "is_term", "is_term", defArgs s_is_term, defBody s_is_term, defScope s_is_term, [], []⟩
def dd_need_term : He.DefD := ⟨("need_term", none), "need_term", "need_term", defArgs s_need_term, defBody s_need_term, defScope s_need_term, [], []⟩
def dd_size : He.DefD := ⟨("size", none), "size", "size", defArgs s_size, defBody s_size, defScope s_size, [], []⟩
def dd_class_of : He.DefD := ⟨("class_of", none), "class_of", "class_of", defArgs s_class_of, defBody s_class_of, defScope s_class_of, [], []⟩
def dd_equal : He.DefD := ⟨("equal", none), "equal", "equal", defArgs s_equal, defBody s_equal, defScope s_equal, [], []⟩
def dd_sign_text : He.DefD := ⟨("sign_text", none), "sign_text", "sign_text", defArgs s_sign_text, defBody s_sign_text, defScope s_sign_text, [], []⟩
def dd_text_of : He.DefD := ⟨("text_of", none), "text_of", "text_of", defArgs s_text_of, defBody s_text_of, defScope s_text_of, [], []⟩
def dd_term_text : He.DefD := ⟨("term_text", none), "term_text", "term_text", defArgs s_term_text, defBody s_term_text, defScope s_term_text, [], []⟩
def dd__law_pool : He.DefD := ⟨("_law_pool", none), "_law_pool", "_law_pool", defArgs s__law_pool, defBody s__law_pool, defScope s__law_pool, [], []⟩
def dd__law_draw : He.DefD := ⟨("_law_draw", none), "_law_draw", "_law_draw", defArgs s__law_draw, defBody s__law_draw, defScope s__law_draw, [], []⟩
def dd__law_deep : He.DefD := ⟨("_law_deep", none), "_law_deep", "_law_deep", defArgs s__law_deep, defBody s__law_deep, defScope s__law_deep, [], []⟩
def dd__law_signs : He.DefD := ⟨("_law_signs", none), "_law_signs", "_law_signs", defArgs s__law_signs, defBody s__law_signs, defScope s__law_signs, [], []⟩
def dd__law_term : He.DefD := ⟨("_law_term", none), "_law_term", "_law_term", defArgs s__law_term, defBody s__law_term, defScope s__law_term, [], []⟩
def dd__law_lines : He.DefD := ⟨("_law_lines", none), "_law_lines", "_law_lines", defArgs s__law_lines, defBody s__law_lines, defScope s__law_lines, [], []⟩
def dd__law_lore : He.DefD := ⟨("_law_lore", none), "_law_lore", "_law_lore", defArgs s__law_lore, defBody s__law_lore, defScope s__law_lore, [], []⟩
def dd__law_made : He.DefD := ⟨("_law_made", none), "_law_made", "_law_made", defArgs s__law_made, defBody s__law_made, defScope s__law_made, [], []⟩
def dd__law_size : He.DefD := ⟨("_law_size", none), "_law_size", "_law_size", defArgs s__law_size, defBody s__law_size, defScope s__law_size, [], []⟩
def dd__law_key : He.DefD := ⟨("_law_key", none), "_law_key", "_law_key", defArgs s__law_key, defBody s__law_key, defScope s__law_key, [], []⟩
def dd__law_within : He.DefD := ⟨("_law_within", none), "_law_within", "_law_within", defArgs s__law_within, defBody s__law_within, defScope s__law_within, [], []⟩
def dd__law_told : He.DefD := ⟨("_law_told", none), "_law_told", "_law_told", defArgs s__law_told, defBody s__law_told, defScope s__law_told, [], []⟩
def dd__law_is_term : He.DefD := ⟨("_law_is_term", none), "_law_is_term", "_law_is_term", defArgs s__law_is_term, defBody s__law_is_term, defScope s__law_is_term, [], []⟩
def dd__law_word : He.DefD := ⟨("_law_word", none), "_law_word", "_law_word", defArgs s__law_word, defBody s__law_word, defScope s__law_word, [], []⟩
def dd_law : He.DefD := ⟨("law", none), "law", "law", defArgs s_law, defBody s_law, defScope s_law, [], []⟩
def hdFn_0 : List He.DefD := [dd_fits,
  dd_nodes,
  dd_words,
  dd_from_within,
  dd_Bank___init__,
  dd_Bank_number_of,
  dd_Bank_take,
  dd_Bank_take_lines,
  dd_ascending,
  dd_Merger___init__,
  dd_Merger_home,
  dd_Merger_unite,
  dd_Merger_unite_likes,
  dd_united,
  dd_Hall___init__,
  dd_Hall_worth,
  dd_Spots___init__,
  dd_Spots_spot,
  dd_Spots_spot_of,
  dd_Spots_are_one,
  dd_NoTerm___init__,
  dd_is_integer,
  dd_is_number_below,
  dd_is_tuple_of,
  dd_is_sign,
  dd_is_placed_sign,
  dd_are_signs,
  dd_Lore___init__,
  dd_Lore___eq__,
  dd_flat]
def hdFn_1 : List He.DefD := [dd_fits_line,
  dd_bank_of_told,
  dd_told_in,
  dd_is_term,
  dd_need_term,
  dd_size,
  dd_class_of,
  dd_equal,
  dd_sign_text,
  dd_text_of,
  dd_term_text,
  dd__law_pool,
  dd__law_draw,
  dd__law_deep,
  dd__law_signs,
  dd__law_term,
  dd__law_lines,
  dd__law_lore,
  dd__law_made,
  dd__law_size,
  dd__law_key,
  dd__law_within,
  dd__law_told,
  dd__law_is_term,
  dd__law_word,
  dd_law]
def hdFn : List He.DefD := hdFn_0 ++ hdFn_1
def hdFa_0 : List He.Fa := [.glo "fits",
  .glo "nodes",
  .glo "words",
  .glo "from_within",
  .glo "ascending",
  .glo "united",
  .glo "is_integer",
  .glo "is_number_below",
  .glo "is_tuple_of",
  .glo "is_sign",
  .glo "is_placed_sign",
  .glo "are_signs",
  .glo "flat",
  .glo "fits_line",
  .glo "bank_of_told",
  .glo "told_in",
  .glo "is_term",
  .glo "need_term",
  .glo "size",
  .glo "class_of",
  .glo "equal",
  .glo "sign_text",
  .glo "text_of",
  .glo "term_text",
  .glo "_law_pool",
  .glo "_law_draw",
  .glo "_law_deep",
  .glo "_law_signs",
  .glo "_law_term",
  .glo "_law_lines"]
def hdFa_1 : List He.Fa := [.glo "_law_lore",
  .glo "_law_made",
  .glo "_law_size",
  .glo "_law_key",
  .glo "_law_within",
  .glo "_law_told",
  .glo "_law_is_term",
  .glo "_law_word",
  .glo "law",
  .glo "Bank",
  .cls "Bank",
  .mkr "Bank",
  .meth "Bank" "number_of",
  .meth "Bank" "take",
  .meth "Bank" "take_lines",
  .noat "Bank" "table",
  .noat "Bank" "shapes",
  .noat "Bank" "terms",
  .glo "Merger",
  .cls "Merger",
  .mkr "Merger",
  .meth "Merger" "home",
  .meth "Merger" "unite",
  .meth "Merger" "unite_likes",
  .noat "Merger" "homes",
  .noat "Merger" "edges",
  .glo "Hall",
  .cls "Hall",
  .mkr "Hall",
  .meth "Hall" "worth"]
def hdFa_2 : List He.Fa := [.noat "Hall" "classes",
  .noat "Hall" "table",
  .noat "Hall" "ways",
  .glo "Spots",
  .cls "Spots",
  .mkr "Spots",
  .meth "Spots" "spot",
  .meth "Spots" "spot_of",
  .meth "Spots" "are_one",
  .noat "Spots" "table",
  .noat "Spots" "further",
  .glo "Lore",
  .cls "Lore",
  .mkr "Lore",
  .noat "Lore" "signs",
  .noat "Lore" "lines",
  .glo "LoreError",
  .glo "NoTerm",
  .exm "NoTerm" "LoreError" true,
  .str "LETTERS" "abcdefghijklmnopqrstuvwxyz",
  .int "MOST_LETTERS" 8,
  .int "MOST_PLACES" 2,
  .int "MOST_SIGNS" 12,
  .int "MOST_LINES" 24,
  .int "MOST_TOLD" 60,
  .free "ValueError",
  .free "abs",
  .free "all",
  .free "any",
  .free "bool"]
def hdFa_3 : List He.Fa := [.free "dict",
  .free "enumerate",
  .free "int",
  .free "isinstance",
  .free "len",
  .free "list",
  .free "max",
  .free "range",
  .free "reversed",
  .free "sorted",
  .free "str",
  .free "sum",
  .free "tuple",
  .free "zip"]
def hdFa : List He.Fa := hdFa_0 ++ hdFa_1 ++ hdFa_2 ++ hdFa_3
def hdLoose_0 : List Str := ["_wall",
  "fits",
  "nodes",
  "words",
  "from_within",
  "Bank",
  "ascending",
  "Merger",
  "united",
  "Hall",
  "Spots",
  "LoreError",
  "BadLore",
  "NoTerm",
  "LETTERS",
  "MOST_LETTERS",
  "MOST_PLACES",
  "MOST_SIGNS",
  "is_integer",
  "is_number_below",
  "is_tuple_of",
  "is_sign",
  "is_placed_sign",
  "are_signs",
  "MOST_LINES",
  "MOST_TOLD",
  "Lore",
  "flat",
  "fits_line",
  "bank_of_told"]
def hdLoose_1 : List Str := ["told_in",
  "is_term",
  "need_term",
  "size",
  "class_of",
  "equal",
  "sign_text",
  "text_of",
  "term_text",
  "_law_pool",
  "_law_draw",
  "_law_deep",
  "_law_signs",
  "_law_term",
  "_law_lines",
  "_law_lore",
  "_law_made",
  "_law_size",
  "_law_key",
  "_law_within",
  "_law_told",
  "_law_is_term",
  "_law_word"]
def hdLoose : List Str := hdLoose_0 ++ hdLoose_1
def hdTf : List He.Defn := [("Bank", some "take"), ("ascending", none), ("Spots", some "spot_of"), ("class_of", none)]
/-- a name of the top that is a tuple of pairs (text, int), no dicts of their own -/
def pairB (K : PySem.W.Frag) (e : Str × Int) : Value → Bool
  | .ref q => (match K.lookup q with
    | some ⟨.type c, _, .seq its _, _⟩ => decide (c = "tuple") && (decide (its.size ≤ sizeLine) && He.relAll [.str e.1, .int e.2] its.toList)
    | _ => false)
  | _ => false
def pairsB (K : PySem.W.Frag) : List (Str × Int) → List Value → Bool
  | [], [] => true
  | e :: es, u :: us => pairB K e u && pairsB K es us
  | _, _ => false
def tupPB (K : PySem.W.Frag) (x : Str) (es : List (Str × Int)) : Bool := match K.lookup (He.ga K x) with
  | some ⟨.type c, none, .seq its _, _⟩ => decide (c = "tuple") && (decide (its.size ≤ sizeLine) && pairsB K es its.toList)
  | _ => false
def ownEqB (K : PySem.W.Frag) (C : Str) : Bool :=
  He.eqO (PySem.W.findIn K (.ref (He.ga K C)) "__eq__") (some (some (.ref (He.ma K (He.ga K C) "__eq__")))) && (PySem.W.isFn K (.ref (He.ma K (He.ga K C) "__eq__")) && (He.eqO (PySem.W.findIn K (.ref (He.ga K C)) "__ne__") (some (some (.builtin "object.__ne__"))) && decide (PySem.W.mroIn K (He.ga K C) (.type "object") = some true)))
def insB (K : PySem.W.Frag) (C : Str) : Bool :=
  He.eqO (PySem.W.findIn K (.ref (He.ga K C)) "__class__") (some (some (.builtin "object.__class__"))) && (He.eqO (PySem.W.specialIn K (.builtin "object.__class__") "__get__") (some (some (.builtin "getset_descriptor.__get__"))) && (decide (PySem.W.takesIn K (.builtin "object.__class__") = some true) && decide (PySem.W.mroIn K (He.ga K C) (.type "object") = some true)))
def isVI : Option PySem.W.CFound → Bool
  | some (.val (.builtin n)) => n == "ValueError.__init__"
  | _ => false
theorem isVI_ok {o : Option PySem.W.CFound} (h : isVI o = true) : o = some (.val (.builtin "ValueError.__init__")) := by
  unfold isVI at h
  split at h
  · rw [beq_iff_eq.mp h]
  · cases h
/-- what the written part says of an exception of its own -/
def oexB (K : PySem.W.Frag) (x : Str) : Bool :=
  (match K.lookup (He.ga K x) with
    | some ⟨.type "type", _, .cls cd, sl⟩ => (match cd.mro, sl.toList with
      | .ref C' :: bm, [_, _, _, _, some (.builtin n), _] => C' == He.ga K x && (n == "ValueError.__new__" && (!cd.hasDel && (cd.hasDict && PySem.HandSPX.refsVE bm)))
      | _, _ => false)
    | _ => false) && (He.eqO (PySem.W.findIn K (.ref (He.ga K x)) "__setattr__") (some (some (.builtin "object.__setattr__"))) && (decide (PySem.W.subIn K (.ref (He.ga K x)) (.type "BaseException") = some true) && (decide (PySem.W.typeIn K (.ref (He.ga K x)) = some (.type "type")) && (PySem.W.keepIn K (.ref (He.ga K x)) &&
    (He.eqO (PySem.W.findIn K (.ref (He.ga K x)) "__init__") (some (some (.ref (He.ma K (He.ga K x) "__init__")))) && decide (PySem.W.typeIn K (.ref (He.ma K (He.ga K x) "__init__")) = some (.type "function")))))))
/-- what the written part says of a class whose caught instances are asked for theirs -/
def exiB (K : PySem.W.Frag) (x : Str) : Bool :=
  He.eqO (PySem.W.findIn K (.ref (He.ga K x)) "__getattribute__") (some (some (.builtin "BaseException.__getattribute__"))) && (He.eqO (PySem.W.findIn K (.ref (He.ga K x)) "__getattr__") (some none) && (decide (PySem.W.subIn K (.ref (He.ga K x)) (.type "BaseException") = some true) && (PySem.W.hasDictIn K (He.ga K x) &&
    (He.eqO (PySem.W.findIn K (.ref (He.ga K x)) "__class__") (some (some (.builtin "object.__class__"))) && (He.eqO (PySem.W.specialIn K (.builtin "object.__class__") "__get__") (some (some (.builtin "getset_descriptor.__get__"))) && (decide (PySem.W.takesIn K (.builtin "object.__class__") = some true) && decide (PySem.W.mroIn K (He.ga K x) (.type "object") = some true)))))))
def tabsNd (K : PySem.W.Frag) : Bool := decide ((hdTf.map fun d => (He.cT K d).2).Nodup)
def kitTwoB (K : PySem.W.Frag) (x y : Str) : Bool := decide (PySem.W.kitOne K (.ref (He.ga K x)) (.ref (He.ga K y)) = some true)
def xbaseB (K : PySem.W.Frag) (x : Str) : Bool :=
  He.eqO (PySem.W.specialIn K (.ref (He.ga K x)) "__getattribute__") (some (some (.builtin "type.__getattribute__"))) && (decide (PySem.W.typeIn K (.ref (He.ga K x)) = some (.type "type")) && (PySem.W.readsIn K (He.ga K x) (.type "type") && isVI (PySem.W.findCls K (.ref (He.ga K x)) (.type "type") "__init__")))
def kitNotB (K : PySem.W.Frag) (t : String) (C : Str) : Bool := decide (PySem.W.kitOne K (.type t) (.ref (He.ga K C)) = some false)
def kitTwoF (K : PySem.W.Frag) (x y : Str) : Bool := decide (PySem.W.kitOne K (.ref (He.ga K x)) (.ref (He.ga K y)) = some false)
def kitTwoT (K : PySem.W.Frag) (x : Str) (t : String) : Bool := decide (PySem.W.kitOne K (.ref (He.ga K x)) (.type t) = some true)
def kitTyF (K : PySem.W.Frag) (x : Str) (t : String) : Bool := decide (PySem.W.kitOne K (.ref (He.ga K x)) (.type t) = some false)
def kitB (K : PySem.W.Frag) (C : Str) : Bool := decide (PySem.W.kitOne K (.ref (He.ga K C)) (.ref (He.ga K C)) = some true)
def hdEx (K : PySem.W.Frag) : Bool := (ownEqB K "Lore" && (insB K "Lore" && (kitB K "Lore" && (oexB K "NoTerm" && (exiB K "NoTerm" && (kitTwoB K "NoTerm" "NoTerm" && (kitTwoT K "NoTerm" "ValueError" && (xbaseB K "LoreError" && (kitTyF K "Lore" "int" && (kitTyF K "Lore" "bool" && (kitTyF K "Lore" "str" && (kitTyF K "Lore" "tuple" && (tabsNd K && true)))))))))))))
abbrev hdR : PySem.W.OpenRow := PySem.W.OpenLaw.row PySem.Challenge.rw_neatbooks_k15_hall_refused
abbrev hdK : PySem.W.Hook := hookY 6 hdFa hdFn [] hdTf hdEx
def hdOb (s : PySem.W.SharedT) : He.AlX := seeY hdFa hdFn [] hdTf hdEx (HandSHeadRun.getT s) (placesY 6 (HandSHeadRun.getT s))
theorem hdOb_eq (s : PySem.W.SharedT) : hdOb s = hdK.obs s.abs := seeY_eq (HandSHeadRun.getT_eq s)
theorem hdRun (w : World) : HandSHeadRun.RunEq hdR (PySem.W.view hdR.prog [61]) hdK hdOb 20000 hdLoose w := by
  intro os
  kernel_rfl
end NB

set_option maxHeartbeats 4000000
/-! things as the judges see them -/
namespace NB
open PySem PySem.Spec PyProof.Rows L2 LamX
def othOk (K : PySem.W.Frag) (t : Value) : Prop := PySem.W.kitOne K t (.type "int") = some false ∧ PySem.W.kitOne K t (.type "bool") = some false ∧ PySem.W.kitOne K t (.type "str") = some false ∧ PySem.W.kitOne K t (.type "tuple") = some false
mutual
/-- v is seen as d; what is no int, bool, text or tuple is seen as None -/
inductive Jp (K : PySem.W.Frag) (H : Hp) : V → PyData → Prop
  | bl (b : Bool) : Jp K H (.bl b) (.bool b)
  | int (i : Int) : Jp K H (.int i) (.int i)
  | str (x : Str) : Jp K H (.str x) (.str x)
  | tup {a : Addr} {xs : List V} {ds : List PyData} : SqT K H a xs → JpAll K H xs ds → Jp K H (.ref a) (.tuple ds)
  | oth {v : V} {t : Value} : TyX K H v t → othOk K t → Jp K H v .none
inductive JpAll (K : PySem.W.Frag) (H : Hp) : List V → List PyData → Prop
  | nil : JpAll K H [] []
  | cons {v : V} {vs : List V} {d : PyData} {ds : List PyData} : Jp K H v d → JpAll K H vs ds → JpAll K H (v :: vs) (d :: ds)
end
theorem TyOf.same {K : PySem.W.Frag} {H H' : Hp} (e : Same H H') {v : V} {t : Value} (h : TyOf K H v t) : TyOf K H' v t := by
  cases h with
  | non => exact .non
  | bl => exact .bl _
  | int => exact .int _
  | str => exact .str _
  | flt => exact .flt _
  | lst q => exact .lst (e _ _ q)
  | frz q => exact .frz (e _ _ q)
  | tup q => exact .tup (e _ _ q)
  | dK q => exact .dK (e _ _ q)
  | dT q => exact .dT (e _ _ q)
  | ins q a b c d f => exact .ins (e _ _ q) a b c d f
theorem TyX.same {K : PySem.W.Frag} {H H' : Hp} (e : Same H H') {v : V} {t : Value} (h : TyX K H v t) : TyX K H' v t := by
  cases h with
  | base q => exact .base (TyOf.same e q)
  | byt b => exact .byt b
  | set q => exact .set (e _ _ q)
  | kList a c => exact .kList a c
  | kTuple a c => exact .kTuple a c
  | kDict a c => exact .kDict a c
  | fTuple q => exact .fTuple (e _ _ q)
  | fDict q => exact .fDict (e _ _ q)
mutual
theorem Jp.same {K : PySem.W.Frag} {H H' : Hp} (e : Same H H') : ∀ (d : PyData) (v : V), Jp K H v d → Jp K H' v d
  | .none, _, h => by
    cases h with
    | oth a b => exact .oth (TyX.same e a) b
  | .bool b, _, h => by cases h; exact .bl b
  | .int i, _, h => by cases h; exact .int i
  | .str x, _, h => by cases h; exact .str x
  | .list ds, _, h => by cases h
  | .tuple ds, _, h => by
    cases h with
    | tup hs ha => exact .tup (SqT.same hs e) (JpAll.same e ds _ ha)
  | .dict _, _, h => by cases h
theorem JpAll.same {K : PySem.W.Frag} {H H' : Hp} (e : Same H H') : ∀ (ds : List PyData) (vs : List V), JpAll K H vs ds → JpAll K H' vs ds
  | [], _, h => by cases h; exact .nil
  | d :: ds, _, h => by
    cases h with
    | cons h1 h2 => exact .cons (Jp.same e d _ h1) (JpAll.same e ds _ h2)
end
mutual
def jd : PyData → Bool
  | .none => false
  | .bool _ => true
  | .int _ => true
  | .str _ => true
  | .tuple ds => jds ds
  | .list _ => false
  | .dict _ => false
def jds : List PyData → Bool
  | [] => true
  | d :: ds => jd d && jds ds
end
mutual
theorem Dp.jp {K : PySem.W.Frag} {H : Hp} : ∀ (d : PyData) (v : V), jd d = true → Dp K H v d → Jp K H v d
  | .none, _, n, _ => by simp [jd] at n
  | .bool b, _, _, h => by cases h; exact .bl b
  | .int i, _, _, h => by cases h; exact .int i
  | .str x, _, _, h => by cases h; exact .str x
  | .list ds, _, n, h => by simp [jd] at n
  | .tuple ds, _, n, h => by
    cases h with
    | tup hs ha => exact .tup hs (DpAll.jp ds _ (by simpa [jd] using n) ha)
  | .dict _, _, n, h => by simp [jd] at n
theorem DpAll.jp {K : PySem.W.Frag} {H : Hp} : ∀ (ds : List PyData) (vs : List V), jds ds = true → DpAll K H vs ds → JpAll K H vs ds
  | [], _, _, h => by cases h; exact .nil
  | d :: ds, _, n, h => by
    cases h with
    | cons h1 h2 =>
      have q := Bool.and_eq_true_iff.mp (show (jd d && jds ds) = true from n)
      exact .cons (Dp.jp d _ q.1 h1) (DpAll.jp ds _ q.2 h2)
end
theorem sqT_ty {K : PySem.W.Frag} {H : Hp} {a : Addr} {xs : List V} (h : SqT K H a xs) : TyX K H (.ref a) (.type "tuple") := by
  rcases h with (h | ⟨o, h⟩) | ⟨o, its, n, h1, h2, _⟩
  · exact .base (.tup h)
  · exact .fTuple h
  · exact .kTuple h1 h2
/-! what isinstance says -/
def isIntD : PyData → Bool
  | .int _ => true
  | _ => false
def isBoolD : PyData → Bool
  | .bool _ => true
  | _ => false
def isStrD : PyData → Bool
  | .str _ => true
  | _ => false
def isTupD : PyData → Bool
  | .tuple _ => true
  | _ => false
theorem Jp.tyInt {K : PySem.W.Frag} {H : Hp} {v : V} {d : PyData} (h : Jp K H v d) : ∃ t, TyX K H v t ∧ PySem.W.kitOne K t (.type "int") = some (isIntD d || isBoolD d) := by
  cases h with
  | bl b =>
    have q : PySem.W.kitOne K (.type "bool") (.type "int") = some true := kit_ty (by decide +kernel)
    exact ⟨_, .base (.bl b), q⟩
  | int i =>
    have q : PySem.W.kitOne K (.type "int") (.type "int") = some true := kit_ty (by decide +kernel)
    exact ⟨_, .base (.int i), q⟩
  | str x =>
    have q : PySem.W.kitOne K (.type "str") (.type "int") = some false := kit_ty (by decide +kernel)
    exact ⟨_, .base (.str x), q⟩
  | tup hs _ =>
    have q : PySem.W.kitOne K (.type "tuple") (.type "int") = some false := kit_ty (by decide +kernel)
    exact ⟨_, sqT_ty hs, q⟩
  | oth a b => exact ⟨_, a, b.1⟩
theorem Jp.tyBool {K : PySem.W.Frag} {H : Hp} {v : V} {d : PyData} (h : Jp K H v d) : ∃ t, TyX K H v t ∧ PySem.W.kitOne K t (.type "bool") = some (isBoolD d) := by
  cases h with
  | bl b =>
    have q : PySem.W.kitOne K (.type "bool") (.type "bool") = some true := kit_ty (by decide +kernel)
    exact ⟨_, .base (.bl b), q⟩
  | int i =>
    have q : PySem.W.kitOne K (.type "int") (.type "bool") = some false := kit_ty (by decide +kernel)
    exact ⟨_, .base (.int i), q⟩
  | str x =>
    have q : PySem.W.kitOne K (.type "str") (.type "bool") = some false := kit_ty (by decide +kernel)
    exact ⟨_, .base (.str x), q⟩
  | tup hs _ =>
    have q : PySem.W.kitOne K (.type "tuple") (.type "bool") = some false := kit_ty (by decide +kernel)
    exact ⟨_, sqT_ty hs, q⟩
  | oth a b => exact ⟨_, a, b.2.1⟩
theorem Jp.tyStr {K : PySem.W.Frag} {H : Hp} {v : V} {d : PyData} (h : Jp K H v d) : ∃ t, TyX K H v t ∧ PySem.W.kitOne K t (.type "str") = some (isStrD d) := by
  cases h with
  | bl b =>
    have q : PySem.W.kitOne K (.type "bool") (.type "str") = some false := kit_ty (by decide +kernel)
    exact ⟨_, .base (.bl b), q⟩
  | int i =>
    have q : PySem.W.kitOne K (.type "int") (.type "str") = some false := kit_ty (by decide +kernel)
    exact ⟨_, .base (.int i), q⟩
  | str x =>
    have q : PySem.W.kitOne K (.type "str") (.type "str") = some true := kit_ty (by decide +kernel)
    exact ⟨_, .base (.str x), q⟩
  | tup hs _ =>
    have q : PySem.W.kitOne K (.type "tuple") (.type "str") = some false := kit_ty (by decide +kernel)
    exact ⟨_, sqT_ty hs, q⟩
  | oth a b => exact ⟨_, a, b.2.2.1⟩
theorem Jp.tyTup {K : PySem.W.Frag} {H : Hp} {v : V} {d : PyData} (h : Jp K H v d) : ∃ t, TyX K H v t ∧ PySem.W.kitOne K t (.type "tuple") = some (isTupD d) := by
  cases h with
  | bl b =>
    have q : PySem.W.kitOne K (.type "bool") (.type "tuple") = some false := kit_ty (by decide +kernel)
    exact ⟨_, .base (.bl b), q⟩
  | int i =>
    have q : PySem.W.kitOne K (.type "int") (.type "tuple") = some false := kit_ty (by decide +kernel)
    exact ⟨_, .base (.int i), q⟩
  | str x =>
    have q : PySem.W.kitOne K (.type "str") (.type "tuple") = some false := kit_ty (by decide +kernel)
    exact ⟨_, .base (.str x), q⟩
  | tup hs _ =>
    have q : PySem.W.kitOne K (.type "tuple") (.type "tuple") = some true := kit_ty (by decide +kernel)
    exact ⟨_, sqT_ty hs, q⟩
  | oth a b => exact ⟨_, a, b.2.2.2⟩
theorem JpAll.len {K : PySem.W.Frag} {H : Hp} : ∀ {vs : List V} {ds : List PyData}, JpAll K H vs ds → vs.length = ds.length
  | _, _, .nil => rfl
  | _, _, .cons _ t => congrArg (· + 1) (JpAll.len t)
theorem JpAll.get {K : PySem.W.Frag} {H : Hp} : ∀ {vs : List V} {ds : List PyData} {i : Nat} {v : V}, JpAll K H vs ds → vs[i]? = some v → ∃ d, ds[i]? = some d ∧ Jp K H v d
  | _, _, _, _, .nil, h => by simp at h
  | _, _, 0, _, .cons h _, h1 => by
    simp at h1
    subst h1
    exact ⟨_, rfl, h⟩
  | _, _, i + 1, _, .cons _ t, h1 => by
    obtain ⟨d, h2, h3⟩ := JpAll.get (i := i) t (by simpa using h1)
    exact ⟨d, by simpa using h2, h3⟩
theorem JpAll.app {K : PySem.W.Frag} {H : Hp} : ∀ {vs ws : List V} {ds es : List PyData}, JpAll K H vs ds → JpAll K H ws es → JpAll K H (vs ++ ws) (ds ++ es)
  | _, _, _, _, .nil, h => h
  | _, _, _, _, .cons h t, h2 => .cons h (JpAll.app t h2)
/-- ints below a limit -/
def belowD (n : Int) : PyData → Bool
  | .int i => decide (0 ≤ i) && decide (i < n)
  | _ => false
def itemsD : PyData → List PyData
  | .tuple ds => ds
  | _ => []
def intD : PyData → Int
  | .int i => i
  | _ => 0
def ascI (l : List Int) : Bool := (List.range (l.length - 1)).all fun k => decide (l.getD k 0 < l.getD (k + 1) 0)
def lotD (n : Int) (d : PyData) : Bool := isTupD d && ((itemsD d).all (belowD n) && ascI ((itemsD d).map intD))
theorem JpAll.ints {K : PySem.W.Frag} {H : Hp} {n : Int} : ∀ {vs : List V} {ds : List PyData}, JpAll K H vs ds → ds.all (belowD n) = true → vs = (ds.map intD).map V.int
  | _, _, .nil, _ => rfl
  | _, _, .cons (d := d) h t, e => by
    rw [List.all_cons, Bool.and_eq_true_iff] at e
    rw [List.map_cons, List.map_cons, ← JpAll.ints t e.2]
    cases h with
    | int i => rfl
    | _ => cases e.1
theorem take_snoc {α : Type} {xs : List α} {i : Nat} {x : α} (h : xs[i]? = some x) : xs.take (i + 1) = xs.take i ++ [x] := by
  rw [List.take_add_one, h]
  rfl
theorem _root_.L2.Same.upd {H H' : Hp} {D : Addr} {o : HO} (e : Same H H') (h : H D = none) : Same H (upd H' D o) := fun b u q => by
  rw [upd_ne (ne_of_none q h)]
  exact e _ _ q
theorem all_map {α : Type} (f : α → Bool) (xs : List α) : (xs.map f).all id = xs.all f := by
  induction xs with
  | nil => rfl
  | cons x xs ih => simp [List.all_cons]
theorem any_map {α : Type} (f : α → Bool) (xs : List α) : (xs.map f).any id = xs.any f := by
  induction xs with
  | nil => rfl
  | cons x xs ih => simp [List.any_cons]
mutual
/-- no text and no tuple within is longer than 100000 -/
def shortD : PyData → Bool
  | .str x => decide (x.length ≤ 100000)
  | .tuple ds => decide (ds.length ≤ 100000) && shortsD ds
  | _ => true
def shortsD : List PyData → Bool
  | [] => true
  | d :: ds => shortD d && shortsD ds
end
theorem shortsD_get : ∀ {ds : List PyData} {i : Nat} {d : PyData}, shortsD ds = true → ds[i]? = some d → shortD d = true
  | [], _, _, _, h => by simp at h
  | x :: xs, 0, d, h, e => by
    simp at e
    subst e
    exact (Bool.and_eq_true_iff.mp (show (shortD x && shortsD xs) = true from h)).1
  | x :: xs, i + 1, d, h, e => shortsD_get (ds := xs) (i := i) (Bool.and_eq_true_iff.mp (show (shortD x && shortsD xs) = true from h)).2 (by simpa using e)
theorem shortD_tup {ds : List PyData} (h : shortD (.tuple ds) = true) : ds.length ≤ 100000 ∧ shortsD ds = true := by
  have q := Bool.and_eq_true_iff.mp (show (decide (ds.length ≤ 100000) && shortsD ds) = true from h)
  exact ⟨of_decide_eq_true q.1, q.2⟩
theorem shortD_str {x : Str} (h : shortD (.str x) = true) : x.length ≤ 100000 := of_decide_eq_true h
def lettersZ : Str := "abcdefghijklmnopqrstuvwxyz"
def signS (x : Str) : Bool := decide (1 ≤ x.length) && (decide (x.length ≤ 8) && x.cps.toList.all fun c => decide (c ∈ lettersZ.cps.toList))
def signD : PyData → Bool
  | .str x => signS x
  | _ => false
def placedD : PyData → Bool
  | .tuple [s, n] => signD s && belowD 3 n
  | _ => false
def sgD : PyData → Str
  | .tuple [.str x, _] => x
  | _ => ""
def plD : PyData → Int
  | .tuple [_, .int n] => n
  | _ => 0
def strLt (a b : Str) : Bool := decide (a.cps.toList < b.cps.toList)
def ascS (l : List Str) : Bool := (List.range (l.length - 1)).all fun k => strLt (l.getD k "") (l.getD (k + 1) "")
def signsD (d : PyData) : Bool :=
  isTupD d && ((decide (1 ≤ (itemsD d).length) && decide ((itemsD d).length ≤ 12)) && ((itemsD d).all placedD && (ascS ((itemsD d).map sgD) && (itemsD d).any fun p => decide (plD p = 0))))
theorem JpAll.placed {K : PySem.W.Frag} {H : Hp} : ∀ {vs : List V} {ds : List PyData} {i : Nat}, JpAll K H vs ds → ds.all placedD = true → i < ds.length → ∃ b, vs[i]? = some (.ref b) ∧ SqT K H b [.str ((ds.map sgD).getD i ""), .int ((ds.map plD).getD i 0)]
  | _, _, i, .nil, _, h => absurd h (Nat.not_lt_zero _)
  | _, _, 0, .cons (d := d) h t, e, _ => by
    rw [List.all_cons, Bool.and_eq_true_iff] at e
    have e1 := e.1
    unfold placedD at e1
    split at e1
    · rename_i s n
      rw [Bool.and_eq_true_iff] at e1
      cases h with
      | tup hs ha =>
        cases ha with
        | cons h1 ha =>
          cases ha with
          | cons h2 ha =>
            cases ha
            cases h1 with
            | str x =>
              cases h2 with
              | int i => exact ⟨_, rfl, hs⟩
              | _ => cases e1.2
            | _ => cases e1.1
    · cases e1
  | _, _, i + 1, .cons (d := d) h t, e, hi => by
    rw [List.all_cons, Bool.and_eq_true_iff] at e
    obtain ⟨b, h1, h2⟩ := JpAll.placed (i := i) t e.2 (by simpa using hi)
    exact ⟨b, by simpa using h1, by simpa using h2⟩
theorem getD_lt {α : Type} {l : List α} {i : Nat} (h : i < l.length) (d : α) : l[i]? = some (l.getD i d) := by
  rw [List.getElem?_eq_getElem h]
  simp [h]
theorem placedD_ne : ∀ {ds : List PyData}, ds.length ≠ 2 → placedD (.tuple ds) = false
  | [], _ => rfl
  | [_], _ => rfl
  | [_, _], h => absurd rfl h
  | _ :: _ :: _ :: _, _ => rfl
theorem JpAll.two {K : PySem.W.Frag} {H : Hp} {xs : List V} {ds : List PyData} (h : JpAll K H xs ds) (e : ds.length = 2) : ∃ v w s n, xs = [v, w] ∧ ds = [s, n] ∧ Jp K H v s ∧ Jp K H w n := by
  cases h with
  | nil => cases e
  | cons h1 h =>
    cases h with
    | nil => cases e
    | cons h2 h =>
      cases h with
      | nil => exact ⟨_, _, _, _, rfl, rfl, h1, h2⟩
      | cons h3 h => cases e
end NB

/-! walks over nested things: stacks, terms that fit -/
namespace NB
open PySem PySem.Spec PyProof.Rows L2 LamX
/-- while, by a word that carries its measure -/
theorem while_ix {c : TT} {tb : TS} {D : Ends} {σ : L2.St} {H : Hp} (Pv : Nat → L2.St → Hp → Prop) (m0 : Nat) (h0 : Pv m0 σ H)
    (hs : ∀ m σ H, Pv m σ H → c σ H fun b H1 => if b = true then tb { D with nx := fun σ' H' => ∃ m', m' < m ∧ Pv m' σ' H', ct := fun σ' H' => ∃ m', m' < m ∧ Pv m' σ' H', bk := D.nx } σ H1 else D.nx σ H1)
    (mono : ∀ σ H Q Q', (∀ b H1, Q b H1 → Q' b H1) → c σ H Q → c σ H Q') :
    tWhile c tb D σ H := by
  refine ⟨Pv, ⟨m0, h0⟩, fun m σ H p => ?_⟩
  refine mono σ H _ _ (fun b H1 q => ?_) (hs m σ H p)
  cases b with
  | true => exact ⟨_, fun σ' H' z => z, q⟩
  | false => exact q
theorem last_rev {α : Type} (y : α) (zs : List α) : (y :: zs).reverse[(y :: zs).reverse.length - 1]? = some y := by
  rw [List.length_reverse, List.getElem?_reverse (by simp)]
  simp
theorem drop_rev {α : Type} (y : α) (zs : List α) : (y :: zs).reverse.dropLast = zs.reverse := by
  rw [List.reverse_cons, List.dropLast_concat]
theorem rev_app {α : Type} (zs ps : List α) : zs.reverse ++ ps = (ps.reverse ++ zs).reverse := by
  rw [List.reverse_append, List.reverse_reverse]
theorem rev_app' {α : Type} (zs ps : List α) : zs.reverse ++ ps.reverse = (ps ++ zs).reverse := by
  rw [List.reverse_append]
theorem isEmpty_rev {α : Type} (y : α) (zs : List α) : (y :: zs).reverse.isEmpty = false := by
  rw [List.reverse_cons]
  cases zs.reverse <;> rfl
/-- at p: a dict of texts to ints -/
def lookS (pl : List (Str × Int)) (s : Str) : Option Int := (pl.find? fun e => decide (e.1 = s)).map (·.2)
def PlcAt (H : Hp) (p : Addr) (pl : List (Str × Int)) : Prop := ∃ kvs : List (Key × V), H p = some (.dK kvs) ∧ ∀ s : Str, valV kvs (Sum.inr s) = (lookS pl s).map V.int
theorem PlcAt.same {H H' : Hp} {p : Addr} {pl : List (Str × Int)} (h : PlcAt H p pl) (e : Same H H') : PlcAt H' p pl := by
  obtain ⟨kvs, h1, h2⟩ := h
  exact ⟨kvs, e _ _ h1, h2⟩
mutual
def cntD : PyData → Nat
  | .tuple ds => 1 + cntsD ds
  | _ => 1
def cntsD : List PyData → Nat
  | [] => 0
  | d :: ds => cntD d + cntsD ds
end
theorem cntsD_len : ∀ ds : List PyData, ds.length ≤ cntsD ds
  | [] => Nat.le_refl _
  | d :: ds => by
    have h1 : 1 ≤ cntD d := by cases d <;> simp [cntD]
    have h2 := cntsD_len ds
    rw [cntsD, List.length_cons]
    omega
theorem cntsD_app : ∀ a b : List PyData, cntsD (a ++ b) = cntsD a + cntsD b
  | [], b => by rw [List.nil_append, cntsD, Nat.zero_add]
  | d :: ds, b => by rw [List.cons_append, cntsD, cntsD, cntsD_app ds b]; omega
theorem cntsD_rev (a : List PyData) : cntsD a.reverse = cntsD a := by
  induction a with
  | nil => rfl
  | cons d ds ih => rw [List.reverse_cons, cntsD_app, ih, cntsD, cntsD, cntsD]; omega
mutual
def fitsD (pl : List (Str × Int)) : PyData → Bool
  | .tuple (.str s :: ps) => (match lookS pl s with | some n => decide ((ps.length : Int) = n) | none => false) && fitsA pl ps
  | _ => false
def fitsA (pl : List (Str × Int)) : List PyData → Bool
  | [] => true
  | d :: ds => fitsD pl d && fitsA pl ds
end
theorem fitsA_all (pl : List (Str × Int)) : ∀ ds : List PyData, fitsA pl ds = ds.all (fitsD pl)
  | [] => by rw [fitsA]; rfl
  | d :: ds => by rw [fitsA, List.all_cons, fitsA_all pl ds]
theorem fitsA_app (pl : List (Str × Int)) (a b : List PyData) : fitsA pl (a ++ b) = (fitsA pl a && fitsA pl b) := by rw [fitsA_all, fitsA_all, fitsA_all, List.all_append]
theorem fitsA_rev (pl : List (Str × Int)) (a : List PyData) : fitsA pl a.reverse = fitsA pl a := by rw [fitsA_all, fitsA_all, List.all_reverse]
theorem fitsD_node (pl : List (Str × Int)) (s : Str) (ps : List PyData) : fitsD pl (.tuple (.str s :: ps)) = ((match lookS pl s with | some n => decide ((ps.length : Int) = n) | none => false) && fitsA pl ps) := by rw [fitsD]
theorem cutV_tail {α : Type} (y : V) (ys : List V) : cutV (y :: ys) (some 1) none = ys := by
  unfold cutV
  simp [HT.sIx]
  try omega
theorem JpAll.rev {K : PySem.W.Frag} {H : Hp} : ∀ {vs : List V} {ds : List PyData}, JpAll K H vs ds → JpAll K H vs.reverse ds.reverse
  | _, _, .nil => .nil
  | _, _, .cons h t => by
    rw [List.reverse_cons, List.reverse_cons]
    exact (JpAll.rev t).app (.cons h .nil)
theorem shortsD_all : ∀ ds : List PyData, shortsD ds = ds.all shortD
  | [] => rfl
  | d :: ds => by rw [shortsD, List.all_cons, shortsD_all ds]
theorem shortsD_mix {a b : List PyData} (h1 : shortsD a = true) (h2 : shortsD b = true) : shortsD (a.reverse ++ b) = true := by
  rw [shortsD_all] at h1 h2 ⊢
  rw [List.all_append, List.all_reverse, h1, h2]
  rfl
theorem whole_not (n : Nat) (hi : Option Int) : ¬ (HT.sIx (n + 1) 0 (some 1) = 0 ∧ HT.sIx (n + 1) (n + 1) hi = n + 1) := fun z => by
  have h := z.1
  unfold HT.sIx at h
  simp at h
  try omega
theorem cntD_str (x : Str) : cntD (.str x) = 1 := by
  unfold cntD
  rfl
def lineD (pl : List (Str × Int)) : PyData → Bool
  | .tuple [a, b] => fitsD pl a && fitsD pl b
  | _ => false
theorem lineD_ne {pl : List (Str × Int)} : ∀ {ds : List PyData}, ds.length ≠ 2 → lineD pl (.tuple ds) = false
  | [], _ => rfl
  | [_], _ => rfl
  | [_, _], h => absurd rfl h
  | _ :: _ :: _ :: _, _ => rfl
/-- a new place's list stands beside -/
theorem none_ne {H : Hp} {p q : Addr} {o : HO} (h : upd H p o q = none) : p ≠ q ∧ H q = none := by
  have n : p ≠ q := fun z => by
    rw [z, upd_same] at h
    cases h
  exact ⟨n, by rw [upd_ne n.symm] at h; exact h⟩
theorem DpAll.ref {K : PySem.W.Frag} {H : Hp} {t : Tm} {v : V} (h : Dp K H v t.data) : ∃ a ys, v = .ref a ∧ SqT K H a (.str t.sg :: ys) ∧ DpAll K H ys (Tm.datas t.parts) := by
  obtain ⟨s, ps⟩ := t
  rw [Tm.data] at h
  obtain ⟨a, xs, rfl, hs, ha⟩ := Dp.tupD h
  obtain ⟨x, ys, rfl, h1, h2⟩ := DpAll.consD ha
  rw [Dp.strD h1] at hs
  exact ⟨a, ys, rfl, hs, h2⟩
def keyD (t : Tm) : PyData := .tuple [.int ((Tm.pre t).length : Int), .tuple ((Tm.pre t).map fun x => .str x.sg)]
theorem DpAll.strs {K : PySem.W.Frag} {H : Hp} {α : Type} (f : α → Str) : ∀ xs : List α, DpAll K H (xs.map fun x => V.str (f x)) (xs.map fun x => PyData.str (f x))
  | [] => .nil
  | x :: xs => .cons (.str _) (DpAll.strs f xs)
end NB

/-! the forest that is left at each node of a walk; banks of terms -/
namespace NB
open PySem PySem.Spec PyProof.Rows L2 LamX
/-! ### the forests -/
def fstep : List Tm → List Tm
  | [] => []
  | .mk _ ps :: r => ps ++ r
def fore (t : Tm) : Nat → List Tm
  | 0 => [t]
  | j + 1 => fstep (fore t j)
theorem fore_drop (t : Tm) : ∀ j : Nat, (Tm.pre t).drop j = Tm.pres (fore t j)
  | 0 => by rw [fore, Tm.pres, Tm.pres, List.append_nil]; rfl
  | j + 1 => by
    have h := fore_drop t j
    have e : (Tm.pre t).drop (j + 1) = ((Tm.pre t).drop j).drop 1 := by rw [List.drop_drop]
    rw [e, h, fore]
    cases hf : fore t j with
    | nil => rfl
    | cons x r =>
      obtain ⟨s, ps⟩ := x
      rw [Tm.pres_step]
      rfl
theorem fore_head {t : Tm} {j : Nat} (h : j < (Tm.pre t).length) : ∃ s ps r, fore t j = .mk s ps :: r ∧ fore t (j + 1) = ps ++ r ∧ (Tm.pre t)[j]? = some (.mk s ps) := by
  have hd := fore_drop t j
  cases hf : fore t j with
  | nil =>
    rw [hf, Tm.pres] at hd
    have := congrArg List.length hd
    rw [List.length_drop] at this
    simp at this
    omega
  | cons x r =>
    obtain ⟨s, ps⟩ := x
    refine ⟨s, ps, r, rfl, by rw [fore, hf]; rfl, ?_⟩
    rw [hf, Tm.pres_step] at hd
    have := congrArg (·[0]?) hd
    simpa using this
theorem fore_end (t : Tm) : fore t (Tm.pre t).length = [] := by
  have h := fore_drop t (Tm.pre t).length
  rw [List.drop_length] at h
  cases hf : fore t (Tm.pre t).length with
  | nil => rfl
  | cons x r =>
    rw [hf, Tm.pres] at h
    have := Tm.pre_pos x
    have := congrArg List.length h
    rw [List.length_append] at this
    simp at this
    omega
/-! ### what stays but for lists that are not in S -/
def Kv (S : List Addr) (H H' : Hp) : Prop := ∀ b o, H b = some o → (∀ ps, o ≠ .tbl ps) → (b ∈ S ∨ ∀ xs, o ≠ .lst xs) → H' b = some o
theorem Kv.refl (S : List Addr) (H : Hp) : Kv S H H := fun _ _ h _ _ => h
theorem Kv.trans {S : List Addr} {H H1 H2 : Hp} (a : Kv S H H1) (b : Kv S H1 H2) : Kv S H H2 := fun c o h t n => b c o (a c o h t n) t n
theorem Kv.same {S : List Addr} {H H' : Hp} (e : Same H H') : Kv S H H' := fun b o h _ _ => e b o h
theorem Kv.updL {S : List Addr} {H : Hp} {p : Addr} {o : HO} {xs : List V} (h : H p = some (.lst xs)) (n : p ∉ S) : Kv S H (upd H p o) := fun b u e _ m => by
  have ne : b ≠ p := fun z => by
    rw [z] at e m
    rw [h] at e
    cases e
    rcases m with m | m
    · exact n m
    · exact m _ rfl
  rw [upd_ne ne]
  exact e
/-! ### the values of a forest -/
abbrev Rels (R : Tm → V → Prop) : List Tm → List V → Prop := Paired R
theorem Paired.splitL {α β : Type} {R : α → β → Prop} : ∀ {as bs : List α} {vs : List β}, Paired R (as ++ bs) vs → ∃ xs ys, vs = xs ++ ys ∧ Paired R as xs ∧ Paired R bs ys
  | [], bs, vs, h => ⟨[], vs, rfl, .nil, h⟩
  | a :: as, bs, _, h => by
    rw [List.cons_append] at h
    cases h with
    | cons h1 h2 =>
      obtain ⟨xs, ys, e, h3, h4⟩ := Paired.splitL h2
      exact ⟨_ :: xs, ys, by rw [e]; rfl, .cons h1 h3, h4⟩
theorem Paired.monoR {α β : Type} {R R' : α → β → Prop} (f : ∀ a b, R a b → R' a b) : ∀ {as : List α} {bs : List β}, Paired R as bs → Paired R' as bs
  | _, _, .nil => .nil
  | _, _, .cons h t => .cons (f _ _ h) (Paired.monoR f t)
/-- what from_within(term, maker) does, over what the maker promises: a state by J, what a value means by R -/
def fwTT (K : PySem.W.Frag) (T : List (Addr × Str)) (msp : List V → Hp → VK → Prop) (v : V) (H : Hp) (Q : VK) : Prop :=
  ∃ (t : Tm) (α : Type) (S : List Addr) (J : α → Hp → Prop) (R : α → Tm → V → Prop) (st : α → Tm → α) (a0 : α),
    Dp K H v (Tm.data t) ∧ (Tm.pre t).length ≤ 100000 ∧ J a0 H ∧ (∀ a H1, J a H1 → ∀ b ∈ S, H1 b ≠ none) ∧ Mut H S ∧
    (∀ a H1 H2, J a H1 → Kv S H1 H2 → J a H2) ∧ (∀ a x y v, R a x v → R (st a y) x v) ∧
    (∀ i a s ps vs pt H1, (Tm.pre t).reverse[i]? = some (.mk s ps) → a = ((Tm.pre t).reverse.take i).foldl st a0 → J a H1 → Fr T S H H1 → SqT K H1 pt vs → vs.length ≤ sizeLine → Rels (R a) ps vs →
      ∀ Q' : VK, (∀ v H2, J (st a (.mk s ps)) H2 → R (st a (.mk s ps)) (.mk s ps) v → Fr T S H1 H2 → Q' v H2) → msp [.str s, .ref pt] H1 Q') ∧
    ∀ v' H', Fr T S H H' → J ((Tm.pre t).reverse.foldl st a0) H' → R ((Tm.pre t).reverse.foldl st a0) t v' → Q v' H'
/-- all but O stays, tables too -/
def Sm (O : List Addr) (H H' : Hp) : Prop := ∀ b o, H b = some o → b ∉ O → H' b = some o
theorem Sm.refl (O : List Addr) (H : Hp) : Sm O H H := fun _ _ h _ => h
theorem Sm.trans {O : List Addr} {H H1 H2 : Hp} (a : Sm O H H1) (b : Sm O H1 H2) : Sm O H H2 := fun c o h n => b c o (a c o h n) n
theorem Sm.same {O : List Addr} {H H' : Hp} (e : Same H H') : Sm O H H' := fun b o h _ => e b o h
theorem Sm.upd {O : List Addr} {H : Hp} {p : Addr} {o : HO} (m : p ∈ O) : Sm O H (L2.upd H p o) := fun b u e n => by
  have ne : b ≠ p := fun z => n (by rw [z]; exact m)
  rw [upd_ne ne]
  exact e
/-- the places O hold lists or nothing -/
def Ow (H : Hp) (O : List Addr) : Prop := ∀ b ∈ O, H b = none ∨ ∃ xs, H b = some (.lst xs)
theorem Sm.tabs {O : List Addr} {H H' : Hp} {T : List (Addr × Str)} (e : Sm O H H') (w : Ow H O) (t : Tabs T H) : Tabs T H' := fun x hx => by
  obtain ⟨ps, a, b, c⟩ := t x hx
  have no : ∀ d o, H d = some o → (∀ xs, some o ≠ some (HO.lst xs)) → d ∉ O := fun d o h1 h2 m => by
    rcases w d m with h | ⟨xs, h⟩
    · rw [h1] at h
      cases h
    · rw [h1] at h
      exact h2 xs h
  refine ⟨ps, e _ _ a (no _ _ a fun xs z => nomatch z), b, fun pos cv hc => ?_⟩
  obtain ⟨d, e1, e2⟩ := c pos cv hc
  exact ⟨d, e1, e _ _ e2 (no _ _ e2 fun xs z => codeO_lst z.symm)⟩
theorem Sm.fr {O S : List Addr} {H H' : Hp} {T : List (Addr × Str)} (e : Sm O H H') (w : Ow H O) : Fr T O H H' := ⟨fun b o h n _ => e b o h n, e.tabs w⟩
theorem Sm.kv {O S : List Addr} {H H' : Hp} (e : Sm O H H') (w : Ow H O) (n : ∀ b ∈ O, b ∉ S) : Kv S H H' := fun b o h _ m => by
  refine e b o h fun z => ?_
  rcases m with m | m
  · exact n b z m
  · rcases w b z with q | ⟨xs, q⟩
    · rw [h] at q
      cases q
    · rw [h] at q
      cases q
      exact m _ rfl
/-- O's places were not there at H0, but for S and tables -/
def Nw (S O : List Addr) (H0 : Hp) : Prop := ∀ b ∈ O, ∀ o, H0 b = some o → b ∉ S → (∀ ps, o ≠ .tbl ps) → False
theorem Nw.nil {S O : List Addr} {H0 : Hp} (h : ∀ b ∈ O, H0 b = none) : Nw S O H0 := fun b hb o e _ _ => by
  rw [h b hb] at e
  cases e
theorem Nw.cons {S O : List Addr} {H0 H : Hp} {p : Addr} {T : List (Addr × Str)} (f : Fr T S H0 H) (h : H p = none) (n : Nw S O H0) : Nw S (p :: O) H0 := fun b hb o e m t => by
  rcases List.mem_cons.mp hb with q | q
  · rw [q] at e m
    rw [f.kp p o e m t] at h
    cases h
  · exact n b q o e m t
theorem Fr.sm {O S : List Addr} {H0 H H' : Hp} {T : List (Addr × Str)} (f : Fr T S H0 H) (e : Sm O H H') (w : Ow H O) (n : Nw S O H0) : Fr T S H0 H' :=
  ⟨fun b o h m t => e b o (f.kp b o h m t) (fun z => n b z o h m t), fun t => e.tabs w (f.tb t)⟩
theorem getD_take {α : Type} {l : List α} {q : Nat} {y : α} (h : l[q]? = some y) : l.drop q = y :: l.drop (q + 1) := by
  have hq := (List.getElem?_eq_some_iff.mp h)
  obtain ⟨h1, h2⟩ := hq
  rw [List.drop_eq_getElem_cons h1, h2]
theorem Imm.back {H : Hp} {p : Addr} {xs : List V} : Imm (L2.upd H p (.lst xs)) H := fun b ys => by
  by_cases e : b = p
  · subst e
    rw [upd_same]
    exact ⟨(fun z => nomatch z), (fun o z => nomatch z)⟩
  · rw [upd_ne e]
    exact ⟨id, fun _ => id⟩
theorem mem1 {b c : Addr} (h : b ∈ [c]) : b = c := List.mem_singleton.mp h
theorem mem2 {b c d : Addr} (h : b ∈ [c, d]) : b = c ∨ b = d := by simpa using h
end NB

/-! a bank: its terms, numbered -/
namespace NB
open PySem PySem.Spec PyProof.Rows L2 LamX
def nkey (s : Str) (ix : List Nat) : NestedKey := .tup [.text s, .tup (ix.map fun i : Nat => NestedKey.num (i : Int))]
theorem nums_inj : ∀ {a b : List Nat}, (a.map fun i : Nat => NestedKey.num (i : Int)) = (b.map fun i : Nat => NestedKey.num (i : Int)) → a = b
  | [], [], _ => rfl
  | [], _ :: _, h => nomatch h
  | _ :: _, [], h => nomatch h
  | x :: a, y :: b, h => by
    rw [List.map_cons, List.map_cons] at h
    injection h with h1 h2
    injection h1 with h1
    rw [nums_inj h2, show x = y by omega]
theorem nkey_inj {s s' : Str} {ix ix' : List Nat} (h : nkey s ix = nkey s' ix') : s = s' ∧ ix = ix' := by
  unfold nkey at h
  injection h with h
  injection h with h1 h2
  injection h1 with h1
  injection h2 with h2 _
  injection h2 with h2
  exact ⟨h1, nums_inj h2⟩
theorem datas_nums {K : PySem.W.Frag} {H : Hp} : ∀ ix : List Nat, DpAll K H (ix.map fun i : Nat => V.int (i : Int)) (NestedKey.datas (ix.map fun i : Nat => NestedKey.num (i : Int)))
  | [] => by rw [List.map_nil, List.map_nil, NestedKey.datas]; exact .nil
  | i :: ix => by
    rw [List.map_cons, List.map_cons, NestedKey.datas, NestedKey.data]
    exact .cons (.int _) (datas_nums ix)
theorem depth_nums : ∀ ix : List Nat, NestedKey.depthAll (ix.map fun i : Nat => NestedKey.num (i : Int)) = 0
  | [] => by rw [List.map_nil, NestedKey.depthAll]
  | i :: ix => by rw [List.map_cons, NestedKey.depthAll, NestedKey.depth, depth_nums ix]; rfl
theorem nkey_at {K : PySem.W.Frag} {H : Hp} {b pt : Addr} {s : Str} {ix : List Nat} (h1 : SqT K H b [.str s, .ref pt]) (h2 : SqT K H pt (ix.map fun i : Nat => V.int (i : Int))) : NKey K H b (nkey s ix) := by
  refine ⟨?_, ?_⟩
  · unfold nkey
    rw [NestedKey.data, NestedKey.datas, NestedKey.datas, NestedKey.datas, NestedKey.data, NestedKey.data]
    exact .tup h1 (.cons (.str _) (.cons (.tup h2 (datas_nums ix)) .nil))
  · unfold nkey
    rw [NestedKey.depth, NestedKey.depthAll, NestedKey.depthAll, NestedKey.depthAll, NestedKey.depth, NestedKey.depth, depth_nums]
    decide
open Classical in
noncomputable def addNew (B : List Tm) (t : Tm) : List Tm := if t ∈ B then B else B ++ [t]
theorem addNew_old {B : List Tm} {t : Tm} (h : t ∈ B) : addNew B t = B := by unfold addNew; rw [if_pos h]
theorem addNew_new {B : List Tm} {t : Tm} (h : t ∉ B) : addNew B t = B ++ [t] := by unfold addNew; rw [if_neg h]
def isAt (B : List Tm) (t : Tm) (v : V) : Prop := ∃ i : Nat, v = .int (i : Int) ∧ B[i]? = some t
theorem isAt.mono {B : List Tm} {x y : Tm} {v : V} (h : isAt B x v) : isAt (addNew B y) x v := by
  obtain ⟨i, e, h⟩ := h
  refine ⟨i, e, ?_⟩
  by_cases m : y ∈ B
  · rw [addNew_old m]
    exact h
  · rw [addNew_new m, List.getElem?_append_left (List.getElem?_eq_some_iff.mp h).1]
    exact h
/-- the numbers of a row of parts -/
theorem isAt.all {B : List Tm} : ∀ {ps : List Tm} {vs : List V}, Rels (isAt B) ps vs → ∃ ix : List Nat, vs = ix.map (fun i : Nat => V.int (i : Int)) ∧ ix.map (B[·]?) = ps.map some
  | _, _, .nil => ⟨[], rfl, rfl⟩
  | _, _, .cons h t => by
    obtain ⟨i, e, h⟩ := h
    obtain ⟨ix, e1, e2⟩ := isAt.all t
    exact ⟨i :: ix, by rw [e, e1]; rfl, by rw [List.map_cons, List.map_cons, h, e2]⟩
theorem nodup_idx {B : List Tm} (h : B.Nodup) {i j : Nat} {t : Tm} (h1 : B[i]? = some t) (h2 : B[j]? = some t) : i = j := by
  obtain ⟨a, a'⟩ := List.getElem?_eq_some_iff.mp h1
  obtain ⟨b, b'⟩ := List.getElem?_eq_some_iff.mp h2
  exact (List.getElem_inj h).mp (a'.trans b'.symm)
theorem ix_unique {B : List Tm} (h : B.Nodup) : ∀ {ix jx : List Nat} {ps : List Tm}, ix.map (B[·]?) = ps.map some → jx.map (B[·]?) = ps.map some → ix = jx
  | [], [], _, _, _ => rfl
  | [], _ :: _, [], _, h2 => nomatch h2
  | [], _ :: _, _ :: _, h1, _ => nomatch h1
  | _ :: _, [], [], h1, _ => nomatch h1
  | _ :: _, [], _ :: _, _, h2 => nomatch h2
  | _ :: _, _ :: _, [], h1, _ => nomatch h1
  | i :: ix, j :: jx, p :: ps, h1, h2 => by
    rw [List.map_cons, List.map_cons] at h1 h2
    injection h1 with a1 a2
    injection h2 with b1 b2
    rw [nodup_idx h a1 b1, ix_unique h a2 b2]
theorem ix_lt {B : List Tm} : ∀ {ix : List Nat} {ps : List Tm}, ix.map (B[·]?) = ps.map some → ∀ i ∈ ix, i < B.length
  | i :: ix, [], h, _, _ => nomatch h
  | i :: ix, p :: ps, h, j, m => by
    rw [List.map_cons, List.map_cons] at h
    injection h with a1 a2
    rcases List.mem_cons.mp m with q | q
    · rw [q]
      exact (List.getElem?_eq_some_iff.mp a1).1
    · exact ix_lt a2 j q
theorem ix_old {B : List Tm} {t : Tm} : ∀ {ix : List Nat} {ps : List Tm}, ix.map ((B ++ [t])[·]?) = ps.map some → (∀ i ∈ ix, i < B.length) → ix.map (B[·]?) = ps.map some
  | [], _, h, _ => h
  | i :: ix, [], h, _ => nomatch h
  | i :: ix, p :: ps, h, m => by
    rw [List.map_cons, List.map_cons] at h ⊢
    injection h with a1 a2
    rw [List.getElem?_append_left (m i (List.mem_cons_self ..))] at a1
    rw [a1, ix_old a2 fun j hj => m j (List.mem_cons_of_mem _ hj)]
theorem ix_new {B : List Tm} {t : Tm} : ∀ {ix : List Nat} {ps : List Tm}, ix.map ((B ++ [t])[·]?) = ps.map some → ¬ (∀ i ∈ ix, i < B.length) → t ∈ ps
  | [], _, _, m => absurd (fun i h => nomatch h) m
  | i :: ix, [], h, _ => nomatch h
  | i :: ix, p :: ps, h, m => by
    rw [List.map_cons, List.map_cons] at h
    injection h with a1 a2
    by_cases hi : i < B.length
    · refine List.mem_cons_of_mem _ (ix_new a2 fun z => m fun j hj => ?_)
      rcases List.mem_cons.mp hj with q | q
      · rw [q]
        exact hi
      · exact z j q
    · have hl := (List.getElem?_eq_some_iff.mp a1).1
      rw [List.length_append] at hl
      have e : i = B.length := by
        simp at hl
        omega
      rw [e] at a1
      simp at a1
      rw [a1]
      exact List.mem_cons_self ..
theorem mem_pre_self (t : Tm) : t ∈ Tm.pre t := by
  cases t
  rw [Tm.pre]
  exact List.mem_cons_self ..
theorem part_lt : ∀ (ps : List Tm) (p : Tm), p ∈ ps → (Tm.pre p).length ≤ (Tm.pres ps).length
  | [], _, h => nomatch h
  | x :: ps, p, h => by
    rw [Tm.pres, List.length_append]
    rcases List.mem_cons.mp h with q | q
    · rw [q]
      omega
    · have := part_lt ps p q
      omega
theorem not_part (s : Str) (ps : List Tm) (t : Tm) (e : t = .mk s ps) : t ∉ ps := fun h => by
  have := part_lt ps t h
  rw [e, Tm.pre, List.length_cons] at this
  omega
/-- the numbers that the table tells -/
structure BankOk (kvs : List NE) (B : List Tm) : Prop where
  nd : B.Nodup
  len : kvs.length ≤ B.length
  clo : ∀ x ∈ B, ∀ p ∈ x.parts, p ∈ B
  val : ∀ (s : Str) (ix : List Nat) (ps : List Tm), ix.map (B[·]?) = ps.map some → (∃ i : Nat, B[i]? = some (.mk s ps) ∧ valN kvs (nkey s ix) = some (.int (i : Int))) ∨ (Tm.mk s ps ∉ B ∧ valN kvs (nkey s ix) = none)
  low : ∀ (s : Str) (ix : List Nat) (v : V), valN kvs (nkey s ix) = some v → ∀ i ∈ ix, i < B.length
theorem BankOk.nil : BankOk [] [] := ⟨List.nodup_nil, Nat.le_refl _, (fun _ h => nomatch h), (fun s ix ps _ => .inr ⟨(fun h => nomatch h), rfl⟩), (fun _ _ _ h => nomatch h)⟩
theorem mem_of_ix {B : List Tm} : ∀ {ix : List Nat} {ps : List Tm}, ix.map (B[·]?) = ps.map some → ∀ p ∈ ps, p ∈ B
  | [], p :: ps, h, _, _ => nomatch h
  | i :: ix, p :: ps, h, q, m => by
    rw [List.map_cons, List.map_cons] at h
    injection h with a1 a2
    rcases List.mem_cons.mp m with z | z
    · rw [z]
      exact List.mem_of_getElem? a1
    · exact mem_of_ix a2 q z
theorem BankOk.add {kvs : List NE} {B : List Tm} (o : BankOk kvs B) {s : Str} {ix : List Nat} {ps : List Tm} {b : Addr} (h : ix.map (B[·]?) = ps.map some) (hn : Tm.mk s ps ∉ B) (hv : valN kvs (nkey s ix) = none) : BankOk (putN kvs (nkey s ix) b (.int (B.length : Int))) (B ++ [.mk s ps]) := by
  have hlow := ix_lt h
  refine ⟨?_, ?_, ?_, ?_, ?_⟩
  · rw [List.nodup_append]
    exact ⟨o.nd, (by simp : [Tm.mk s ps].Nodup), fun a ha c hc e => hn (by rw [← List.mem_singleton.mp hc, ← e]; exact ha)⟩
  · have := putN_len kvs (nkey s ix) b (.int (B.length : Int))
    have := o.len
    rw [List.length_append, List.length_singleton]
    omega
  · intro x hx p hp
    refine List.mem_append_left _ ?_
    rcases List.mem_append.mp hx with q | q
    · exact o.clo x q p hp
    · rw [List.mem_singleton.mp q] at hp
      exact mem_of_ix h p hp
  · intro s' ix' ps' h'
    rw [putN_new hv, valN_app hv]
    by_cases e : nkey s ix = nkey s' ix'
    · obtain ⟨rfl, rfl⟩ := nkey_inj e
      rw [if_pos rfl]
      have h2 := ix_old h' hlow
      have eps : ps' = ps := by
        have := h2.symm.trans h
        exact (List.map_inj_right (fun _ _ z => Option.some.inj z)).mp this
      rw [eps]
      exact .inl ⟨B.length, by simp, rfl⟩
    · rw [if_neg e]
      by_cases hl : ∀ i ∈ ix', i < B.length
      · have h2 := ix_old h' hl
        rcases o.val s' ix' ps' h2 with ⟨i, a1, a2⟩ | ⟨a1, a2⟩
        · refine .inl ⟨i, ?_, a2⟩
          rw [List.getElem?_append_left (List.getElem?_eq_some_iff.mp a1).1]
          exact a1
        · refine .inr ⟨fun m => ?_, a2⟩
          rcases List.mem_append.mp m with q | q
          · exact a1 q
          · have z := List.mem_singleton.mp q
            injection z with z1 z2
            subst z1 z2
            exact e (by rw [ix_unique o.nd h h2])
      · have ht := ix_new h' hl
        refine .inr ⟨fun m => ?_, ?_⟩
        · rcases List.mem_append.mp m with q | q
          · exact hn (o.clo _ q _ ht)
          · have z := List.mem_singleton.mp q
            injection z with z1 z2
            rw [z2] at ht
            exact not_part s ps _ rfl ht
        · cases q : valN kvs (nkey s' ix') with
          | none => rfl
          | some v => exact absurd (o.low s' ix' v q) hl
  · intro s' ix' v h' i hi
    rw [putN_new hv, valN_app hv] at h'
    rw [List.length_append, List.length_singleton]
    by_cases e : nkey s ix = nkey s' ix'
    · obtain ⟨rfl, rfl⟩ := nkey_inj e
      have := hlow i hi
      omega
    · rw [if_neg e] at h'
      have := o.low s' ix' v h' i hi
      omega
/-! ### where a bank stands -/
def bf (ta sh te : Addr) : List (Str × V) := putF "terms" (.ref te) (putF "shapes" (.ref sh) (putF "table" (.ref ta) []))
theorem ne_ts : ¬ (("table" : Str) = "shapes") := by decide +kernel
theorem ne_tt : ¬ (("table" : Str) = "terms") := by decide +kernel
theorem ne_st : ¬ (("shapes" : Str) = "terms") := by decide +kernel
theorem bf_table (ta sh te : Addr) : (bf ta sh te).lookup ("table" : Str) = some (.ref ta) := by
  unfold bf
  rw [lookup_putF, if_neg ne_tt, lookup_putF, if_neg ne_ts, lookup_putF, if_pos rfl]
theorem bf_shapes (ta sh te : Addr) : (bf ta sh te).lookup ("shapes" : Str) = some (.ref sh) := by
  unfold bf
  rw [lookup_putF, if_neg ne_st, lookup_putF, if_pos rfl]
theorem bf_terms (ta sh te : Addr) : (bf ta sh te).lookup ("terms" : Str) = some (.ref te) := by
  unfold bf
  rw [lookup_putF, if_pos rfl]
theorem bf_no (ta sh te : Addr) {m : Str} (h1 : ¬ m = "table") (h2 : ¬ m = "shapes") (h3 : ¬ m = "terms") : (bf ta sh te).lookup m = none := by
  unfold bf
  rw [lookup_putF, if_neg h3, lookup_putF, if_neg h2, lookup_putF, if_neg h1]
  all_goals rfl
/-- a shape: a sign and the numbers of the parts -/
def shD (x : Str × List Nat) : PyData := .tuple [.str x.1, .tuple (x.2.map fun i : Nat => PyData.int (i : Int))]
structure ShOk (B : List Tm) (shs : List (Str × List Nat)) : Prop where
  len : shs.length = B.length
  get : ∀ (i : Nat) (s : Str) (ix : List Nat), shs[i]? = some (s, ix) → ∃ ps, B[i]? = some (.mk s ps) ∧ ix.map (B[·]?) = ps.map some ∧ ∀ j ∈ ix, j < i
theorem ix_mono {B C : List Tm} : ∀ {ix : List Nat} {ps : List Tm}, ix.map (B[·]?) = ps.map some → ix.map ((B ++ C)[·]?) = ps.map some
  | [], _, h => h
  | i :: ix, [], h => nomatch h
  | i :: ix, p :: ps, h => by
    rw [List.map_cons, List.map_cons] at h ⊢
    injection h with a1 a2
    rw [ix_mono a2, List.getElem?_append_left (List.getElem?_eq_some_iff.mp a1).1, a1]
theorem ShOk.add {B : List Tm} {shs : List (Str × List Nat)} (o : ShOk B shs) {s : Str} {ix : List Nat} {ps : List Tm} (h : ix.map (B[·]?) = ps.map some) : ShOk (B ++ [.mk s ps]) (shs ++ [(s, ix)]) := by
  refine ⟨by rw [List.length_append, List.length_append, o.len]; rfl, fun i s' ix' hi => ?_⟩
  by_cases hl : i < shs.length
  · rw [List.getElem?_append_left hl] at hi
    obtain ⟨ps', h1, h2, h3⟩ := o.get i s' ix' hi
    exact ⟨ps', by rw [List.getElem?_append_left (by rw [← o.len]; exact hl)]; exact h1, ix_mono h2, h3⟩
  · have hi2 := (List.getElem?_eq_some_iff.mp hi).1
    rw [List.length_append, List.length_singleton] at hi2
    obtain rfl : i = shs.length := by omega
    rw [List.getElem?_append_right (Nat.le_refl _), Nat.sub_self] at hi
    cases hi
    exact ⟨ps, by rw [o.len, List.getElem?_append_right (Nat.le_refl _), Nat.sub_self]; rfl, ix_mono h, fun j hj => by rw [o.len]; exact ix_lt h j hj⟩
def ShpAt (K : PySem.W.Frag) (H : Hp) (vsh : List V) (B : List Tm) : Prop := ∃ shs, DpAll K H vsh (shs.map shD) ∧ ShOk B shs
theorem ShpAt.len {K : PySem.W.Frag} {H : Hp} {vsh : List V} {B : List Tm} (h : ShpAt K H vsh B) : vsh.length = B.length := by
  obtain ⟨shs, h1, h2⟩ := h
  rw [h1.len, List.length_map, h2.len]
theorem nls_ints (ix : List Nat) : nls (ix.map fun i : Nat => PyData.int (i : Int)) = true := by
  induction ix with
  | nil => rfl
  | cons i ix ih => rw [List.map_cons, nls, ih]; rfl
theorem nls_shs (shs : List (Str × List Nat)) : nls (shs.map shD) = true := by
  induction shs with
  | nil => rfl
  | cons x shs ih => rw [List.map_cons, nls, ih, shD, nl, nls, nls, nls, nl, nl, nls_ints]; rfl
theorem ShpAt.imm {K : PySem.W.Frag} {H H' : Hp} {vsh : List V} {B : List Tm} (e : Imm H H') (h : ShpAt K H vsh B) : ShpAt K H' vsh B := by
  obtain ⟨shs, h1, h2⟩ := h
  exact ⟨shs, DpAll.imm e _ _ (nls_shs shs) h1, h2⟩
theorem ShpAt.nil {K : PySem.W.Frag} {H : Hp} : ShpAt K H [] [] := ⟨[], .nil, rfl, fun i s ix h => by simp at h⟩
theorem ShpAt.add {K : PySem.W.Frag} {H : Hp} {vsh : List V} {B : List Tm} {v : V} {s : Str} {ix : List Nat} {ps : List Tm} (h : ShpAt K H vsh B) (hd : Dp K H v (shD (s, ix))) (e : ix.map (B[·]?) = ps.map some) : ShpAt K H (vsh ++ [v]) (B ++ [.mk s ps]) := by
  obtain ⟨shs, h1, h2⟩ := h
  exact ⟨shs ++ [(s, ix)], by rw [List.map_append]; exact h1.app (.cons hd .nil), h2.add e⟩
theorem nkey_data (s : Str) (ix : List Nat) : (nkey s ix).data = shD (s, ix) := by
  have h : ∀ ix : List Nat, NestedKey.datas (ix.map fun i : Nat => NestedKey.num (i : Int)) = ix.map fun i : Nat => PyData.int (i : Int) := by
    intro ix
    induction ix with
    | nil => rw [List.map_nil, List.map_nil, NestedKey.datas]
    | cons i ix ih => rw [List.map_cons, List.map_cons, NestedKey.datas, NestedKey.data, ih]
  unfold nkey shD
  rw [NestedKey.data, NestedKey.datas, NestedKey.datas, NestedKey.datas, NestedKey.data, NestedKey.data, h]
/-- a bank of the terms B at self -/
def BankAt (P : Program) (w : World) (K : PySem.W.Frag) (C self dx ta sh te : Addr) (B : List Tm) (H : Hp) : Prop :=
  H self = some (.ins C dx (bf ta sh te)) ∧ sh ≠ te ∧ ∃ (kvs : List NE) (vsh vte : List V), NDct P w K H ta kvs ∧ H sh = some (.lst vsh) ∧ H te = some (.lst vte) ∧ ShpAt K H vsh B ∧ DpAll K H vte (Tm.datas B) ∧ BankOk kvs B
def bS (ta sh te : Addr) : List Addr := [ta, sh, te]
theorem mem_bS {b ta sh te : Addr} (h : b ∈ bS ta sh te) : b = ta ∨ b = sh ∨ b = te := by simpa [bS] using h
theorem nl_key (s : Str) : True := True.intro
mutual
theorem nl_nested : ∀ k : NestedKey, nl k.data = true
  | .none => by rw [NestedKey.data]; rfl
  | .num _ => by rw [NestedKey.data]; rfl
  | .text _ => by rw [NestedKey.data]; rfl
  | .tup ks => by rw [NestedKey.data, nl]; exact nls_nested ks
theorem nls_nested : ∀ ks : List NestedKey, nls (NestedKey.datas ks) = true
  | [] => by rw [NestedKey.datas]; rfl
  | k :: ks => by rw [NestedKey.datas, nls, nl_nested k, nls_nested ks]; rfl
end
theorem NKey.imm {K : PySem.W.Frag} {H H' : Hp} {b : Addr} {k : NestedKey} (e : Imm H H') (h : NKey K H b k) : NKey K H' b k := ⟨Dp.imm e _ _ (nl_nested k) h.1, h.2⟩
theorem Kv.imm {S : List Addr} {H H' : Hp} (e : Kv S H H') : Imm H H' := fun b xs => ⟨fun h => e b _ h (fun _ z => nomatch z) (.inr fun _ z => nomatch z), fun o h => e b _ h (fun _ z => nomatch z) (.inr fun _ z => nomatch z)⟩
theorem NDct.kv {P : Program} {w : World} {K : PySem.W.Frag} {S : List Addr} {H H' : Hp} {a : Addr} {kvs : List NE} (e : Kv S H H') (h : NDct P w K H a kvs) : NDct P w K H' a kvs :=
  ⟨e a _ h.at_ (fun _ z => by unfold DN at z; cases z) (.inr fun _ z => by unfold DN at z; cases z), fun x hx => (h.keys x hx).imm e.imm⟩
theorem BankAt.kv {P : Program} {w : World} {K : PySem.W.Frag} {C self dx ta sh te : Addr} {B : List Tm} {H H' : Hp} (e : Kv (bS ta sh te) H H') (h : BankAt P w K C self dx ta sh te B H) : BankAt P w K C self dx ta sh te B H' := by
  obtain ⟨h1, h2, kvs, vsh, vte, h3, h4, h5, h6, h7, h8⟩ := h
  exact ⟨e _ _ h1 (fun _ z => nomatch z) (.inr fun _ z => nomatch z), h2, kvs, vsh, vte, h3.kv e, e _ _ h4 (fun _ z => nomatch z) (.inl (by simp [bS])), e _ _ h5 (fun _ z => nomatch z) (.inl (by simp [bS])), h6.imm e.imm, DpAll.imm e.imm _ _ (Tm.nl_datas B) h7, h8⟩
theorem BankAt.ex {P : Program} {w : World} {K : PySem.W.Frag} {C self dx ta sh te : Addr} {B : List Tm} {H : Hp} (h : BankAt P w K C self dx ta sh te B H) : ∀ b ∈ bS ta sh te, H b ≠ none := fun b hb => by
  obtain ⟨h1, h2, kvs, vsh, vte, h3, h4, h5, h6, h7, h8⟩ := h
  rcases mem_bS hb with q | q | q
  · rw [q, h3.at_]
    exact fun z => nomatch z
  · rw [q, h4]
    exact fun z => nomatch z
  · rw [q, h5]
    exact fun z => nomatch z
theorem BankAt.mut {P : Program} {w : World} {K : PySem.W.Frag} {C self dx ta sh te : Addr} {B : List Tm} {H : Hp} (h : BankAt P w K C self dx ta sh te B H) : Mut H (bS ta sh te) := fun b hb => by
  obtain ⟨h1, h2, kvs, vsh, vte, h3, h4, h5, h6, h7, h8⟩ := h
  rcases mem_bS hb with q | q | q
  · rw [q, h3.at_]
    exact ⟨fun _ => DN_tup, fun _ _ => DN_frz⟩
  · rw [q, h4]
    exact ⟨(fun _ z => nomatch z), (fun _ _ z => nomatch z)⟩
  · rw [q, h5]
    exact ⟨(fun _ z => nomatch z), (fun _ _ z => nomatch z)⟩
theorem hu16_of {A : Around} {k : Nat} (hr : Room k A) : A.units + 16 < cLine := by
  have := hr.un
  omega
theorem vals_of {K : PySem.W.Frag} {H : Hp} {vte : List V} {B : List Tm} (h : DpAll K H vte (Tm.datas B)) : ∀ {ix : List Nat} {ps : List Tm}, ix.map (B[·]?) = ps.map some → DpAll K H (ix.map fun i : Nat => vte.getD i .non) (Tm.datas ps)
  | [], [], _ => .nil
  | [], _ :: _, e => nomatch e
  | _ :: _, [], e => nomatch e
  | i :: ix, p :: ps, e => by
    rw [List.map_cons, List.map_cons] at e
    injection e with a1 a2
    rw [List.map_cons, Tm.datas]
    refine .cons ?_ (vals_of h a2)
    have hi : i < vte.length := by
      rw [h.len, Tm.datas_len]
      exact (List.getElem?_eq_some_iff.mp a1).1
    exact h.get (getD_lt hi _) (by rw [Tm.datas_map, List.getElem?_map, a1]; rfl)
theorem addNew_len (B : List Tm) (t : Tm) : (addNew B t).length ≤ B.length + 1 := by
  by_cases h : t ∈ B
  · rw [addNew_old h]
    omega
  · rw [addNew_new h, List.length_append, List.length_singleton]; exact Nat.le_refl _
theorem addAll_len : ∀ (l : List Tm) (B : List Tm), (l.foldl addNew B).length ≤ B.length + l.length
  | [], B => Nat.le_refl _
  | t :: l, B => by
    rw [List.foldl_cons, List.length_cons]
    have := addAll_len l (addNew B t)
    have := addNew_len B t
    omega
/-- a def whose code object stands at c -/
structure CodeFun (K : PySem.W.Frag) (x qual : Str) (st : Stmt) (f : Addr) (fd : FuncData) (c : Addr) : Prop where
  ex : ∃ (oc : Value) (od : Option Addr) (kV doc pm : Value) (an : Option Addr) (ct : Value) (osl : Array (Option Value)),
    fd = PySem.W.fnOf x qual (defArgs st) (defBody st) (defScope st) .none kV doc pm an (.ref c) ct ∧ K.lookup f = some ⟨oc, od, .func fd, osl⟩ ∧ PySem.W.codeIn K (.ref c) qual = true
mutual
theorem pre_mem_len : ∀ (t x : Tm), x ∈ Tm.pre t → (Tm.pre x).length ≤ (Tm.pre t).length
  | .mk s ps, x, h => by
    rw [Tm.pre] at h
    rcases List.mem_cons.mp h with q | q
    · rw [q]
      exact Nat.le_refl _
    · have := pres_mem_len ps x q
      rw [Tm.pre, List.length_cons]
      omega
theorem pres_mem_len : ∀ (ts : List Tm) (x : Tm), x ∈ Tm.pres ts → (Tm.pre x).length ≤ (Tm.pres ts).length
  | [], x, h => by rw [Tm.pres] at h; exact nomatch h
  | t :: ts, x, h => by
    rw [Tm.pres, List.length_append]
    rw [Tm.pres] at h
    rcases List.mem_append.mp h with q | q
    · have := pre_mem_len t x q
      omega
    · have := pres_mem_len ts x q
      omega
end
theorem parts_le {t : Tm} {s : Str} {ps : List Tm} (h : Tm.mk s ps ∈ Tm.pre t) : ps.length ≤ (Tm.pre t).length := by
  have h1 := pre_mem_len t _ h
  have h2 := Tm.pres_len ps
  rw [Tm.pre, List.length_cons] at h1
  omega
noncomputable def addT (B : List Tm) (t : Tm) : List Tm := (Tm.pre t).reverse.foldl addNew B
theorem addT_len (B : List Tm) (t : Tm) : (addT B t).length ≤ B.length + (Tm.pre t).length := by
  have := addAll_len (Tm.pre t).reverse B
  rw [List.length_reverse] at this
  exact this
abbrev Ln := Tm × Tm
def lnD (l : Ln) : PyData := .tuple [Tm.data l.1, Tm.data l.2]
def lnsD (ls : List Ln) : PyData := .tuple (ls.map lnD)
noncomputable def addL (B : List Tm) (l : Ln) : List Tm := addT (addT B l.1) l.2
def cntL : List Ln → Nat
  | [] => 0
  | l :: ls => (Tm.pre l.1).length + (Tm.pre l.2).length + cntL ls
theorem cntL_app : ∀ a b : List Ln, cntL (a ++ b) = cntL a + cntL b
  | [], b => by rw [List.nil_append, cntL, Nat.zero_add]
  | l :: ls, b => by rw [List.cons_append, cntL, cntL, cntL_app ls b]; omega
theorem addLs_len : ∀ (ls : List Ln) (B : List Tm), (ls.foldl addL B).length ≤ B.length + cntL ls
  | [], B => Nat.le_refl _
  | l :: ls, B => by
    rw [List.foldl_cons, cntL]
    have h1 := addLs_len ls (addL B l)
    have h2 := addT_len (addT B l.1) l.2
    have h3 := addT_len B l.1
    unfold addL at h1 ⊢
    omega
theorem cntL_get : ∀ {ls : List Ln} {i : Nat} {l : Ln}, ls[i]? = some l → cntL (ls.take i) + ((Tm.pre l.1).length + (Tm.pre l.2).length) ≤ cntL ls
  | [], i, l, h => by simp at h
  | x :: ls, 0, l, h => by
    simp at h
    subst h
    rw [List.take_zero, cntL, cntL]
    omega
  | x :: ls, i + 1, l, h => by
    have := cntL_get (ls := ls) (i := i) (l := l) (by simpa using h)
    rw [List.take_succ_cons, cntL, cntL]
    omega
theorem nl_lns (ls : List Ln) : nls (ls.map lnD) = true := by
  induction ls with
  | nil => rfl
  | cons l ls ih =>
    rw [List.map_cons, nls, ih, lnD, nl, nls, nls, Tm.nl_data, Tm.nl_data]
    rfl
theorem lnsAt {K : PySem.W.Frag} {H : Hp} {v : V} {ls : List Ln} (h : Dp K H v (lnsD ls)) : ∃ a xs, v = .ref a ∧ SqT K H a xs ∧ DpAll K H xs (ls.map lnD) := Dp.tupD h
theorem lnAt {K : PySem.W.Frag} {H : Hp} {v : V} {l : Ln} (h : Dp K H v (lnD l)) : ∃ a x y, v = .ref a ∧ SqT K H a [x, y] ∧ Dp K H x (Tm.data l.1) ∧ Dp K H y (Tm.data l.2) := by
  obtain ⟨a, xs, rfl, hs, ha⟩ := Dp.tupD h
  obtain ⟨x, ws, rfl, h1, ha⟩ := DpAll.consD ha
  obtain ⟨y, ws, rfl, h2, ha⟩ := DpAll.consD ha
  rw [DpAll.nilD ha] at hs
  exact ⟨a, x, y, rfl, hs, h1, h2⟩
end NB

/-! lores: signs, lines -/
namespace NB
open PySem PySem.Spec PyProof.Rows L2 LamX
theorem walk_enumT {K : PySem.W.Frag} {a : Addr} {xs : List V} : Walk (IeT K a) xs.length (fun H => SqT K H a xs) (YPair (fun i => some (.int (i : Nat))) (fun i => xs[i]?)) := by
  refine ⟨fun i _ hi q => ⟨xs, xs[i], q, by simp [hi]⟩, fun _ q => ⟨xs, q, rfl⟩, fun i H v H' _ q y => ?_⟩
  obtain ⟨T, x, h1, h2, h3, h4⟩ := y
  exact ⟨T, .int (i : Nat), x, h1, h2, h3, rfl, h4 xs q⟩
abbrev Sg := Str × Int
def sg1 (e : Sg) : PyData := .tuple [.str e.1, .int e.2]
def sgsD (sg : List Sg) : PyData := .tuple (sg.map sg1)
def kvS (e : Sg) : Key × V := (Sum.inr e.1, .int e.2)
theorem val_merge (j : Key) : ∀ (more kvs : List (Key × V)), valV (mergeK kvs more) j = match valV more.reverse j with | some v => some v | none => valV kvs j
  | [], kvs => rfl
  | p :: more, kvs => by
    have ih := val_merge j more (putK kvs p.1 p.2)
    show valV (mergeK (putK kvs p.1 p.2) more) j = _
    rw [ih, List.reverse_cons]
    have key : ∀ l : List (Key × V), valV (l ++ [p]) j = match valV l j with | some v => some v | none => if j = p.1 then some p.2 else none := by
      intro l
      induction l with
      | nil =>
        by_cases e : p.1 = j
        · rw [List.nil_append, valV_pos e, if_pos e.symm]
          rfl
        · rw [List.nil_append, valV_neg e, if_neg (fun z => e z.symm)]
          rfl
      | cons q l ihl =>
        by_cases e : q.1 = j
        · rw [List.cons_append, valV_pos e, valV_pos e]
        · rw [List.cons_append, valV_neg e, valV_neg e, ihl]
    rw [key]
    cases valV more.reverse j with
    | some v => rfl
    | none =>
      show valV (putK kvs p.1 p.2) j = match (if j = p.1 then some p.2 else none) with | some v => some v | none => valV kvs j
      rw [valV_put]
      by_cases e : j = p.1
      · rw [if_pos e, if_pos e]
      · rw [if_neg e, if_neg e]
theorem val_sgs (s : Str) : ∀ sg : List Sg, valV (sg.map kvS) (Sum.inr s) = (lookS sg s).map V.int
  | [] => rfl
  | e :: sg => by
    rw [List.map_cons]
    unfold lookS
    by_cases h : e.1 = s
    · rw [valV_pos (show (kvS e).1 = Sum.inr s by rw [kvS, h])]
      simp [List.find?_cons, h, kvS]
    · rw [valV_neg (show ¬ (kvS e).1 = Sum.inr s from fun z => h (Sum.inr.inj z)), val_sgs s sg]
      unfold lookS
      simp [List.find?_cons, h]
theorem plc_merge {H : Hp} {p : Addr} {sg : List Sg} (h : H p = some (.dK (mergeK [] (sg.map kvS)))) : PlcAt H p sg.reverse := by
  refine ⟨_, h, fun s => ?_⟩
  rw [val_merge, ← List.map_reverse, val_sgs]
  cases lookS sg.reverse s <;> rfl
theorem sgs_refs {K : PySem.W.Frag} {H : Hp} : ∀ {sg : List Sg} {xs : List V}, DpAll K H xs (sg.map sg1) → ∃ ps : List Addr, xs = ps.map V.ref ∧ Paired (fun p kv => SqT K H p [kV kv.1, kv.2]) ps (sg.map kvS)
  | [], xs, h => ⟨[], DpAll.nilD h, .nil⟩
  | e :: sg, xs, h => by
    obtain ⟨v, ws, rfl, h1, h2⟩ := DpAll.consD h
    obtain ⟨ps, rfl, h3⟩ := sgs_refs h2
    obtain ⟨a, ys, rfl, hs, ha⟩ := Dp.tupD h1
    obtain ⟨x, zs, rfl, g1, ha⟩ := DpAll.consD ha
    obtain ⟨y, zs, rfl, g2, ha⟩ := DpAll.consD ha
    rw [DpAll.nilD ha, Dp.strD g1, Dp.intD g2] at hs
    exact ⟨a :: ps, rfl, .cons hs h3⟩
theorem jd_sgs : ∀ sg : List Sg, jds (sg.map sg1) = true
  | [] => rfl
  | e :: sg => by rw [List.map_cons, jds, jd_sgs sg]; rfl
mutual
theorem jd_data : ∀ t : Tm, jd (Tm.data t) = true
  | .mk s ps => by rw [Tm.data, jd, jds, jd, jd_datas ps]; rfl
theorem jd_datas : ∀ ts : List Tm, jds (Tm.datas ts) = true
  | [] => rfl
  | t :: ts => by rw [Tm.datas, jds, jd_data t, jd_datas ts]; rfl
end
theorem jd_ln (l : Ln) : jd (lnD l) = true := by
  rw [lnD, jd, jds, jds, jds, jd_data, jd_data]
  rfl
theorem nls_sgs : ∀ sg : List Sg, nls (sg.map sg1) = true
  | [] => rfl
  | e :: sg => by rw [List.map_cons, nls, nls_sgs sg]; rfl
structure LnOk (sg : List Sg) (l : Ln) : Prop where
  fit : lineD sg.reverse (lnD l) = true
  short : shortD (lnD l) = true
  cnt : cntD (lnD l) ≤ 100000
def lf (sv lv : V) : List (Str × V) := putF "lines" lv (putF "signs" sv [])
theorem ne_sl : ¬ (("signs" : Str) = "lines") := by decide +kernel
theorem lf_signs (sv lv : V) : (lf sv lv).lookup ("signs" : Str) = some sv := by
  unfold lf
  rw [lookup_putF, if_neg ne_sl, lookup_putF, if_pos rfl]
theorem lf_lines (sv lv : V) : (lf sv lv).lookup ("lines" : Str) = some lv := by
  unfold lf
  rw [lookup_putF, if_pos rfl]
theorem lf_eq (sv lv : V) : lf sv lv = ([("signs", sv), ("lines", lv)] : List (Str × V)) := by
  show (if ("signs" : Str) = "lines" then [(("signs" : Str), lv)] else (("signs" : Str), sv) :: putF "lines" lv []) = ([("signs", sv), ("lines", lv)] : List (Str × V))
  rw [if_neg ne_sl]
  rfl
theorem lf_put_signs (sv lv s2 : V) : putF "signs" s2 (lf sv lv) = lf s2 lv := by
  rw [lf_eq, lf_eq]
  show (if ("signs" : Str) = "signs" then (("signs" : Str), s2) :: [(("lines" : Str), lv)] else _) = _
  rw [if_pos rfl]
theorem lf_put_lines (sv lv l2 : V) : putF "lines" l2 (lf sv lv) = lf sv l2 := by
  rw [lf_eq, lf_eq]
  show (if ("signs" : Str) = "lines" then _ else (("signs" : Str), sv) :: (if ("lines" : Str) = "lines" then [(("lines" : Str), l2)] else _)) = _
  rw [if_neg ne_sl, if_pos rfl]
/-- a tuple of signs at sa -/
def SgsAt (K : PySem.W.Frag) (H : Hp) (sa : Addr) (sg : List Sg) : Prop := ∃ xs, PlT K H sa xs ∧ DpAll K H xs (sg.map sg1)
theorem PlT.imm {K : PySem.W.Frag} {H H' : Hp} {a : Addr} {xs : List V} (e : Imm H H') (h : PlT K H a xs) : PlT K H' a xs := by
  rcases h with ⟨o, h1, h2, h⟩ | h
  · exact .inl ⟨o, h1, h2, (e a xs).2 o h⟩
  · exact .inr h
theorem SgsAt.imm {K : PySem.W.Frag} {H H' : Hp} {sa : Addr} {sg : List Sg} (e : Imm H H') (h : SgsAt K H sa sg) : SgsAt K H' sa sg := by
  obtain ⟨xs, h1, h2⟩ := h
  exact ⟨xs, h1.imm e, DpAll.imm e _ _ (nls_sgs sg) h2⟩
theorem SgsAt.dp {K : PySem.W.Frag} {H : Hp} {sa : Addr} {sg : List Sg} (h : SgsAt K H sa sg) : Dp K H (.ref sa) (sgsD sg) := by
  obtain ⟨xs, h1, h2⟩ := h
  exact .tup h1.sq h2
theorem nl_sgsD (sg : List Sg) : nl (sgsD sg) = true := by rw [sgsD, nl, nls_sgs]
theorem nl_lnsD (ls : List Ln) : nl (lnsD ls) = true := by rw [lnsD, nl, nl_lns]
/-- a lore at p -/
def LoreAt (K : PySem.W.Frag) (C : Addr) (H : Hp) (p : Addr) (sg : List Sg) (ls : List Ln) : Prop := ∃ dx sa lv, H p = some (.ins C dx (lf (.ref sa) lv)) ∧ SgsAt K H sa sg ∧ Dp K H lv (lnsD ls)
theorem LoreAt.kp {K : PySem.W.Frag} {C : Addr} {S : List Addr} {H H' : Hp} {p : Addr} {sg : List Sg} {ls : List Ln} (e : Kp S H H') (m : Mut H S) (n : p ∉ S) (h : LoreAt K C H p sg ls) : LoreAt K C H' p sg ls := by
  obtain ⟨dx, sa, lv, h1, h2, h3⟩ := h
  exact ⟨dx, sa, lv, e p _ h1 n (fun _ z => nomatch z), h2.imm (e.imm m), Dp.imm (e.imm m) _ _ (nl_lnsD ls) h3⟩
/-- the lines whose numbers are not in l -/
def keepN (l : List Int) : Nat → List Ln → List Ln
  | _, [] => []
  | i, x :: xs => if l.any (fun j => decide (j = (i : Int))) then keepN l (i + 1) xs else x :: keepN l (i + 1) xs
theorem keepN_app (l : List Int) : ∀ (a b : List Ln) (i : Nat), keepN l i (a ++ b) = keepN l i a ++ keepN l (i + a.length) b
  | [], b, i => by rw [List.nil_append, List.length_nil, Nat.add_zero]; rfl
  | x :: a, b, i => by
    rw [List.cons_append, keepN, keepN, keepN_app l a b (i + 1), List.length_cons, show i + (a.length + 1) = i + 1 + a.length by omega]
    split
    · rfl
    · rw [List.cons_append]
theorem keepN_len (l : List Int) : ∀ (a : List Ln) (i : Nat), (keepN l i a).length ≤ a.length
  | [], _ => Nat.le_refl _
  | x :: a, i => by
    rw [keepN, List.length_cons]
    have := keepN_len l a (i + 1)
    split
    · omega
    · rw [List.length_cons]
      omega
theorem inV_ints (i : Int) : ∀ l : List Int, inV (.int i) (l.map V.int) = l.any fun j => decide (j = i)
  | [] => rfl
  | j :: l => by
    have ih := inV_ints i l
    unfold inV at ih ⊢
    rw [List.map_cons, List.any_cons, List.any_cons, ih]
    rfl
theorem flat_ints (l : List Int) : (l.map V.int).all flatV = true := by
  induction l with
  | nil => rfl
  | cons j l ih => rw [List.map_cons, List.all_cons, ih]; rfl
theorem jp_ints {K : PySem.W.Frag} {H : Hp} : ∀ l : List Int, JpAll K H (l.map V.int) (l.map PyData.int)
  | [] => .nil
  | i :: l => .cons (.int i) (jp_ints l)
theorem strs_alike : ∀ a b : List Tm, PySem.W.alikeAll (a.map fun x => PyData.str x.sg) (b.map fun x => PyData.str x.sg) = true
  | [], _ => by rw [List.map_nil, PySem.W.alikeAll]
  | _ :: _, [] => by rw [List.map_cons, List.map_nil, PySem.W.alikeAll]
  | x :: a, y :: b => by rw [List.map_cons, List.map_cons, PySem.W.alikeAll, PySem.W.alike, strs_alike a b]; rfl
theorem alike_key (s t : Tm) : PySem.W.alike (keyD s) (keyD t) = true := by
  unfold keyD
  rw [PySem.W.alike, PySem.W.alikeAll, PySem.W.alikeAll, PySem.W.alike, PySem.W.alike, strs_alike, PySem.W.alikeAll]
  rfl
theorem alike_keys (B : List Tm) : PySem.W.AllAlike (B.map keyD) := fun d hd e he => by
  obtain ⟨s, _, rfl⟩ := List.mem_map.mp hd
  obtain ⟨t, _, rfl⟩ := List.mem_map.mp he
  exact alike_key s t
theorem depth_strs : ∀ a : List Tm, PyData.depthAll (a.map fun x => PyData.str x.sg) = 0
  | [] => by rw [List.map_nil, PyData.depthAll]
  | x :: a => by rw [List.map_cons, PyData.depthAll, PyData.depth, depth_strs a]; rfl
theorem depth_key (t : Tm) : (keyD t).depth ≤ 2 := by
  unfold keyD
  rw [PyData.depth, PyData.depthAll, PyData.depthAll, PyData.depthAll, PyData.depth, PyData.depth, depth_strs]
  decide
end NB

/-! the pool of drawn numbers -/
namespace NB
open PySem PySem.Spec PyProof.Rows L2 LamX
structure PoolAt (H : Hp) (p cs : Addr) (z k : Int) (cells : List Int) : Prop where
  pool : H p = some (.lst [.int z, .int k, .ref cs])
  cel : H cs = some (.lst (cells.map V.int))
  ne : p ≠ cs
  z0 : 0 ≤ z
  z1 : z < 2147483647
  k0 : 0 ≤ k
theorem PoolAt.same {H H' : Hp} {p cs : Addr} {z k : Int} {cells : List Int} (h : PoolAt H p cs z k cells) (e : Same H H') : PoolAt H' p cs z k cells := ⟨e _ _ h.pool, e _ _ h.cel, h.ne, h.z0, h.z1, h.k0⟩
theorem cutV_take (ns : List Int) (n : Nat) : cutV (ns.map V.int) none (some (n : Int)) = (ns.take n).map V.int := by
  unfold cutV
  rw [HT.sIx_none, HT.sIx_nat, List.drop_zero, Nat.sub_zero, List.map_take]
  by_cases h : n ≤ (ns.map V.int).length
  · rw [Nat.min_eq_left h]
  · rw [Nat.min_eq_right (by omega), List.take_of_length_le (Nat.le_refl _), List.take_of_length_le (by omega)]
theorem filter_take {ns : List Int} {i : Nat} {x : Int} {f : Int → Bool} (h : ns[i]? = some x) : (ns.take (i + 1)).filter f = (ns.take i).filter f ++ (if f x then [x] else []) := by
  rw [take_snoc h, List.filter_append]
  cases e : f x <;> simp [e]
def absI (i : Int) : Int := if i < 0 then -i else i
def bigI (i : Int) : Bool := decide ((10 : Int) ^ (18 : Int).toNat ≤ absI i)
theorem Sm.imm {O : List Addr} {H H' : Hp} (e : Sm O H H') (w : Ow H O) : Imm H H' := fun b xs => ⟨fun h => e b _ h (fun z => by rcases w b z with q | ⟨ys, q⟩ <;> (rw [h] at q; cases q)), fun o h => e b _ h (fun z => by rcases w b z with q | ⟨ys, q⟩ <;> (rw [h] at q; cases q))⟩
theorem PoolAt.ow {H : Hp} {p cs : Addr} {z k : Int} {cells : List Int} (h : PoolAt H p cs z k cells) : Ow H [p, cs] := fun b hb => by
  rcases mem2 hb with q | q
  · rw [q]
    exact .inr ⟨_, h.pool⟩
  · rw [q]
    exact .inr ⟨_, h.cel⟩
def sgA : List Sg := [("a", 0), ("b", 0), ("c", 0)]
def sgB : List Sg := [("f", 1), ("g", 1), ("h", 1)]
def sgC : List Sg := [("p", 2), ("q", 2)]
def sgOf (i j k : Nat) : List Sg := sgA.take i ++ sgB.take j ++ sgC.take k
theorem cutV_takeV (xs : List V) (n : Nat) : cutV xs none (some (n : Int)) = xs.take n := by
  unfold cutV
  rw [HT.sIx_none, HT.sIx_nat, List.drop_zero, Nat.sub_zero]
  by_cases h : n ≤ xs.length
  · rw [Nat.min_eq_left h]
  · rw [Nat.min_eq_right (by omega), List.take_of_length_le (Nat.le_refl _), List.take_of_length_le (by omega)]
theorem DpAll.take {K : PySem.W.Frag} {H : Hp} : ∀ {vs : List V} {ds : List PyData} (n : Nat), DpAll K H vs ds → DpAll K H (vs.take n) (ds.take n)
  | _, _, 0, _ => by rw [List.take_zero, List.take_zero]; exact .nil
  | _, _, n + 1, .nil => by rw [List.take_nil, List.take_nil]; exact .nil
  | _, _, n + 1, .cons h t => by rw [List.take_succ_cons, List.take_succ_cons]; exact .cons h (DpAll.take n t)
theorem sg_alike (a b : Sg) : PySem.W.alike (sg1 a) (sg1 b) = true := by
  unfold sg1
  rw [PySem.W.alike, PySem.W.alikeAll, PySem.W.alikeAll, PySem.W.alike, PySem.W.alike, PySem.W.alikeAll]
  rfl
theorem sgs_alike (l : List Sg) : PySem.W.AllAlike (l.map sg1) := fun d hd e he => by
  obtain ⟨s, _, rfl⟩ := List.mem_map.mp hd
  obtain ⟨t, _, rfl⟩ := List.mem_map.mp he
  exact sg_alike s t
theorem sg_sub (i j k : Nat) : List.Sublist (sgOf i j k) (sgA ++ sgB ++ sgC) := ((List.take_sublist _ _).append (List.take_sublist _ _)).append (List.take_sublist _ _)
theorem sg_pair : ((sgA ++ sgB ++ sgC).map sg1).Pairwise (fun d e => PySem.W.dataLe false (fun x : PyData => x) d e = true) := by
  decide +kernel
theorem srt_sorted {xs : List V} {ds : List PyData} (hl : xs.length = ds.length) (hp : ds.Pairwise (fun d e => PySem.W.dataLe false (fun x : PyData => x) d e = true)) : srt xs ds = xs := by
  unfold srt
  rw [List.mergeSort_of_pairwise]
  · exact List.map_fst_zip (Nat.le_of_eq hl)
  · have h2 : ((xs.zip ds).map (·.2)).Pairwise (fun d e => PySem.W.dataLe false (fun x : PyData => x) d e = true) := by
      rw [zip_snd hl]
      exact hp
    rw [List.pairwise_map] at h2
    exact h2
theorem u128_of {A : Around} {k : Nat} (hr : Room k A) : A.units + 128 < cLine := by
  have := hr.un
  omega
theorem sg_depth (e : Sg) : (sg1 e).depth ≤ 64 := by
  unfold sg1
  rw [PyData.depth, PyData.depthAll, PyData.depthAll, PyData.depth, PyData.depth, PyData.depthAll]
  decide
theorem PoolAt.nn {H : Hp} {p cs : Addr} {z k : Int} {cells : List Int} (h : PoolAt H p cs z k cells) {l : Addr} (n : H l = none) : l ∉ [p, cs] := fun m => by
  rcases mem2 m with q | q
  · rw [q, h.pool] at n
    cases n
  · rw [q, h.cel] at n
    cases n
theorem nat_of {r m : Int} (h0 : 0 ≤ r) (h1 : r < m) : ∃ n : Nat, r = (n : Int) ∧ (n : Int) < m := ⟨r.toNat, by omega, by omega⟩
theorem sg_take {K : PySem.W.Frag} {H : Hp} {vs : List V} {sg : List Sg} (n : Nat) (h : DpAll K H vs (sg.map sg1)) : DpAll K H (vs.take n) ((sg.take n).map sg1) := by
  rw [List.map_take]
  exact DpAll.take n h
theorem sg_imm {K : PySem.W.Frag} {H H' : Hp} {vs : List V} {sg : List Sg} (e : Imm H H') (h : DpAll K H vs (sg.map sg1)) : DpAll K H' vs (sg.map sg1) := DpAll.imm e _ _ (nls_sgs sg) h
theorem sg_app {K : PySem.W.Frag} {H : Hp} {vs ws : List V} {sg sh : List Sg} (h : DpAll K H vs (sg.map sg1)) (h2 : DpAll K H ws (sh.map sg1)) : DpAll K H (vs ++ ws) ((sg ++ sh).map sg1) := by
  rw [List.map_append]
  exact h.app h2
mutual
/-- how deep a term is: a leaf is 1 deep -/
def dpt : Tm → Nat
  | .mk _ ps => 1 + dpts ps
def dpts : List Tm → Nat
  | [] => 0
  | t :: ts => max (dpt t) (dpts ts)
end
theorem dpt_pos (t : Tm) : 1 ≤ dpt t := by
  cases t
  rw [dpt]
  omega
theorem dpts_mem : ∀ {ts : List Tm} {t : Tm}, t ∈ ts → dpt t ≤ dpts ts
  | x :: ts, t, h => by
    rw [dpts]
    rcases List.mem_cons.mp h with q | q
    · rw [q]
      exact Nat.le_max_left _ _
    · exact Nat.le_trans (dpts_mem q) (Nat.le_max_right _ _)
theorem FnOk.never {P : Program} {w : World} {K : PySem.W.Frag} {mg : Str → Option Value} {base : Heap} {k : Nat} {f : Addr} {fd : FuncData} {ps : List Str} {sp : Sp} (h : ∀ vs H Q E, ¬ sp vs H Q E) : FnOk P w K mg base CX0 k f fd ps sp :=
  ⟨fun vs H Q E q => (h vs H Q E q).elim, fun A outer s H args us vs Q E _ _ _ _ q => (h vs H Q E q).elim⟩
theorem sum_pres : ∀ ts : List Tm, (ts.map fun t => ((Tm.pre t).length : Int)).sum = ((Tm.pres ts).length : Int)
  | [] => by rw [Tm.pres]; rfl
  | t :: ts => by
    rw [List.map_cons, List.sum_cons, sum_pres ts, Tm.pres, List.length_append]
    omega
end NB

/-! drawn terms: what holds of them -/
namespace NB
open PySem PySem.Spec PyProof.Rows L2 LamX
mutual
theorem cnt_data : ∀ t : Tm, cntD (Tm.data t) = 2 * (Tm.pre t).length
  | .mk s ps => by
    rw [Tm.data, cntD, cntsD, cntD_str, cnts_datas ps, Tm.pre, List.length_cons]
    omega
theorem cnts_datas : ∀ ts : List Tm, cntsD (Tm.datas ts) = 2 * (Tm.pres ts).length
  | [] => by rw [Tm.datas, cntsD, Tm.pres]; rfl
  | t :: ts => by
    rw [Tm.datas, cntsD, cnt_data t, cnts_datas ts, Tm.pres, List.length_append]
    omega
end
mutual
theorem eqv_tm : ∀ s t : Tm, PyData.eqv (Tm.data s) (Tm.data t) = true ↔ s = t
  | .mk s ps, .mk s' ps' => by
    rw [Tm.data, Tm.data, PyData.eqv, PyData.eqvAll, PyData.eqv, Bool.and_eq_true_iff, eqv_tms ps ps']
    constructor
    · rintro ⟨h1, h2⟩
      rw [eq_of_beq h1, h2]
    · intro h
      injection h with h1 h2
      exact ⟨by rw [h1]; exact beq_self_eq_true _, h2⟩
theorem eqv_tms : ∀ ss ts : List Tm, PyData.eqvAll (Tm.datas ss) (Tm.datas ts) = true ↔ ss = ts
  | [], [] => by rw [Tm.datas, PyData.eqvAll]; simp
  | [], t :: ts => by rw [Tm.datas, Tm.datas, PyData.eqvAll]; simp
  | s :: ss, [] => by rw [Tm.datas, Tm.datas, PyData.eqvAll]; simp
  | s :: ss, t :: ts => by
    rw [Tm.datas, Tm.datas, PyData.eqvAll, Bool.and_eq_true_iff, eqv_tm s t, eqv_tms ss ts]
    constructor
    · rintro ⟨h1, h2⟩
      rw [h1, h2]
    · intro h
      injection h with h1 h2
      exact ⟨h1, h2⟩
end
mutual
theorem alike_tm : ∀ s t : Tm, PySem.W.alike (Tm.data s) (Tm.data t) = true
  | .mk s ps, .mk s' ps' => by
    rw [Tm.data, Tm.data, PySem.W.alike, PySem.W.alikeAll, PySem.W.alike, alike_tms ps ps']
    rfl
theorem alike_tms : ∀ ss ts : List Tm, PySem.W.alikeAll (Tm.datas ss) (Tm.datas ts) = true
  | [], _ => by rw [Tm.datas, PySem.W.alikeAll]
  | s :: ss, [] => by rw [Tm.datas, Tm.datas, PySem.W.alikeAll]
  | s :: ss, t :: ts => by
    rw [Tm.datas, Tm.datas, PySem.W.alikeAll, alike_tm s t, alike_tms ss ts]
    rfl
end
mutual
theorem depth_tm : ∀ t : Tm, (Tm.data t).depth = dpt t
  | .mk s ps => by
    rw [Tm.data, PyData.depth, PyData.depthAll, PyData.depth, depth_tms ps, dpt]
    omega
theorem depth_tms : ∀ ts : List Tm, PyData.depthAll (Tm.datas ts) = dpts ts
  | [] => by rw [Tm.datas, PyData.depthAll, dpts]
  | t :: ts => by rw [Tm.datas, PyData.depthAll, depth_tm t, depth_tms ts, dpts]
end
/-- a term of some signs -/
structure TmOk (sg : List Sg) (t : Tm) : Prop where
  fit : fitsD sg.reverse t.data = true
  short : shortD t.data = true
  lay : t.data.canLay0 = true
/-- signs as they should be -/
def okSg (sg : List Sg) : Bool :=
  signsD (sgsD sg) && (shortD (sgsD sg) && (SeqAt.shaped (sgsD sg) && ((sg.all fun e => decide (lookS sg.reverse e.1 = some e.2) && (PyData.strOk e.1 && (decide (e.1.length ≤ 100000) && (decide (0 ≤ e.2) && decide (e.2 ≤ 2))))) && ((sg.any fun e => decide (e.2 = 0)) && decide (sg.length ≤ 8)))))
structure SgOk (sg : List Sg) : Prop where
  signs : signsD (sgsD sg) = true
  short : shortD (sgsD sg) = true
  shaped : SeqAt.shaped (sgsD sg) = true
  each : ∀ e ∈ sg, lookS sg.reverse e.1 = some e.2 ∧ PyData.strOk e.1 = true ∧ e.1.length ≤ 100000 ∧ 0 ≤ e.2 ∧ e.2 ≤ 2
  leaf : ∃ e ∈ sg, e.2 = 0
  few : sg.length ≤ 8
theorem SgOk.of {sg : List Sg} (h : okSg sg = true) : SgOk sg := by
  unfold okSg at h
  simp only [Bool.and_eq_true_iff, List.all_eq_true, List.any_eq_true, decide_eq_true_eq] at h
  obtain ⟨h1, h2, h3, h4, ⟨e, h5, h6⟩, h7⟩ := h
  exact ⟨h1, h2, h3, fun e he => ⟨(h4 e he).1, (h4 e he).2.1, (h4 e he).2.2.1, (h4 e he).2.2.2.1, (h4 e he).2.2.2.2⟩, ⟨e, h5, h6⟩, h7⟩
theorem sgOf_all : ∀ i, i < 3 → ∀ j, j < 4 → ∀ l, l < 3 → okSg (sgOf (1 + i) j l) = true := by
  decide +kernel
theorem sgOf_ok {i j l : Nat} (hi : i < 3) (hj : j < 4) (hl : l < 3) : SgOk (sgOf (1 + i) j l) := SgOk.of (sgOf_all i hi j hj l hl)
theorem fitsA_tms (pl : List (Str × Int)) : ∀ ps : List Tm, (∀ p ∈ ps, fitsD pl p.data = true) → fitsA pl (Tm.datas ps) = true
  | [], _ => by rw [Tm.datas, fitsA]
  | p :: ps, h => by rw [Tm.datas, fitsA, h p (List.mem_cons_self ..), fitsA_tms pl ps fun q hq => h q (List.mem_cons_of_mem _ hq)]; rfl
theorem shortsD_tms : ∀ ps : List Tm, (∀ p ∈ ps, shortD p.data = true) → shortsD (Tm.datas ps) = true
  | [], _ => rfl
  | p :: ps, h => by rw [Tm.datas, shortsD, h p (List.mem_cons_self ..), shortsD_tms ps fun q hq => h q (List.mem_cons_of_mem _ hq)]; rfl
theorem canLay_tms : ∀ ps : List Tm, (∀ p ∈ ps, p.data.canLay0 = true) → PyData.canLayAll0 (Tm.datas ps) = true
  | [], _ => by rw [Tm.datas, PyData.canLayAll0]
  | p :: ps, h => by rw [Tm.datas, PyData.canLayAll0, h p (List.mem_cons_self ..), canLay_tms ps fun q hq => h q (List.mem_cons_of_mem _ hq)]; rfl
theorem TmOk.make {sg : List Sg} {e : Sg} {ps : List Tm} (o : SgOk sg) (he : e ∈ sg) (hl : (ps.length : Int) = e.2) (h : ∀ p ∈ ps, TmOk sg p) : TmOk sg (.mk e.1 ps) := by
  obtain ⟨h1, h2, h3, h4, h5⟩ := o.each e he
  refine ⟨?_, ?_, ?_⟩
  · rw [Tm.data, fitsD_node, h1, fitsA_tms _ _ fun p hp => (h p hp).fit]
    show (decide ((((Tm.datas ps).length : Nat) : Int) = e.2) && true) = true
    rw [Tm.datas_len, decide_eq_true hl]
    rfl
  · rw [Tm.data, shortD, shortsD, shortsD_tms _ fun p hp => (h p hp).short, shortD, List.length_cons, Tm.datas_len, decide_eq_true h3, decide_eq_true (by omega)]
    rfl
  · rw [Tm.data, PyData.canLay0, PyData.canLayAll0, PyData.canLay0, h2, canLay_tms _ fun p hp => (h p hp).lay]
    rfl
/-- how large a term is at most that is drawn d deep; how many draws it takes -/
def siz : Nat → Nat
  | 0 => 1
  | d + 1 => 1 + 2 * siz d
def drw : Nat → Nat
  | 0 => 1
  | d + 1 => 2 + 2 * drw d
theorem siz_pos (d : Nat) : 1 ≤ siz d := by cases d <;> rw [siz] <;> omega
theorem pres_le {n : Nat} : ∀ ps : List Tm, (∀ p ∈ ps, (Tm.pre p).length ≤ n) → (Tm.pres ps).length ≤ ps.length * n
  | [], _ => by rw [Tm.pres]; exact Nat.zero_le _
  | p :: ps, h => by
    have h1 := h p (List.mem_cons_self ..)
    have h2 := pres_le ps fun q hq => h q (List.mem_cons_of_mem _ hq)
    rw [Tm.pres, List.length_append, List.length_cons, Nat.add_mul]
    omega
theorem dpts_le {n : Nat} : ∀ ps : List Tm, (∀ p ∈ ps, dpt p ≤ n) → dpts ps ≤ n
  | [], _ => by rw [dpts]; exact Nat.zero_le _
  | p :: ps, h => by
    have h1 := h p (List.mem_cons_self ..)
    have h2 := dpts_le ps fun q hq => h q (List.mem_cons_of_mem _ hq)
    rw [dpts]
    omega
/-- a drawn term, d deep at most -/
structure TmDr (sg : List Sg) (d : Nat) (t : Tm) : Prop where
  ok : TmOk sg t
  dp : dpt t ≤ d + 1
  sz : (Tm.pre t).length ≤ siz d
theorem TmDr.make {sg : List Sg} {e : Sg} {ps : List Tm} {d : Nat} (o : SgOk sg) (he : e ∈ sg) (hl : (ps.length : Int) = e.2) (h0 : d = 0 → ps = []) (h : ∀ p ∈ ps, TmDr sg (d - 1) p) : TmDr sg d (.mk e.1 ps) := by
  have h5 := (o.each e he).2.2.2.2
  refine ⟨TmOk.make o he hl fun p hp => (h p hp).ok, ?_, ?_⟩
  · have := dpts_le ps fun p hp => (h p hp).dp
    rw [dpt]
    cases d with
    | zero =>
      rw [h0 rfl, dpts]
      omega
    | succ d =>
      rw [Nat.add_sub_cancel] at this
      omega
  · have := pres_le ps fun p hp => (h p hp).sz
    rw [Tm.pre, List.length_cons]
    cases d with
    | zero =>
      rw [h0 rfl, Tm.pres]
      exact Nat.le_refl _
    | succ d =>
      rw [Nat.add_sub_cancel] at this
      have h2 : ps.length * siz d ≤ 2 * siz d := Nat.mul_le_mul_right _ (by omega)
      rw [siz]
      omega
end NB
namespace NB
open PySem PySem.Spec PyProof.Rows L2 LamX
/-- what may be drawn d deep -/
def fA (d : Nat) (e : Sg) : Bool := decide (e.2 = 0) || decide (0 < (d : Int))
def fB (e : Sg) : Bool := decide (0 < e.2)
end NB
namespace NB
open PySem PySem.Spec PyProof.Rows L2 LamX
theorem sgAt {K : PySem.W.Frag} {H : Hp} {v : V} {e : Sg} (h : Dp K H v (sg1 e)) : ∃ a, v = .ref a ∧ SqT K H a [.str e.1, .int e.2] := by
  obtain ⟨a, ys, rfl, hs, ha⟩ := Dp.tupD h
  obtain ⟨x, zs, rfl, g1, ha⟩ := DpAll.consD ha
  obtain ⟨y, zs, rfl, g2, ha⟩ := DpAll.consD ha
  rw [DpAll.nilD ha, Dp.strD g1, Dp.intD g2] at hs
  exact ⟨a, rfl, hs⟩
theorem filter_takeS {α : Type} {ns : List α} {i : Nat} {x : α} {f : α → Bool} (h : ns[i]? = some x) : (ns.take (i + 1)).filter f = (ns.take i).filter f ++ (if f x then [x] else []) := by
  rw [take_snoc h, List.filter_append]
  cases e : f x <;> simp [e]
theorem upd_new_ne {H : Hp} {D : Addr} {o : HO} {p : Addr} {o' : HO} (h : H D = some o) (n : H p = none) : upd H p o' D = some o := by rw [upd_ne (ne_of_none h n)]; exact h
end NB
namespace NB
open PySem PySem.Spec PyProof.Rows L2 LamX
/-- a statement, what it leaves told by a word, and what follows -/
theorem seq_open {t u : TS} {D : Ends} {σ : L2.St} {H : Hp} (Pw : L2.St → Hp → Prop) (h1 : ∀ NX : L2.St → Hp → Prop, (∀ σ' H', Pw σ' H' → NX σ' H') → t { D with nx := NX } σ H) (h2 : ∀ σ' H', Pw σ' H' → u D σ' H') : tSeq t u D σ H := h1 _ h2
theorem fA_pos {d : Nat} (h : 0 < d) (sg : List Sg) : sg.filter (fA d) = sg := by
  refine List.filter_eq_self.mpr fun e _ => ?_
  unfold fA
  rw [decide_eq_true (show (0 : Int) < (d : Int) by omega), Bool.or_true]
theorem Dp.get' {K : PySem.W.Frag} {H : Hp} {xs : List V} {sg : List Sg} {i : Nat} {x : V} {e : Sg} (h : DpAll K H xs (sg.map sg1)) (hx : xs[i]? = some x) (he : sg[i]? = some e) : Dp K H x (sg1 e) := h.get hx (by rw [List.getElem?_map, he]; rfl)
end NB
namespace NB
open PySem PySem.Spec PyProof.Rows L2 LamX
theorem Sm.updN {O : List Addr} {H H' : Hp} {D : Addr} {o : HO} (e : Sm O H H') (n : H D = none) : Sm O H (L2.upd H' D o) := fun b u h m => by
  rw [upd_ne (ne_of_none h n)]
  exact e b u h m
theorem Sm.noneP {O : List Addr} {H H' : Hp} {p cs : Addr} {z k : Int} {cells : List Int} (hp : PoolAt H p cs z k cells) (e : Sm [p, cs] H H') {l : Addr} (n : H' l = none) (hp' : PoolAt H' p cs z k cells) : l ∉ [p, cs] := hp'.nn n
end NB
namespace NB
open PySem PySem.Spec PyProof.Rows L2 LamX
theorem siz_mono {d e : Nat} (h : d ≤ e) : siz d ≤ siz e := by
  induction h with
  | refl => exact Nat.le_refl _
  | step h ih => rw [siz]; omega
theorem drw_mono {d e : Nat} (h : d ≤ e) : drw d ≤ drw e := by
  induction h with
  | refl => exact Nat.le_refl _
  | step h ih => rw [drw]; omega
theorem TmDr.mono {sg : List Sg} {d e : Nat} {t : Tm} (h : TmDr sg d t) (l : d ≤ e) : TmDr sg e t := ⟨h.ok, by have := h.dp; omega, Nat.le_trans h.sz (siz_mono l)⟩
/-- a drawn line -/
structure LnDr (sg : List Sg) (d : Nat) (l : Ln) : Prop where
  one : TmDr sg d l.1
  two : TmDr sg d l.2
def drl (d : Nat) : Nat := 4 + 2 * drw d
end NB
namespace NB
open PySem PySem.Spec PyProof.Rows L2 LamX
theorem nl_lnD (l : Ln) : nl (lnD l) = true := by
  rw [lnD, nl, nls, nls, Tm.nl_data, Tm.nl_data]
  rfl
theorem PoolAt.updN {H : Hp} {p cs : Addr} {z k : Int} {cells : List Int} {D : Addr} {o : HO} (h : PoolAt H p cs z k cells) (n : D ∉ [p, cs]) : PoolAt (upd H D o) p cs z k cells :=
  ⟨(upd_ne fun e => n (by rw [← e]; exact List.mem_cons_self ..)).trans h.pool, (upd_ne fun e => n (by rw [← e]; exact List.mem_cons_of_mem _ (List.mem_cons_self ..))).trans h.cel, h.ne, h.z0, h.z1, h.k0⟩
end NB
namespace NB
open PySem PySem.Spec PyProof.Rows L2 LamX
theorem u65_of {A : Around} {k : Nat} (hr : Room k A) : A.units + 65 < cLine := by
  have := hr.un
  omega
/-- the law's key of a term -/
def skeyD (t : Tm) : PyData := .tuple [.int ((Tm.pre t).length : Int), Tm.data t]
theorem skey_alike (s t : Tm) : PySem.W.alike (skeyD s) (skeyD t) = true := by
  unfold skeyD
  rw [PySem.W.alike, PySem.W.alikeAll, PySem.W.alikeAll, PySem.W.alike, alike_tm, PySem.W.alikeAll]
  rfl
theorem skeys_alike (B : List Tm) : PySem.W.AllAlike (B.map skeyD) := fun d hd e he => by
  obtain ⟨s, _, rfl⟩ := List.mem_map.mp hd
  obtain ⟨t, _, rfl⟩ := List.mem_map.mp he
  exact skey_alike s t
theorem skey_depth (t : Tm) : (skeyD t).depth = dpt t + 1 := by
  unfold skeyD
  rw [PyData.depth, PyData.depthAll, PyData.depthAll, PyData.depthAll, PyData.depth, depth_tm]
  omega
theorem any_eqv (t : Tm) : ∀ F : List Tm, ((Tm.datas F).any fun z => PyData.eqv z (Tm.data t)) = true ↔ t ∈ F
  | [] => by rw [Tm.datas]; simp
  | x :: F => by
    rw [Tm.datas, List.any_cons, Bool.or_eq_true_iff, eqv_tm, any_eqv t F, List.mem_cons]
    exact ⟨fun h => h.imp Eq.symm id, fun h => h.imp Eq.symm id⟩
theorem canLay_datas : ∀ F : List Tm, (∀ t ∈ F, (Tm.data t).canLay0 = true) → PyData.canLayAll0 (Tm.datas F) = true := canLay_tms
theorem dpts_all {n : Nat} (F : List Tm) (h : ∀ t ∈ F, dpt t ≤ n) : dpts F ≤ n := dpts_le F h
theorem shaped_tm {t : Tm} (h1 : (Tm.data t).canLay0 = true) (h2 : dpt t ≤ 63) : SeqAt.shaped (Tm.data t) = true := by
  unfold SeqAt.shaped
  rw [h1, depth_tm, decide_eq_true (by omega)]
  rfl
theorem shaped_tms {F : List Tm} (h1 : ∀ t ∈ F, (Tm.data t).canLay0 = true) (h2 : ∀ t ∈ F, dpt t ≤ 63) : SeqAt.shaped (.list (Tm.datas F)) = true := by
  unfold SeqAt.shaped
  have := dpts_le F h2
  rw [PyData.canLay0, canLay_datas F h1, PyData.depth, depth_tms, decide_eq_true (by omega)]
  rfl
theorem pres_rev_len : ∀ ps : List Tm, (Tm.pres ps.reverse).length = (Tm.pres ps).length
  | [] => rfl
  | p :: ps => by
    rw [List.reverse_cons, Tm.pres_app, List.length_append, pres_rev_len ps, Tm.pres, Tm.pres, Tm.pres]
    simp only [List.length_append, List.length_nil]
    omega
theorem mem_pres {x : Tm} : ∀ {ts : List Tm}, x ∈ Tm.pres ts ↔ ∃ t ∈ ts, x ∈ Tm.pre t
  | [] => by rw [Tm.pres]; simp
  | t :: ts => by
    rw [Tm.pres, List.mem_append, mem_pres]
    constructor
    · rintro (h | ⟨y, h1, h2⟩)
      · exact ⟨t, List.mem_cons_self .., h⟩
      · exact ⟨y, List.mem_cons_of_mem _ h1, h2⟩
    · rintro ⟨y, h1, h2⟩
      rcases List.mem_cons.mp h1 with q | q
      · rw [q] at h2
        exact .inl h2
      · exact .inr ⟨y, q, h2⟩
mutual
/-- what is within something within is within -/
theorem pre_trans : ∀ (t x y : Tm), x ∈ Tm.pre t → y ∈ Tm.pre x → y ∈ Tm.pre t
  | .mk s ps, x, y, h1, h2 => by
    rw [Tm.pre] at h1
    rcases List.mem_cons.mp h1 with q | q
    · rw [q] at h2
      exact h2
    · rw [Tm.pre]
      exact List.mem_cons_of_mem _ (pres_trans ps x y q h2)
theorem pres_trans : ∀ (ts : List Tm) (x y : Tm), x ∈ Tm.pres ts → y ∈ Tm.pre x → y ∈ Tm.pres ts
  | [], x, y, h1, _ => by rw [Tm.pres] at h1; cases h1
  | t :: ts, x, y, h1, h2 => by
    rw [Tm.pres] at h1 ⊢
    rcases List.mem_append.mp h1 with q | q
    · exact List.mem_append_left _ (pre_trans t x y q h2)
    · exact List.mem_append_right _ (pres_trans ts x y q h2)
end
mutual
/-- what is closed holds all that is within -/
theorem pre_closed {F : List Tm} (c : ∀ x ∈ F, ∀ p ∈ x.parts, p ∈ F) : ∀ (t x : Tm), t ∈ F → x ∈ Tm.pre t → x ∈ F
  | .mk s ps, x, h1, h2 => by
    rw [Tm.pre] at h2
    rcases List.mem_cons.mp h2 with q | q
    · rw [q]
      exact h1
    · exact pres_closed c ps x (fun p hp => c _ h1 p hp) q
theorem pres_closed {F : List Tm} (c : ∀ x ∈ F, ∀ p ∈ x.parts, p ∈ F) : ∀ (ts : List Tm) (x : Tm), (∀ t ∈ ts, t ∈ F) → x ∈ Tm.pres ts → x ∈ F
  | [], x, _, h2 => by rw [Tm.pres] at h2; cases h2
  | t :: ts, x, h1, h2 => by
    rw [Tm.pres] at h2
    rcases List.mem_append.mp h2 with q | q
    · exact pre_closed c t x (h1 t (List.mem_cons_self ..)) q
    · exact pres_closed c ts x (fun p hp => h1 p (List.mem_cons_of_mem _ hp)) q
end
mutual
theorem pre_dpt : ∀ (t x : Tm), x ∈ Tm.pre t → dpt x ≤ dpt t
  | .mk s ps, x, h => by
    rw [Tm.pre] at h
    rcases List.mem_cons.mp h with q | q
    · rw [q]
      exact Nat.le_refl _
    · have := pres_dpt ps x q
      rw [dpt]
      omega
theorem pres_dpt : ∀ (ts : List Tm) (x : Tm), x ∈ Tm.pres ts → dpt x ≤ dpts ts
  | [], x, h => by rw [Tm.pres] at h; cases h
  | t :: ts, x, h => by
    rw [Tm.pres] at h
    rw [dpts]
    rcases List.mem_append.mp h with q | q
    · have := pre_dpt t x q
      omega
    · have := pres_dpt ts x q
      omega
end
mutual
theorem pre_lay : ∀ (t x : Tm), (Tm.data t).canLay0 = true → x ∈ Tm.pre t → (Tm.data x).canLay0 = true
  | .mk s ps, x, h1, h2 => by
    rw [Tm.pre] at h2
    rcases List.mem_cons.mp h2 with q | q
    · rw [q]
      exact h1
    · rw [Tm.data, PyData.canLay0, PyData.canLayAll0, Bool.and_eq_true_iff] at h1
      exact pres_lay ps x h1.2 q
theorem pres_lay : ∀ (ts : List Tm) (x : Tm), PyData.canLayAll0 (Tm.datas ts) = true → x ∈ Tm.pres ts → (Tm.data x).canLay0 = true
  | [], x, _, h => by rw [Tm.pres] at h; cases h
  | t :: ts, x, h1, h => by
    rw [Tm.datas, PyData.canLayAll0, Bool.and_eq_true_iff] at h1
    rw [Tm.pres] at h
    rcases List.mem_append.mp h with q | q
    · exact pre_lay t x h1.1 q
    · exact pres_lay ts x h1.2 q
end
theorem part_mem_pre {s : Str} {ps : List Tm} {p : Tm} (h : p ∈ ps) : p ∈ Tm.pre (.mk s ps) := by
  rw [Tm.pre]
  exact List.mem_cons_of_mem _ (mem_pres.mpr ⟨p, h, mem_pre_self p⟩)
end NB
namespace NB
open PySem PySem.Spec PyProof.Rows L2 LamX
theorem len_of_nodup {α : Type} : ∀ {l m : List α}, l.Nodup → (∀ x ∈ l, x ∈ m) → l.length ≤ m.length
  | [], m, _, _ => Nat.zero_le _
  | a :: l, m, h1, h2 => by
    rw [List.nodup_cons] at h1
    obtain ⟨u, v, rfl⟩ := List.append_of_mem (h2 a (List.mem_cons_self ..))
    have := len_of_nodup (l := l) (m := u ++ v) h1.2 fun x hx => by
      have hm := h2 x (List.mem_cons_of_mem _ hx)
      rcases List.mem_append.mp hm with q | q
      · exact List.mem_append_left _ q
      · rcases List.mem_cons.mp q with z | z
        · rw [z] at hx
          exact absurd hx h1.1
        · exact List.mem_append_right _ z
    rw [List.length_append] at this ⊢
    rw [List.length_cons, List.length_cons]
    omega
theorem mem_addNew {B : List Tm} {t x : Tm} : x ∈ addNew B t ↔ x ∈ B ∨ x = t := by
  by_cases h : t ∈ B
  · rw [addNew_old h]
    exact ⟨.inl, fun z => z.elim id fun e => by rw [e]; exact h⟩
  · rw [addNew_new h, List.mem_append, List.mem_singleton]
theorem mem_addAll {x : Tm} : ∀ {l B : List Tm}, x ∈ l.foldl addNew B ↔ x ∈ B ∨ x ∈ l
  | [], B => by simp
  | t :: l, B => by
    rw [List.foldl_cons, mem_addAll, mem_addNew, List.mem_cons, or_assoc]
theorem mem_addT {B : List Tm} {t x : Tm} : x ∈ addT B t ↔ x ∈ B ∨ x ∈ Tm.pre t := by
  unfold addT
  rw [mem_addAll, List.mem_reverse]
theorem mem_addLs {x : Tm} : ∀ {ls : List Ln} {B : List Tm}, x ∈ ls.foldl addL B ↔ x ∈ B ∨ ∃ l ∈ ls, x ∈ Tm.pre l.1 ∨ x ∈ Tm.pre l.2
  | [], B => by simp
  | l :: ls, B => by
    rw [List.foldl_cons, mem_addLs]
    unfold addL
    rw [mem_addT, mem_addT]
    constructor
    · rintro ((( h | h) | h) | ⟨y, h1, h2⟩)
      · exact .inl h
      · exact .inr ⟨l, List.mem_cons_self .., .inl h⟩
      · exact .inr ⟨l, List.mem_cons_self .., .inr h⟩
      · exact .inr ⟨y, List.mem_cons_of_mem _ h1, h2⟩
    · rintro (h | ⟨y, h1, h2⟩)
      · exact .inl (.inl (.inl h))
      · rcases List.mem_cons.mp h1 with q | q
        · rw [q] at h2
          rcases h2 with h2 | h2
          · exact .inl (.inl (.inr h2))
          · exact .inl (.inr h2)
        · exact .inr ⟨y, q, h2⟩
theorem nodup_addNew {B : List Tm} {t : Tm} (h : B.Nodup) : (addNew B t).Nodup := by
  by_cases m : t ∈ B
  · rw [addNew_old m]
    exact h
  · rw [addNew_new m, List.nodup_append]
    exact ⟨h, (by simp : [t].Nodup), fun x hx y hy e => m (by rw [← List.mem_singleton.mp hy, ← e]; exact hx)⟩
theorem nodup_addAll : ∀ {l B : List Tm}, B.Nodup → (l.foldl addNew B).Nodup
  | [], _, h => h
  | t :: l, B, h => by
    rw [List.foldl_cons]
    exact nodup_addAll (nodup_addNew h)
theorem nodup_addLs : ∀ {ls : List Ln} {B : List Tm}, B.Nodup → (ls.foldl addL B).Nodup
  | [], _, h => h
  | l :: ls, B, h => by
    rw [List.foldl_cons]
    exact nodup_addLs (nodup_addAll (nodup_addAll h))
/-- the sides of lines, the first ones ahead -/
def sidesL (ls : List Ln) : List Tm := ls.map (·.1) ++ ls.map (·.2)
theorem pres_sides (ls : List Ln) : (Tm.pres (sidesL ls)).length = cntL ls := by
  unfold sidesL
  rw [Tm.pres_app, List.length_append]
  induction ls with
  | nil => rw [List.map_nil, List.map_nil, Tm.pres]; rfl
  | cons l ls ih =>
    rw [List.map_cons, List.map_cons, Tm.pres, Tm.pres, List.length_append, List.length_append, cntL, ← ih]
    omega
theorem mem_sides {ls : List Ln} {x : Tm} : x ∈ Tm.pres (sidesL ls) ↔ ∃ l ∈ ls, x ∈ Tm.pre l.1 ∨ x ∈ Tm.pre l.2 := by
  rw [mem_pres]
  unfold sidesL
  constructor
  · rintro ⟨t, h1, h2⟩
    rcases List.mem_append.mp h1 with q | q
    · obtain ⟨l, h3, rfl⟩ := List.mem_map.mp q
      exact ⟨l, h3, .inl h2⟩
    · obtain ⟨l, h3, rfl⟩ := List.mem_map.mp q
      exact ⟨l, h3, .inr h2⟩
  · rintro ⟨l, h1, h2 | h2⟩
    · exact ⟨l.1, List.mem_append_left _ (List.mem_map.mpr ⟨l, h1, rfl⟩), h2⟩
    · exact ⟨l.2, List.mem_append_right _ (List.mem_map.mpr ⟨l, h1, rfl⟩), h2⟩
theorem cntL_le {n : Nat} : ∀ {ls : List Ln}, (∀ l ∈ ls, (Tm.pre l.1).length ≤ n ∧ (Tm.pre l.2).length ≤ n) → cntL ls ≤ ls.length * (2 * n)
  | [], _ => Nat.zero_le _
  | l :: ls, h => by
    have h1 := h l (List.mem_cons_self ..)
    have h2 := cntL_le fun x hx => h x (List.mem_cons_of_mem _ hx)
    rw [cntL, List.length_cons, Nat.add_mul]
    omega
theorem LnDr.ok {sg : List Sg} {d : Nat} {l : Ln} (h : LnDr sg d l) (hd : siz d ≤ 10000) : LnOk sg l := by
  obtain ⟨a, b⟩ := l
  have h1 := h.one.sz
  have h2 := h.two.sz
  refine ⟨?_, ?_, ?_⟩
  · show (fitsD sg.reverse a.data && fitsD sg.reverse b.data) = true
    rw [h.one.ok.fit, h.two.ok.fit]
    rfl
  · rw [lnD, shortD, shortsD, shortsD, shortsD, h.one.ok.short, h.two.ok.short]
    rfl
  · rw [lnD, cntD, cntsD, cntsD, cntsD, cnt_data, cnt_data]
    have h3 : (Tm.pre a).length ≤ siz d := h1
    have h4 : (Tm.pre b).length ≤ siz d := h2
    show 1 + (2 * (Tm.pre a).length + (2 * (Tm.pre b).length + 0)) ≤ 100000
    omega
end NB
namespace NB
open PySem PySem.Spec PyProof.Rows L2 LamX
theorem sIx_init (n d : Nat) : HT.sIx n d (some (-1)) = n - 1 := by
  show (if (-1 : Int) < 0 then ((-1 : Int) + (n : Int)).toNat else min (-1 : Int).toNat n) = n - 1
  rw [if_pos (by decide)]
  omega
theorem cutV_init (xs : List V) : cutV xs none (some (-1)) = xs.dropLast := by
  unfold cutV
  rw [sIx_init, HT.sIx_none, List.drop_zero, Nat.sub_zero, List.dropLast_eq_take]
theorem init_not {xs : List V} (h : 0 < xs.length) : ¬ (HT.sIx xs.length 0 none = 0 ∧ HT.sIx xs.length xs.length (some (-1)) = xs.length) := fun z => by
  rw [sIx_init] at z
  omega
theorem DpAll.init {K : PySem.W.Frag} {H : Hp} {vs : List V} {ds : List PyData} (h : DpAll K H vs ds) : DpAll K H vs.dropLast ds.dropLast := by
  rw [List.dropLast_eq_take, List.dropLast_eq_take, h.len]
  exact DpAll.take _ h
end NB

/-! what a turn of a law knows -/
namespace NB
open PySem PySem.Spec PyProof.Rows L2 LamX
theorem PoolAt.mut {H : Hp} {p cs : Addr} {z k : Int} {cells : List Int} (h : PoolAt H p cs z k cells) : Mut H [p, cs] := fun b hb => by
  rcases mem2 hb with q | q
  · rw [q, h.pool]
    exact ⟨(fun _ z => nomatch z), fun _ _ z => nomatch z⟩
  · rw [q, h.cel]
    exact ⟨(fun _ z => nomatch z), fun _ _ z => nomatch z⟩
theorem PoolAt.fr {H H' : Hp} {p cs : Addr} {z k : Int} {cells : List Int} {Tt : List (Addr × Str)} (h : PoolAt H p cs z k cells) (f : Fr Tt [] H H') : PoolAt H' p cs z k cells :=
  ⟨f.kp _ _ h.pool (fun z => nomatch z) (fun _ z => nomatch z), f.kp _ _ h.cel (fun z => nomatch z) (fun _ z => nomatch z), h.ne, h.z0, h.z1, h.k0⟩
theorem Fr.imm0 {Tt : List (Addr × Str)} {H H' : Hp} (f : Fr Tt [] H H') : Imm H H' := f.kp.imm (fun b z => nomatch z)
theorem LoreAt.fr {K : PySem.W.Frag} {C : Addr} {Tt : List (Addr × Str)} {H H' : Hp} {q : Addr} {sg : List Sg} {ls : List Ln} (h : LoreAt K C H q sg ls) (f : Fr Tt [] H H') : LoreAt K C H' q sg ls := h.kp f.kp (fun b z => nomatch z) (fun z => nomatch z)
theorem LoreAt.sm {K : PySem.W.Frag} {C : Addr} {H H' : Hp} {q p cs : Addr} {z k : Int} {cells : List Int} {sg : List Sg} {ls : List Ln} (h : LoreAt K C H q sg ls) (hp : PoolAt H p cs z k cells) (e : Sm [p, cs] H H') : LoreAt K C H' q sg ls :=
  h.kp (S := [p, cs]) (fun b o hb n _ => e b o hb n) hp.mut (fun m => by
    obtain ⟨dx, sa, lv, h1, _⟩ := h
    rcases mem2 m with q | q
    · rw [q, hp.pool] at h1
      cases h1
    · rw [q, hp.cel] at h1
      cases h1)
/-- what a turn knows of its lore -/
structure TurnAt (K : PySem.W.Frag) (C : Addr) (Tt : List (Addr × Str)) (p cs : Addr) (z : Int) (r sa : Addr) (lv : V) (sg : List Sg) (ls : List Ln) (k : Int) (H : Hp) : Prop where
  pool : ∃ c, PoolAt H p cs z k c
  spec : SqT K H r [.ref sa, lv]
  signs : SgsAt K H sa sg
  lines : Dp K H lv (lnsD ls)
  tabs : Tabs Tt H
section
variable {K : PySem.W.Frag} {C : Addr} {Tt : List (Addr × Str)} {p cs : Addr} {z : Int} {r sa : Addr} {lv : V} {sg : List Sg} {ls : List Ln} {k k' : Int} {H H' : Hp}
theorem TurnAt.fr (h : TurnAt K C Tt p cs z r sa lv sg ls k H) (f : Fr Tt [] H H') : TurnAt K C Tt p cs z r sa lv sg ls k H' := by
  obtain ⟨⟨c, h1⟩, h2, h3, h4, h5⟩ := h
  exact ⟨⟨c, h1.fr f⟩, f.imm0.sq h2, h3.imm f.imm0, Dp.imm f.imm0 _ _ (nl_lnsD ls) h4, f.tb h5⟩
theorem TurnAt.same (h : TurnAt K C Tt p cs z r sa lv sg ls k H) (s : Same H H') : TurnAt K C Tt p cs z r sa lv sg ls k H' := h.fr (Fr.same s)
theorem TurnAt.sm {c' : List Int} (h : TurnAt K C Tt p cs z r sa lv sg ls k H) (e : Sm [p, cs] H H') (hp : PoolAt H' p cs z k' c') : TurnAt K C Tt p cs z r sa lv sg ls k' H' := by
  obtain ⟨⟨c, h1⟩, h2, h3, h4, h5⟩ := h
  have i := e.imm h1.ow
  exact ⟨⟨c', hp⟩, i.sq h2, h3.imm i, Dp.imm i _ _ (nl_lnsD ls) h4, e.tabs h1.ow h5⟩
end

end NB

/-! homes: forests of numbers, and the least congruence -/
namespace NB
/-- the home of a number -/
def hm (hs : List Nat) (i : Nat) : Nat := hs.getD i 0
theorem hm_get {hs : List Nat} {i x : Nat} (h : hs[i]? = some x) : hm hs i = x := by
  unfold hm
  rw [List.getD_eq_getElem?_getD, h]
  rfl
theorem get_hm {hs : List Nat} {i : Nat} (h : i < hs.length) : hs[i]? = some (hm hs i) := by
  unfold hm
  rw [List.getD_eq_getElem?_getD, List.getElem?_eq_getElem h]
  rfl
theorem hm_set {hs : List Nat} {i j x : Nat} (h : i < hs.length) : hm (hs.set i x) j = if j = i then x else hm hs j := by
  unfold hm
  rw [List.getD_eq_getElem?_getD, List.getD_eq_getElem?_getD, List.getElem?_set]
  by_cases e : j = i
  · subst e
    rw [if_pos rfl, if_pos h, if_pos rfl]
    rfl
  · rw [if_neg (fun z => e z.symm), if_neg e]
/-- every number leads to a root; f tells it, d how far it is -/
structure Forest (n : Nat) (hs : List Nat) (f d : Nat → Nat) : Prop where
  len : hs.length = n
  low : ∀ i, i < n → hm hs i < n
  root : ∀ i, i < n → hm hs i = i → f i = i
  step : ∀ i, i < n → hm hs i ≠ i → f (hm hs i) = f i ∧ d (hm hs i) < d i
variable {n : Nat} {hs : List Nat} {f d : Nat → Nat}
theorem Forest.end (F : Forest n hs f d) : ∀ (m i : Nat), d i ≤ m → i < n → f i < n ∧ hm hs (f i) = f i
  | 0, i, hd, hi => by
    by_cases e : hm hs i = i
    · rw [F.root i hi e]
      exact ⟨hi, e⟩
    · have := (F.step i hi e).2
      omega
  | m + 1, i, hd, hi => by
    by_cases e : hm hs i = i
    · rw [F.root i hi e]
      exact ⟨hi, e⟩
    · obtain ⟨h1, h2⟩ := F.step i hi e
      have g := F.end m (hm hs i) (by omega) (F.low i hi)
      rw [h1] at g
      exact g
theorem Forest.lt (F : Forest n hs f d) {i : Nat} (h : i < n) : f i < n := (F.end (d i) i (Nat.le_refl _) h).1
theorem Forest.fix (F : Forest n hs f d) {i : Nat} (h : i < n) : hm hs (f i) = f i := (F.end (d i) i (Nat.le_refl _) h).2
theorem Forest.idem (F : Forest n hs f d) {i : Nat} (h : i < n) : f (f i) = f i := F.root _ (F.lt h) (F.fix h)
theorem Forest.up (F : Forest n hs f d) {i : Nat} (h : i < n) : f (hm hs i) = f i := by
  by_cases e : hm hs i = i
  · rw [e]
  · exact (F.step i h e).1
/-- a number is set to the home of its home -/
theorem Forest.halve (F : Forest n hs f d) {i : Nat} (h : i < n) : Forest n (hs.set i (hm hs (hm hs i))) f d := by
  have hl := F.low i h
  have hi : i < hs.length := by rw [F.len]; exact h
  refine ⟨by rw [List.length_set]; exact F.len, fun j hj => ?_, fun j hj => ?_, fun j hj => ?_⟩
  · rw [hm_set hi]
    split
    · exact F.low _ hl
    · exact F.low j hj
  · rw [hm_set hi]
    split
    · rename_i e
      subst e
      intro z
      by_cases e : hm hs j = j
      · exact F.root j hj e
      · have h1 := F.step j hj e
        by_cases e2 : hm hs (hm hs j) = hm hs j
        · rw [e2] at z
          exact absurd z e
        · have h2 := F.step _ hl e2
          rw [z] at h2
          omega
    · exact F.root j hj
  · rw [hm_set hi]
    split
    · rename_i e
      subst e
      intro z
      by_cases e : hm hs j = j
      · rw [e, e] at z
        exact absurd rfl z
      · have h1 := F.step j hj e
        by_cases e2 : hm hs (hm hs j) = hm hs j
        · rw [e2]
          exact h1
        · have h2 := F.step _ hl e2
          exact ⟨by rw [h2.1, h1.1], by omega⟩
    · exact F.step j hj
/-- two trees are put together -/
def joinF (f : Nat → Nat) (a b : Nat) : Nat → Nat := fun i => if f i = b then a else f i
def joinD (f d : Nat → Nat) (a b : Nat) : Nat → Nat := fun i => if f i = b then d i + d a + 1 else d i
theorem Forest.join (F : Forest n hs f d) {a b : Nat} (ha : a < n) (hb : b < n) (ra : f a = a) (rb : f b = b) (ne : a ≠ b) : Forest n (hs.set b a) (joinF f a b) (joinD f d a b) := by
  have hi : b < hs.length := by rw [F.len]; exact hb
  have pa : joinF f a b a = a := by
    unfold joinF
    rw [ra, if_neg ne]
  refine ⟨by rw [List.length_set]; exact F.len, fun j hj => ?_, fun j hj => ?_, fun j hj => ?_⟩
  · rw [hm_set hi]
    split
    · exact ha
    · exact F.low j hj
  · rw [hm_set hi]
    split
    · rename_i e
      intro z
      exact absurd (z.trans e) ne
    · rename_i e
      intro z
      have g := F.root j hj z
      unfold joinF
      rw [g, if_neg e]
  · rw [hm_set hi]
    split
    · rename_i e
      subst e
      intro _
      refine ⟨?_, ?_⟩
      · rw [pa]
        unfold joinF
        rw [rb, if_pos rfl]
      · unfold joinD
        rw [ra, if_neg ne, rb, if_pos rfl]
        omega
    · intro z
      obtain ⟨h1, h2⟩ := F.step j hj z
      unfold joinF joinD
      rw [h1]
      refine ⟨rfl, ?_⟩
      split
      · omega
      · exact h2
theorem join_le {f : Nat → Nat} {a b i j : Nat} (h : f i = f j) : joinF f a b i = joinF f a b j := by
  unfold joinF
  rw [h]
theorem join_iff {f : Nat → Nat} {a b i j : Nat} (h : joinF f a b i = joinF f a b j) : f i = f j ∨ (f i = a ∧ f j = b) ∨ (f i = b ∧ f j = a) := by
  unfold joinF at h
  by_cases h1 : f i = b
  · by_cases h2 : f j = b
    · exact .inl (h1.trans h2.symm)
    · rw [if_pos h1, if_neg h2] at h
      exact .inr (.inr ⟨h1, h.symm⟩)
  · by_cases h2 : f j = b
    · rw [if_neg h1, if_pos h2] at h
      exact .inr (.inl ⟨h, h2⟩)
    · rw [if_neg h1, if_neg h2] at h
      exact .inl h
/-- how many roots there are -/
def roots (n : Nat) (f : Nat → Nat) : Nat := ((List.range n).filter fun i => decide (f i = i)).length
theorem roots_le (n : Nat) (f : Nat → Nat) : roots n f ≤ n := by
  unfold roots
  refine Nat.le_trans (List.length_filter_le ..) ?_
  rw [List.length_range]
  exact Nat.le_refl _
theorem filter_drop {l : List Nat} {p q : Nat → Bool} {b : Nat} (nd : l.Nodup) (hb : b ∈ l) (pb : p b = true) (qb : q b = false) (h : ∀ i ∈ l, i ≠ b → p i = q i) : (l.filter p).length = (l.filter q).length + 1 := by
  induction l with
  | nil => cases hb
  | cons x l ih =>
    rw [List.nodup_cons] at nd
    by_cases e : x = b
    · subst e
      have : l.filter p = l.filter q := List.filter_congr fun i hi => h i (List.mem_cons_of_mem _ hi) fun z => nd.1 (by rw [← z]; exact hi)
      rw [List.filter_cons, List.filter_cons, pb, qb, this]
      rfl
    · have hb' : b ∈ l := (List.mem_cons.mp hb).resolve_left fun z => e z.symm
      have := ih nd.2 hb' fun i hi => h i (List.mem_cons_of_mem _ hi)
      have hx := h x (List.mem_cons_self ..) e
      rw [List.filter_cons, List.filter_cons, hx]
      split
      · rw [List.length_cons, List.length_cons, this]
      · exact this
theorem Forest.roots_join (F : Forest n hs f d) {a b : Nat} (ha : a < n) (hb : b < n) (ra : f a = a) (rb : f b = b) (ne : a ≠ b) : roots n f = roots n (joinF f a b) + 1 := by
  unfold roots
  refine filter_drop (b := b) List.nodup_range (List.mem_range.mpr hb) (decide_eq_true rb) ?_ fun i hi ni => ?_
  · refine decide_eq_false ?_
    unfold joinF
    rw [rb, if_pos rfl]
    exact ne
  · refine decide_eq_decide.mpr ?_
    unfold joinF
    by_cases e : f i = b
    · rw [if_pos e]
      constructor
      · intro z
        exact absurd (z.symm.trans e) ni
      · intro z
        subst z
        rw [ra] at e
        exact absurd e ne
    · rw [if_neg e]
theorem forest0 (n : Nat) : Forest n (List.range n) id (fun _ => 0) := by
  have g : ∀ i, i < n → hm (List.range n) i = i := fun i hi => hm_get (by rw [List.getElem?_range hi])
  refine ⟨List.length_range, fun i hi => ?_, fun i hi _ => rfl, fun i hi z => absurd (g i hi) z⟩
  rw [g i hi]
  exact hi
/-- shapes: a sign and the numbers of its parts -/
abbrev Shp (α : Type) := List (α × List Nat)
/-- an equivalence on numbers that tells what pairs tell and goes into likes -/
structure IsCg {α : Type} (sh : Shp α) (ps : List (Nat × Nat)) (R : Nat → Nat → Prop) : Prop where
  refl : ∀ i, R i i
  symm : ∀ i j, R i j → R j i
  trans : ∀ i j k, R i j → R j k → R i k
  pair : ∀ p ∈ ps, R p.1 p.2
  like : ∀ (i j : Nat) (s : α) (xs ys : List Nat), sh[i]? = some (s, xs) → sh[j]? = some (s, ys) → xs.length = ys.length → (∀ (k : Nat) (x y : Nat), xs[k]? = some x → ys[k]? = some y → R x y) → R i j
def Cg {α : Type} (sh : Shp α) (ps : List (Nat × Nat)) (i j : Nat) : Prop := ∀ R, IsCg sh ps R → R i j
theorem Cg.is {α : Type} (sh : Shp α) (ps : List (Nat × Nat)) : IsCg sh ps (Cg sh ps) :=
  ⟨fun i R h => h.refl i, fun i j g R h => h.symm _ _ (g R h), fun i j k g1 g2 R h => h.trans _ _ _ (g1 R h) (g2 R h), fun p hp R h => h.pair p hp,
    fun i j s xs ys h1 h2 hl g R h => h.like i j s xs ys h1 h2 hl fun k x y hx hy => g k x y hx hy R h⟩
theorem map_ext {xs ys : List Nat} {f : Nat → Nat} (h : xs.map f = ys.map f) {k x y : Nat} (hx : xs[k]? = some x) (hy : ys[k]? = some y) : f x = f y := by
  have e : (xs.map f)[k]? = (ys.map f)[k]? := by rw [h]
  rw [List.getElem?_map, List.getElem?_map, hx, hy] at e
  exact Option.some.inj e
theorem map_same {xs ys : List Nat} {f : Nat → Nat} (hl : xs.length = ys.length) (h : ∀ (k : Nat) (x y : Nat), xs[k]? = some x → ys[k]? = some y → f x = f y) : xs.map f = ys.map f := by
  refine List.ext_getElem (by rw [List.length_map, List.length_map, hl]) fun k h1 h2 => ?_
  rw [List.length_map] at h1 h2
  rw [List.getElem_map, List.getElem_map]
  exact h k _ _ (List.getElem?_eq_getElem h1) (List.getElem?_eq_getElem h2)
/-- what a merger knows: same roots are told equal -/
structure Sound {α : Type} (sh : Shp α) (ps : List (Nat × Nat)) (f : Nat → Nat) : Prop where
  of : ∀ i j, i < sh.length → j < sh.length → f i = f j → Cg sh ps i j
theorem Forest.sound_join {α : Type} {sh : Shp α} {ps : List (Nat × Nat)} (F : Forest n hs f d) (hn : n = sh.length) (S : Sound sh ps f) {x y : Nat} (hx : x < n) (hy : y < n) (c : Cg sh ps x y) : Sound sh ps (joinF f (f x) (f y)) := by
  have I := Cg.is sh ps
  have own : ∀ i, i < n → Cg sh ps i (f i) := fun i hi => S.of i (f i) (by omega) (by have := F.lt hi; omega) (F.idem hi).symm
  refine ⟨fun i j hi hj e => ?_⟩
  rcases join_iff e with h | ⟨h1, h2⟩ | ⟨h1, h2⟩
  · exact S.of i j hi hj h
  · exact I.trans _ _ _ (S.of i x hi (by omega) h1) (I.trans _ _ _ c (S.of y j (by omega) hj h2.symm))
  · exact I.trans _ _ _ (S.of i y hi (by omega) h1) (I.trans _ _ _ (I.symm _ _ c) (S.of x j (by omega) hj h2.symm))
/-- roots that know the pairs and all likes tell just the least congruence -/
theorem cg_iff {α : Type} {sh : Shp α} {ps : List (Nat × Nat)} {f : Nat → Nat} (S : Sound sh ps f) (hp : ∀ p ∈ ps, f p.1 = f p.2)
    (hl : ∀ (i j : Nat) (s : α) (xs ys : List Nat), sh[i]? = some (s, xs) → sh[j]? = some (s, ys) → xs.map f = ys.map f → f i = f j) {i j : Nat} (hi : i < sh.length) (hj : j < sh.length) : Cg sh ps i j ↔ f i = f j := by
  constructor
  · intro c
    exact c (fun i j => f i = f j) ⟨fun _ => rfl, fun _ _ h => h.symm, fun _ _ _ h g => h.trans g, hp, fun i j s xs ys h1 h2 hle h => hl i j s xs ys h1 h2 (map_same hle h)⟩
  · exact S.of i j hi hj
end NB

/-! a comprehension within a comprehension -/
namespace NB
open PySem PySem.Spec PyProof.Rows L2
theorem blk_in {N : List Str} {sc0 scope0 scope : Scope} {own : List (Str × Nat)} {env : Env} {cl : List (Str × Addr)} {C : Addr} (e : env.scope = sc0) (h : blkC N (relS scope0 sc0) scope own = true) : BlkOk N (compEnvC scope0 cl C env).scope scope own := by
  subst e
  exact blkOk_by h
def rTupleOf (K : PySem.W.Frag) : List V → Hp → VK → Prop := fun xs H Q => ∃ (p : Addr) (ys : List V), xs = [.ref p] ∧ ((SqL K H p ys ∧ ∀ l, H l = none → Q (.ref l) (upd H l (.tup ys))) ∨ (SqT K H p ys ∧ Q (.ref p) H))
theorem call_tuple_ofR {X : Cx} : CallR X (.type "tuple") (rTupleOf X.K) := call_tuple_of
end NB

/-! repr of ints and texts; heaps some places of which are hidden; things and terms -/
namespace NB
open PySem PySem.Spec PyProof.Rows L2 LamX
section
variable {X : Cx}
theorem call_reprS : CallR X (.builtin "repr") (fun xs H Q => (∃ i, xs = [.int i] ∧ i.natAbs.log2 < 1920 ∧ Q (.str (toString i)) H) ∨ ∃ a, xs = [.str a] ∧ (reprText a).length ≤ sizeLine ∧ Q (.str (reprText a)) H) := by
  intro pins s σ H xs us Q I r h
  rcases h with ⟨i, rfl, hz, q⟩ | ⟨a, rfl, hz, q⟩
  · obtain ⟨u, rfl, t, rfl⟩ := vals1 r
    exact PySem.P.repr_of_int hz ⟨.str _, H, I.tok _, ⟨_, rfl⟩, q⟩
  · obtain ⟨u, rfl, t, rfl⟩ := vals1 r
    exact PySem.P.repr_of_str ⟨.str _, H, I.tok _, ⟨_, rfl⟩, q⟩ hz
end
/-- the places O are hidden -/
def hid (O : List Addr) (H : Hp) : Hp := fun b => if b ∈ O then none else H b
theorem hid_in {O : List Addr} {H : Hp} {b : Addr} (h : b ∈ O) : hid O H b = none := if_pos h
theorem hid_out {O : List Addr} {H : Hp} {b : Addr} (h : b ∉ O) : hid O H b = H b := if_neg h
theorem hid_same (O : List Addr) (H : Hp) : Same (hid O H) H := fun b o h => by
  by_cases e : b ∈ O
  · rw [hid_in e] at h
    cases h
  · rw [hid_out e] at h
    exact h
theorem Sm.hid {O : List Addr} {H H' : Hp} (e : Sm O H H') : Same (hid O H) (hid O H') := fun b o h => by
  by_cases m : b ∈ O
  · rw [hid_in m] at h
    cases h
  · rw [hid_out m] at h ⊢
    exact e b o h m
theorem Jp.sm {K : PySem.W.Frag} {O : List Addr} {H H' : Hp} {v : V} {d : PyData} (e : Sm O H H') (h : Jp K (hid O H) v d) : Jp K (hid O H') v d := Jp.same e.hid d v h
theorem Jp.out {K : PySem.W.Frag} {O : List Addr} {H : Hp} {v : V} {d : PyData} (h : Jp K (hid O H) v d) : Jp K H v d := Jp.same (hid_same O H) d v h
theorem hid_at {O : List Addr} {H : Hp} {b : Addr} {o : HO} (m : b ∉ O) (h : H b = some o) : hid O H b = some o := by rw [hid_out m]; exact h
/-! ### what fits is a term -/
mutual
theorem fits_tm (pl : List (Str × Int)) : ∀ d : PyData, fitsD pl d = true → ∃ t : Tm, d = Tm.data t
  | .tuple (.str s :: ps), h => by
    rw [fitsD_node, Bool.and_eq_true_iff] at h
    obtain ⟨ts, rfl⟩ := fitsA_tm pl ps h.2
    exact ⟨.mk s ts, by rw [Tm.data]⟩
  | .tuple [], h => by unfold fitsD at h; cases h
  | .tuple (.none :: _), h => by unfold fitsD at h; cases h
  | .tuple (.bool _ :: _), h => by unfold fitsD at h; cases h
  | .tuple (.int _ :: _), h => by unfold fitsD at h; cases h
  | .tuple (.list _ :: _), h => by unfold fitsD at h; cases h
  | .tuple (.tuple _ :: _), h => by unfold fitsD at h; cases h
  | .tuple (.dict _ :: _), h => by unfold fitsD at h; cases h
  | .none, h => by unfold fitsD at h; cases h
  | .bool _, h => by unfold fitsD at h; cases h
  | .int _, h => by unfold fitsD at h; cases h
  | .str _, h => by unfold fitsD at h; cases h
  | .list _, h => by unfold fitsD at h; cases h
  | .dict _, h => by unfold fitsD at h; cases h
theorem fitsA_tm (pl : List (Str × Int)) : ∀ ds : List PyData, fitsA pl ds = true → ∃ ts : List Tm, ds = Tm.datas ts
  | [], _ => ⟨[], by rw [Tm.datas]⟩
  | d :: ds, h => by
    rw [fitsA, Bool.and_eq_true_iff] at h
    obtain ⟨t, rfl⟩ := fits_tm pl d h.1
    obtain ⟨ts, rfl⟩ := fitsA_tm pl ds h.2
    exact ⟨t :: ts, by rw [Tm.datas]⟩
end
mutual
theorem Jp.dp {K : PySem.W.Frag} {H : Hp} : ∀ (t : Tm) (v : V), Jp K H v (Tm.data t) → Dp K H v (Tm.data t)
  | .mk s ps, v, h => by
    rw [Tm.data] at h ⊢
    cases h with
    | tup hs ha =>
      cases ha with
      | cons h1 h2 =>
        cases h1 with
        | str x => exact .tup hs (.cons (.str _) (JpAll.dp ps _ h2))
theorem JpAll.dp {K : PySem.W.Frag} {H : Hp} : ∀ (ts : List Tm) (vs : List V), JpAll K H vs (Tm.datas ts) → DpAll K H vs (Tm.datas ts)
  | [], vs, h => by
    rw [Tm.datas] at h ⊢
    cases h
    exact .nil
  | t :: ts, vs, h => by
    rw [Tm.datas] at h ⊢
    cases h with
    | cons h1 h2 => exact .cons (Jp.dp t _ h1) (JpAll.dp ts _ h2)
end
end NB
namespace NB
open PySem PySem.Spec PyProof.Rows L2 LamX
section
variable {X : Cx}
/-- x in t, t a tuple, data of any depth -/
def rInT (K : PySem.W.Frag) : R2 := fun x y H Q => ∃ d ds, Dp K H x d ∧ Dp K H y (.tuple ds) ∧ SeqAt.shaped d = true ∧ SeqAt.shaped (.tuple ds) = true ∧ Q (.bl (ds.any fun z => PyData.eqv z d)) H
theorem op_inT (hu : X.A.units + 65 < cLine) : OpR X (compareOp .In) (rInT X.K) := by
  intro pins s σ H x y v u Q I rx ry h
  obtain ⟨d, ds, hd, he, sd, se, q⟩ := h
  obtain ⟨as, r1⟩ := Dp.reads I d x v hd rx
  obtain ⟨bs, r2⟩ := Dp.reads I (.tuple ds) y u he ry
  exact SeqAt.in_tuple_reads r2 r1 (SeqAt.canLay_of_shaped se) (SeqAt.canLay_of_shaped sd) (room_in_shaped sd hu) ⟨.bl _, H, I, rfl, q⟩
end
/-- how deep tuples stand in a thing -/
theorem eqv_sg (e : Sg) (s : Str) (n : Int) : PyData.eqv (sg1 e) (.tuple [.str s, .int n]) = (decide (e.1 = s) && decide (e.2 = n)) := by
  rw [Bool.eq_iff_iff]
  unfold sg1
  rw [PyData.eqv, PyData.eqvAll, PyData.eqvAll, PyData.eqvAll, PyData.eqv, PyData.eqv]
  simp only [Bool.and_eq_true_iff, Bool.and_true, decide_eq_true_eq, beq_iff_eq]
theorem sg_in (sg : List Sg) (s : Str) (n : Int) : ((sg.map sg1).any fun z => PyData.eqv z (.tuple [.str s, .int n])) = sg.any fun e => decide (e.1 = s) && decide (e.2 = n) := by
  rw [List.any_map]
  exact congrArg (fun f => sg.any f) (funext fun e => eqv_sg e s n)
theorem lookS_mem {pl : List (Str × Int)} {s : Str} {n : Int} (h : lookS pl s = some n) : (s, n) ∈ pl := by
  unfold lookS at h
  obtain ⟨e, h1, h2⟩ := Option.map_eq_some_iff.mp h
  have h3 := List.mem_of_find?_eq_some h1
  have h4 := List.find?_some h1
  have h5 : e.1 = s := by simpa using h4
  rw [← h5, ← h2]
  exact h3
/-- a sign with so many parts is the lore's -/
theorem sg_fit {sg : List Sg} (o : SgOk sg) (s : Str) (n : Int) : (sg.any fun e => decide (e.1 = s) && decide (e.2 = n)) = (match lookS sg.reverse s with | some m => decide (n = m) | none => false) := by
  cases h : lookS sg.reverse s with
  | some m =>
    have hm := List.mem_reverse.mp (lookS_mem h)
    show _ = decide (n = m)
    by_cases e : n = m
    · rw [decide_eq_true e]
      exact List.any_eq_true.mpr ⟨(s, m), hm, by rw [decide_eq_true rfl, decide_eq_true e.symm]; rfl⟩
    · rw [decide_eq_false e]
      refine Bool.eq_false_iff.mpr fun z => ?_
      obtain ⟨y, h1, h2⟩ := List.any_eq_true.mp z
      obtain ⟨h3, h4⟩ := Bool.and_eq_true_iff.mp h2
      have h5 := (o.each y h1).1
      rw [of_decide_eq_true h3, h, of_decide_eq_true h4] at h5
      exact e (Option.some.inj h5).symm
  | none =>
    refine Bool.eq_false_iff.mpr fun z => ?_
    obtain ⟨y, h1, h2⟩ := List.any_eq_true.mp z
    obtain ⟨h3, h4⟩ := Bool.and_eq_true_iff.mp h2
    have h5 := (o.each y h1).1
    rw [of_decide_eq_true h3, h] at h5
    cases h5
end NB
namespace NB
open PySem PySem.Spec PyProof.Rows L2 LamX
theorem depthAll_mem : ∀ {ds : List PyData} {d : PyData}, d ∈ ds → d.depth ≤ PyData.depthAll ds
  | x :: ds, d, h => by
    rw [PyData.depthAll]
    rcases List.mem_cons.mp h with q | q
    · rw [q]
      exact Nat.le_max_left _ _
    · exact Nat.le_trans (depthAll_mem q) (Nat.le_max_right _ _)
theorem canLay_mem : ∀ {ds : List PyData} {d : PyData}, PyData.canLayAll0 ds = true → d ∈ ds → d.canLay0 = true
  | x :: ds, d, h, m => by
    rw [PyData.canLayAll0, Bool.and_eq_true_iff] at h
    rcases List.mem_cons.mp m with q | q
    · rw [q]
      exact h.1
    · exact canLay_mem h.2 q
end NB
namespace NB
open PySem PySem.Spec PyProof.Rows L2 LamX
def okPl (o : Option Int) (n : Int) : Bool := match o with | some m => decide (n = m) | none => false
theorem fitsD_nodeP (pl : List (Str × Int)) (s : Str) (ps : List PyData) : fitsD pl (.tuple (.str s :: ps)) = (okPl (lookS pl s) (ps.length : Int) && fitsA pl ps) := by
  rw [fitsD_node]
  cases lookS pl s <;> rfl
theorem sg_fitP {sg : List Sg} (o : SgOk sg) (s : Str) (n : Int) : (sg.any fun e => decide (e.1 = s) && decide (e.2 = n)) = okPl (lookS sg.reverse s) n := by
  rw [sg_fit o]
  cases lookS sg.reverse s <;> rfl
end NB
namespace NB
open PySem PySem.Spec PyProof.Rows L2 LamX
/-- bounds of a thing -/
structure GB (d : PyData) (c e : Nat) : Prop where
  short : shortD d = true
  lay : d.canLay0 = true
  cnt : cntD d ≤ c
  dp : d.depth ≤ e
/-- v is a thing of such bounds -/
def Gd (K : PySem.W.Frag) (O : List Addr) (c e : Nat) (H : Hp) (v : V) : Prop := ∃ d, Jp K (hid O H) v d ∧ GB d c e
def GdAll (K : PySem.W.Frag) (O : List Addr) (c e : Nat) (H : Hp) (vs : List V) : Prop := ∀ v ∈ vs, Gd K O c e H v
section
variable {K : PySem.W.Frag} {O : List Addr} {c e : Nat} {H H' : Hp} {v : V} {vs : List V}
theorem Gd.same (h : Gd K O c e H v) (s : Same H H') : Gd K O c e H' v := by
  obtain ⟨d, h1, h2⟩ := h
  exact ⟨d, h1.sm fun b o q _ => s b o q, h2⟩
theorem Gd.sm (h : Gd K O c e H v) (s : Sm O H H') : Gd K O c e H' v := by
  obtain ⟨d, h1, h2⟩ := h
  exact ⟨d, h1.sm s, h2⟩
theorem GdAll.nil : GdAll K O c e H [] := fun v h => nomatch h
theorem GdAll.same (h : GdAll K O c e H vs) (s : Same H H') : GdAll K O c e H' vs := fun v m => (h v m).same s
theorem GdAll.snoc (h : GdAll K O c e H vs) (g : Gd K O c e H v) : GdAll K O c e H (vs ++ [v]) := fun u m => by
  rcases List.mem_append.mp m with q | q
  · exact h u q
  · rw [List.mem_singleton.mp q]
    exact g
theorem oth_none : othOk K (.type "NoneType") := ⟨kit_ty (by decide +kernel), kit_ty (by decide +kernel), kit_ty (by decide +kernel), kit_ty (by decide +kernel)⟩
theorem oth_list : othOk K (.type "list") := ⟨kit_ty (by decide +kernel), kit_ty (by decide +kernel), kit_ty (by decide +kernel), kit_ty (by decide +kernel)⟩
theorem oth_dict : othOk K (.type "dict") := ⟨kit_ty (by decide +kernel), kit_ty (by decide +kernel), kit_ty (by decide +kernel), kit_ty (by decide +kernel)⟩
theorem GB.none (h1 : 1 ≤ c) : GB .none c e := ⟨rfl, rfl, h1, Nat.zero_le _⟩
theorem Gd.non (h1 : 1 ≤ c) : Gd K O c e H .non := ⟨.none, .oth (.base .non) oth_none, GB.none h1⟩
theorem Gd.str {x : Str} (h1 : 1 ≤ c) (h2 : x.length ≤ 100000) (h3 : PyData.strOk x = true) : Gd K O c e H (.str x) := ⟨.str x, .str x, by rw [shortD, decide_eq_true h2], by rw [PyData.canLay0]; exact h3, by rw [cntD_str]; exact h1, Nat.zero_le _⟩
theorem Gd.int {i : Int} (h1 : 1 ≤ c) : Gd K O c e H (.int i) := ⟨.int i, .int i, rfl, rfl, h1, Nat.zero_le _⟩
theorem Gd.bl {b : Bool} (h1 : 1 ≤ c) : Gd K O c e H (.bl b) := ⟨.bool b, .bl b, rfl, rfl, h1, Nat.zero_le _⟩
theorem Gd.lst {a : Addr} {xs : List V} (h1 : 1 ≤ c) (h : H a = some (.lst xs)) (n : a ∉ O) : Gd K O c e H (.ref a) := ⟨.none, .oth (.base (.lst (hid_at n h))) oth_list, GB.none h1⟩
theorem Gd.dct {a : Addr} {kvs : List (Key × V)} (h1 : 1 ≤ c) (h : H a = some (.dK kvs)) (n : a ∉ O) : Gd K O c e H (.ref a) := ⟨.none, .oth (.base (.dK (hid_at n h))) oth_dict, GB.none h1⟩
/-- a tuple of things -/
def JGAll (K : PySem.W.Frag) (O : List Addr) (H : Hp) (vs : List V) (n c e : Nat) : Prop := ∃ ds, JpAll K (hid O H) vs ds ∧ shortsD ds = true ∧ PyData.canLayAll0 ds = true ∧ cntsD ds ≤ c ∧ PyData.depthAll ds ≤ e ∧ ds.length ≤ n
theorem JGAll.nil {n c e : Nat} : JGAll K O H [] n c e := ⟨[], .nil, rfl, rfl, Nat.zero_le _, Nat.zero_le _, Nat.zero_le _⟩
theorem JGAll.cons {n c e c1 : Nat} (g : Gd K O c1 e H v) (h : JGAll K O H vs n c e) : JGAll K O H (v :: vs) (n + 1) (c1 + c) e := by
  obtain ⟨d, g1, g2⟩ := g
  obtain ⟨ds, h1, h2, h3, h4, h5, h6⟩ := h
  refine ⟨d :: ds, .cons g1 h1, by rw [shortsD, g2.short, h2]; rfl, by rw [PyData.canLayAll0, g2.lay, h3]; rfl, ?_, ?_, by rw [List.length_cons]; omega⟩
  · have := g2.cnt
    rw [cntsD]
    omega
  · have := g2.dp
    rw [PyData.depthAll]
    omega
theorem JGAll.app {n m c1 c2 : Nat} {ws : List V} (g : JGAll K O H vs n c1 e) (h : JGAll K O H ws m c2 e) : JGAll K O H (vs ++ ws) (n + m) (c1 + c2) e := by
  obtain ⟨ds, g1, g2, g3, g4, g5, g6⟩ := g
  obtain ⟨es, h1, h2, h3, h4, h5, h6⟩ := h
  have hdA : ∀ ds es : List PyData, PyData.depthAll (ds ++ es) = max (PyData.depthAll ds) (PyData.depthAll es) := by
    intro ds es
    induction ds with
    | nil => rw [List.nil_append, PyData.depthAll]; omega
    | cons d ds ih => rw [List.cons_append, PyData.depthAll, PyData.depthAll, ih]; omega
  refine ⟨ds ++ es, g1.app h1, ?_, ?_, by rw [cntsD_app]; omega, by rw [hdA]; omega, by rw [List.length_append]; omega⟩
  · rw [shortsD_all] at g2 h2 ⊢
    rw [List.all_append, g2, h2]
    rfl
  · clear g1 g2 g4 g5 g6 h1 h2 h4 h5 h6
    induction ds with
    | nil => exact h3
    | cons d ds ih =>
      rw [PyData.canLayAll0, Bool.and_eq_true_iff] at g3
      rw [List.cons_append, PyData.canLayAll0, g3.1, ih g3.2]
      rfl
theorem JGAll.same {n : Nat} (g : JGAll K O H vs n c e) (s : Same H H') : JGAll K O H' vs n c e := by
  obtain ⟨ds, g1, g2⟩ := g
  exact ⟨ds, JpAll.same (Sm.hid (O := O) fun b o q _ => s b o q) ds _ g1, g2⟩
theorem JGAll.sm {n : Nat} (g : JGAll K O H vs n c e) (s : Sm O H H') : JGAll K O H' vs n c e := by
  obtain ⟨ds, g1, g2⟩ := g
  exact ⟨ds, JpAll.same s.hid ds _ g1, g2⟩
theorem JGAll.mono {n m c' e' : Nat} (g : JGAll K O H vs n c e) (h1 : n ≤ m) (h2 : c ≤ c') (h3 : e ≤ e') : JGAll K O H vs m c' e' := by
  obtain ⟨ds, g1, g2, g3, g4, g5, g6⟩ := g
  exact ⟨ds, g1, g2, g3, by omega, by omega, by omega⟩
theorem Gd.mono {c' e' : Nat} (h : Gd K O c e H v) (h1 : c ≤ c') (h2 : e ≤ e') : Gd K O c' e' H v := by
  obtain ⟨d, g, a, b, h3, h4⟩ := h
  exact ⟨d, g, a, b, by omega, by omega⟩
theorem hid_sq {a : Addr} {xs : List V} (h : SqT K H a xs) (n : ∀ b ∈ O, ∃ ys, H b = some (.lst ys)) : SqT K (hid O H) a xs := by
  rcases h with (h | ⟨o, h⟩) | h
  · refine .inl (.inl (hid_at (fun m => ?_) h))
    obtain ⟨ys, z⟩ := n a m
    rw [h] at z
    cases z
  · refine .inl (.inr ⟨o, hid_at (fun m => ?_) h⟩)
    obtain ⟨ys, z⟩ := n a m
    rw [h] at z
    cases z
  · exact .inr h
theorem Gd.tup {a : Addr} {n : Nat} (hs : SqT K H a vs) (g : JGAll K O H vs n c e) (hn : n ≤ 100000) (hO : ∀ b ∈ O, ∃ ys, H b = some (.lst ys)) : Gd K O (1 + c) (e + 1) H (.ref a) := by
  obtain ⟨ds, g1, g2, g3, g4, g5, g6⟩ := g
  refine ⟨.tuple ds, .tup (hid_sq hs hO) g1, ?_, ?_, ?_, ?_⟩
  · rw [shortD, g2, decide_eq_true (by omega)]
    rfl
  · rw [PyData.canLay0]
    exact g3
  · rw [cntD]
    omega
  · rw [PyData.depth]
    omega
end
theorem PoolAt.lsts {H : Hp} {p cs : Addr} {z k : Int} {cells : List Int} (h : PoolAt H p cs z k cells) : ∀ b ∈ [p, cs], ∃ ys, H b = some (.lst ys) := fun b hb => by
  rcases mem2 hb with q | q
  · rw [q]
    exact ⟨_, h.pool⟩
  · rw [q]
    exact ⟨_, h.cel⟩
end NB
namespace NB
open PySem PySem.Spec PyProof.Rows L2 LamX
section
variable {K : PySem.W.Frag} {O : List Addr} {H H' : Hp} {v : V} {vs : List V}
theorem hid_imm (hO : ∀ b ∈ O, ∃ ys, H b = some (.lst ys)) : Imm H (hid O H) := fun b xs => ⟨fun h => hid_at (fun m => by
    obtain ⟨ys, z⟩ := hO b m
    rw [h] at z
    cases z) h, fun o h => hid_at (fun m => by
    obtain ⟨ys, z⟩ := hO b m
    rw [h] at z
    cases z) h⟩
theorem tm_gd {t : Tm} (h : Dp K H v (Tm.data t)) (h1 : shortD (Tm.data t) = true) (h2 : (Tm.data t).canLay0 = true) (hO : ∀ b ∈ O, ∃ ys, H b = some (.lst ys)) : Gd K O (2 * (Tm.pre t).length) (dpt t) H v :=
  ⟨Tm.data t, Dp.jp _ _ (jd_data t) (Dp.imm (hid_imm hO) _ _ (Tm.nl_data t) h), h1, h2, Nat.le_of_eq (cnt_data t), Nat.le_of_eq (depth_tm t)⟩
theorem tms_jg {ps : List Tm} (h : DpAll K H vs (Tm.datas ps)) (h1 : shortsD (Tm.datas ps) = true) (h2 : PyData.canLayAll0 (Tm.datas ps) = true) (hO : ∀ b ∈ O, ∃ ys, H b = some (.lst ys)) : JGAll K O H vs ps.length (2 * (Tm.pres ps).length) (dpts ps) :=
  ⟨Tm.datas ps, DpAll.jp _ _ (jd_datas ps) (DpAll.imm (hid_imm hO) _ _ (Tm.nl_datas ps) h), h1, h2, Nat.le_of_eq (cnts_datas ps), Nat.le_of_eq (depth_tms ps), Nat.le_of_eq (Tm.datas_len ps)⟩
end
/-- a term whose signs are plain texts -/
structure TmPl (t : Tm) : Prop where
  short : shortD (Tm.data t) = true
  lay : (Tm.data t).canLay0 = true
theorem TmPl.sgn {s : Str} {ps : List Tm} (h : TmPl (.mk s ps)) : s.length ≤ 100000 ∧ PyData.strOk s = true := by
  have h1 := h.short
  have h2 := h.lay
  rw [Tm.data, shortD, shortsD, Bool.and_eq_true_iff, Bool.and_eq_true_iff] at h1
  rw [Tm.data, PyData.canLay0, PyData.canLayAll0, PyData.canLay0, Bool.and_eq_true_iff] at h2
  exact ⟨shortD_str h1.2.1, h2.1⟩
theorem TmPl.parts {s : Str} {ps : List Tm} (h : TmPl (.mk s ps)) : shortsD (Tm.datas ps) = true ∧ PyData.canLayAll0 (Tm.datas ps) = true := by
  have h1 := h.short
  have h2 := h.lay
  rw [Tm.data, shortD, shortsD, Bool.and_eq_true_iff, Bool.and_eq_true_iff] at h1
  rw [Tm.data, PyData.canLay0, PyData.canLayAll0, PyData.canLay0, Bool.and_eq_true_iff] at h2
  exact ⟨h1.2.2, h2.2⟩
theorem TmPl.of {s : Str} {ps : List Tm} {p : Tm} (h : TmPl (.mk s ps)) (m : p ∈ ps) : TmPl p := by
  obtain ⟨h1, h2⟩ := h.parts
  have hm : Tm.data p ∈ Tm.datas ps := by
    rw [Tm.datas_map]
    exact List.mem_map.mpr ⟨p, m, rfl⟩
  refine ⟨?_, canLay_mem h2 hm⟩
  rw [shortsD_all, List.all_eq_true] at h1
  exact h1 _ hm
end NB
namespace NB
open PySem PySem.Spec PyProof.Rows L2 LamX
theorem shortsD_sub {ds es : List PyData} (h : shortsD ds = true) (s : ∀ d ∈ es, d ∈ ds) : shortsD es = true := by
  rw [shortsD_all, List.all_eq_true] at h ⊢
  exact fun d hd => h d (s d hd)
theorem canLay_sub {ds : List PyData} (h : PyData.canLayAll0 ds = true) : ∀ {es : List PyData}, (∀ d ∈ es, d ∈ ds) → PyData.canLayAll0 es = true
  | [], _ => rfl
  | e :: es, s => by
    rw [PyData.canLayAll0, canLay_mem h (s e (List.mem_cons_self ..)), canLay_sub h fun d hd => s d (List.mem_cons_of_mem _ hd)]
    rfl
theorem tms_take {K : PySem.W.Frag} {H : Hp} {ys : List V} {ps : List Tm} (j : Nat) (h : DpAll K H ys (Tm.datas ps)) : DpAll K H (ys.take j) (Tm.datas (ps.take j)) := by
  rw [Tm.datas_map, List.map_take, ← Tm.datas_map]
  exact DpAll.take j h
theorem DpAll.drop {K : PySem.W.Frag} {H : Hp} : ∀ {vs : List V} {ds : List PyData} (n : Nat), DpAll K H vs ds → DpAll K H (vs.drop n) (ds.drop n)
  | _, _, 0, h => by rw [List.drop_zero, List.drop_zero]; exact h
  | _, _, n + 1, .nil => by rw [List.drop_nil, List.drop_nil]; exact .nil
  | _, _, n + 1, .cons h t => by rw [List.drop_succ_cons, List.drop_succ_cons]; exact DpAll.drop n t
theorem tms_drop {K : PySem.W.Frag} {H : Hp} {ys : List V} {ps : List Tm} (j : Nat) (h : DpAll K H ys (Tm.datas ps)) : DpAll K H (ys.drop j) (Tm.datas (ps.drop j)) := by
  rw [Tm.datas_map, List.map_drop, ← Tm.datas_map]
  exact DpAll.drop j h
theorem datas_sub {ps qs : List Tm} (h : ∀ t ∈ qs, t ∈ ps) : ∀ d ∈ Tm.datas qs, d ∈ Tm.datas ps := fun d hd => by
  rw [Tm.datas_map] at hd ⊢
  obtain ⟨t, ht, rfl⟩ := List.mem_map.mp hd
  exact List.mem_map.mpr ⟨t, h t ht, rfl⟩
theorem dpts_sub {ps qs : List Tm} (h : ∀ t ∈ qs, t ∈ ps) : dpts qs ≤ dpts ps := dpts_le qs fun t ht => dpts_mem (h t ht)
theorem pres_cut {ps : List Tm} {j : Nat} {p : Tm} (h : ps[j]? = some p) : (Tm.pres ps).length = (Tm.pres (ps.take j)).length + (Tm.pre p).length + (Tm.pres (ps.drop (j + 1))).length := by
  have e : ps = ps.take j ++ p :: ps.drop (j + 1) := by
    rw [← getD_take h, List.take_append_drop]
  have := congrArg (fun l => (Tm.pres l).length) e
  simp only [Tm.pres_app, List.length_append, Tm.pres] at this
  omega
/-- a term one part of which is another thing -/
theorem bent_gd {K : PySem.W.Frag} {O : List Addr} {H : Hp} {r : Addr} {sg : Str} {ps : List Tm} {ys : List V} {v' : V} {j : Nat} {pj : Tm} (hO : ∀ b ∈ O, ∃ ys, H b = some (.lst ys)) (hs : SqT K H r ((V.str sg :: ys.take j) ++ [v'] ++ ys.drop (j + 1))) (hy : DpAll K H ys (Tm.datas ps))
    (pl : TmPl (.mk sg ps)) (hj : ps[j]? = some pj) (g : Gd K O (2 * (Tm.pre pj).length + 20) (dpt pj + 2) H v') (hz : (Tm.pre (.mk sg ps)).length ≤ 1000) : Gd K O (2 * (Tm.pre (.mk sg ps)).length + 20) (dpt (.mk sg ps) + 2) H (.ref r) := by
  have hp1 : (Tm.pre (.mk sg ps)).length = (Tm.pres ps).length + 1 := by rw [Tm.pre, List.length_cons]
  have hp2 := pres_cut hj
  have hp3 := Tm.pres_len ps
  have hp4 := dpts_mem (List.mem_of_getElem? hj)
  obtain ⟨h1, h2⟩ := pl.sgn
  obtain ⟨h3, h4⟩ := pl.parts
  have hdt : dpt (.mk sg ps) = 1 + dpts ps := by rw [dpt]
  have s1 : ∀ t ∈ ps.take j, t ∈ ps := fun t => List.mem_of_mem_take
  have s2 : ∀ t ∈ ps.drop (j + 1), t ∈ ps := fun t => List.mem_of_mem_drop
  have q1 := dpts_sub s1
  have q2 := dpts_sub s2
  have a1 := (tms_jg (tms_take j hy) (shortsD_sub h3 (datas_sub s1)) (canLay_sub h4 (datas_sub s1)) hO).mono (Nat.le_refl _) (Nat.le_refl _) (show dpts (ps.take j) ≤ dpts ps + 2 by omega)
  have a2 := (tms_jg (tms_drop (j + 1) hy) (shortsD_sub h3 (datas_sub s2)) (canLay_sub h4 (datas_sub s2)) hO).mono (Nat.le_refl _) (Nat.le_refl _) (show dpts (ps.drop (j + 1)) ≤ dpts ps + 2 by omega)
  have a3 := JGAll.cons (Gd.str (K := K) (O := O) (H := H) (c := 1) (e := dpts ps + 2) (Nat.le_refl _) h1 h2) a1
  have a4 := JGAll.cons (g.mono (Nat.le_refl _) (show dpt pj + 2 ≤ dpts ps + 2 by omega)) (JGAll.nil (K := K) (O := O) (H := H) (n := 0) (c := 0) (e := dpts ps + 2))
  have a5 := (a3.app a4).app a2
  have l1 : (ps.take j).length ≤ ps.length := by rw [List.length_take]; omega
  have l2 : (ps.drop (j + 1)).length ≤ ps.length := by rw [List.length_drop]; omega
  exact (Gd.tup hs a5 (by omega) hO).mono (by omega) (by omega)
end NB

namespace NB
open PySem PySem.Spec PyProof.Rows L2 LamX
variable {K : PySem.W.Frag}
theorem sIx_nn (n d j : Nat) : HT.sIx n d (some (j : Int)) = min j n := by
  show (if (j : Int) < 0 then ((j : Int) + (n : Int)).toNat else min (j : Int).toNat n) = _
  rw [if_neg (by omega), Int.toNat_natCast]
theorem cutV_whole {xs : List V} {lo hi : Option Int} (h : HT.sIx xs.length 0 lo = 0 ∧ HT.sIx xs.length xs.length hi = xs.length) : cutV xs lo hi = xs := by
  unfold cutV
  rw [h.1, h.2, List.drop_zero, Nat.sub_zero, List.take_length]
theorem cutV_drop (xs : List V) (j : Nat) : cutV xs (some (j : Int)) none = xs.drop j := by
  unfold cutV
  rw [sIx_nn, HT.sIx_none]
  by_cases h : j ≤ xs.length
  · rw [Nat.min_eq_left h, List.take_of_length_le (by rw [List.length_drop]; omega)]
  · rw [Nat.min_eq_right (by omega), List.drop_eq_nil_of_le (Nat.le_refl _), List.drop_eq_nil_of_le (by omega), List.take_nil]
/-- a slice of a tuple, as it may be used -/
theorem slA_any {H : Hp} {a : Addr} {xs : List V} {lo hi : Option Int} {Q : VK} (hx : SqT K H a xs) (q : ∀ H' r, Same H H' → SqT K H' r (cutV xs lo hi) → Q (.ref r) H') : rSlA K (.ref a) lo hi H Q :=
  ⟨a, xs, rfl, hx, fun h => q H a (Same.refl H) (by rw [cutV_whole h]; exact hx), fun _ p np => q _ p (same_new np) (.inl (.inl upd_same))⟩
theorem catA_any {H : Hp} {a b : Addr} {xs ys : List V} {Q : VK} (hx : SqT K H a xs) (hy : SqT K H b ys) (hz : xs.length + ys.length ≤ sizeLine) (q : ∀ H' r, Same H H' → SqT K H' r (xs ++ ys) → Q (.ref r) H') : rCatA K (.ref a) (.ref b) H Q :=
  ⟨a, b, xs, ys, rfl, rfl, hx, hy, hz, fun h => q H b (Same.refl H) (by rw [h]; exact hy), fun _ h => q H a (Same.refl H) (by rw [h, List.append_nil]; exact hx), fun _ _ p np => q _ p (same_new np) (.inl (.inl upd_same))⟩
end NB
namespace NB
open PySem PySem.Spec PyProof.Rows L2 LamX
variable {K : PySem.W.Frag} {O : List Addr} {H1 : Hp} {σ : L2.St}
/-- an expression that makes a thing which can be judged, and changes nothing -/
def GE (K : PySem.W.Frag) (O : List Addr) (H1 : Hp) (σ : L2.St) (c e : Nat) (t : TE) : Prop := ∀ (H : Hp) (Q : VK), Same H1 H → (∀ H' v, Same H H' → Gd K O c e H' v → Q v H') → t σ H Q
def GA (K : PySem.W.Frag) (O : List Addr) (H1 : Hp) (σ : L2.St) (c e n : Nat) (ts : TA) : Prop := ∀ (H : Hp) (Q : List V → Hp → Prop), Same H1 H → (∀ H' vs, Same H H' → GdAll K O c e H' vs → vs.length = n → Q vs H') → ts σ H Q
def JE (K : PySem.W.Frag) (O : List Addr) (H1 : Hp) (σ : L2.St) (n c e : Nat) (ts : TA) : Prop := ∀ (H : Hp) (Q : List V → Hp → Prop), Same H1 H → (∀ H' vs, Same H H' → JGAll K O H' vs n c e → vs.length = n → Q vs H') → ts σ H Q
variable {c e n c1 : Nat} {t : TE} {ts : TA}
theorem GA.nil : GA K O H1 σ c e 0 tNil := fun H Q _ q => q H [] (Same.refl H) GdAll.nil rfl
theorem GA.cons (h : GE K O H1 σ c e t) (g : GA K O H1 σ c e n ts) : GA K O H1 σ c e (n + 1) (tCons t ts) := fun H Q s q =>
  h H _ s fun H2 x s2 gx => g H2 _ (s.trans s2) fun H3 xs s3 gxs l3 => q H3 _ (s2.trans s3) (fun u m => by
    rcases List.mem_cons.mp m with z | z
    · rw [z]
      exact gx.same s3
    · exact gxs u z) (by rw [List.length_cons, l3])
theorem JE.nil : JE K O H1 σ 0 0 e tNil := fun H Q _ q => q H [] (Same.refl H) JGAll.nil rfl
theorem JE.cons (h : GE K O H1 σ c1 e t) (g : JE K O H1 σ n c e ts) : JE K O H1 σ (n + 1) (c1 + c) e (tCons t ts) := fun H Q s q =>
  h H _ s fun H2 x s2 gx => g H2 _ (s.trans s2) fun H3 xs s3 gxs l3 => q H3 _ (s2.trans s3) (JGAll.cons (gx.same s3) gxs) (by rw [List.length_cons, l3])
theorem GE.con {v : V} (h : ∀ H, Gd K O c e H v) : GE K O H1 σ c e (tC v) := fun H Q _ q => q H v (Same.refl H) (h H)
theorem GE.mono {c' e' : Nat} (h : GE K O H1 σ c e t) (h1 : c ≤ c') (h2 : e ≤ e') : GE K O H1 σ c' e' t := fun H Q s q => h H Q s fun H' v s' g => q H' v s' (g.mono h1 h2)
theorem GE.tup (hO : ∀ b ∈ O, ∃ ys, H1 b = some (.lst ys)) (h : JE K O H1 σ n c e ts) (hn : n ≤ 100000) : GE K O H1 σ (1 + c) (e + 1) (tTup ts) := fun H Q s q =>
  h H _ s fun H2 vs s2 g l2 => ⟨by rw [l2]; have : 100000 < sizeLine := by decide
                                   omega, fun p np => q _ _ (s2.trans (same_new np)) (Gd.tup (.inl (.inl upd_same)) (g.same (same_new np)) hn fun b hb => by
    obtain ⟨ys, hy⟩ := hO b hb
    exact ⟨ys, same_new np _ _ (s2 _ _ (s _ _ hy))⟩)⟩
theorem GE.lst (hO : ∀ b ∈ O, ∃ ys, H1 b = some (.lst ys)) (h : JE K O H1 σ n c e ts) (hn : n ≤ 100000) {c' : Nat} (h1 : 1 ≤ c') : GE K O H1 σ c' e (tLst ts) := fun H Q s q =>
  h H _ s fun H2 vs s2 g l2 => ⟨by rw [l2]; have : 100000 < sizeLine := by decide
                                   omega, fun p np => q _ _ (s2.trans (same_new np)) (Gd.lst h1 upd_same fun m => by
    obtain ⟨ys, hy⟩ := hO p m
    have z := s2 _ _ (s _ _ hy)
    rw [np] at z
    cases z)⟩
theorem GE.dct (hO : ∀ b ∈ O, ∃ ys, H1 b = some (.lst ys)) (h1 : 1 ≤ c) : GE K O H1 σ c e tDNewK := fun H Q s q p np => q _ _ (same_new np) (Gd.dct h1 upd_same fun m => by
    obtain ⟨ys, hy⟩ := hO p m
    have z := s _ _ hy
    rw [np] at z
    cases z)
theorem GA.lst (h : GA K O H1 σ c e n ts) (hn : n ≤ 100000) {H : Hp} {Q : VK} (s : Same H1 H) (q : ∀ H' vs p, Same H H' → GdAll K O c e H' vs → vs.length = n → H' p = some (.lst vs) → Q (.ref p) H') : tLst ts σ H Q :=
  h H _ s fun H2 vs s2 g l2 => ⟨by rw [l2]; have : 100000 < sizeLine := by decide
                                   omega, fun p np => q _ _ _ (s2.trans (same_new np)) (g.same (same_new np)) l2 upd_same⟩
theorem GE.strA (h1 : 1 ≤ c) {x : Str} (h2 : x.length ≤ 100000) (h3 : PyData.strOk x = true) : GE K O H1 σ c e (tC (.str x)) := GE.con fun _ => Gd.str h1 h2 h3
/-- a tuple of one text in brackets -/
theorem GE.one (hO : ∀ b ∈ O, ∃ ys, H1 b = some (.lst ys)) {x : Str} (h2 : x.length ≤ 100000) (h3 : PyData.strOk x = true) : GE K O H1 σ 2 (e + 1) (tTup (tCons (tC (.str x)) tNil)) := GE.tup hO (JE.cons (GE.strA (Nat.le_refl 1) h2 h3) JE.nil) (by decide)
theorem JGAll.tail {H : Hp} {vs : List V} {v : V} (h : JGAll K O H (v :: vs) n c e) : JGAll K O H vs n c e := by
  obtain ⟨ds, h1, h2, h3, h4, h5, h6⟩ := h
  cases h1 with
  | cons a b =>
    rw [shortsD, Bool.and_eq_true] at h2
    rw [PyData.canLayAll0, Bool.and_eq_true] at h3
    rw [cntsD] at h4
    rw [PyData.depthAll] at h5
    rw [List.length_cons] at h6
    exact ⟨_, b, h2.2, h3.2, by omega, by omega, by omega⟩
theorem JGAll.init {H : Hp} : ∀ {vs : List V} {n c e : Nat}, JGAll K O H vs n c e → JGAll K O H vs.dropLast n c e
  | [], _, _, _, h => h
  | [_], _, _, _, _ => JGAll.nil
  | v :: w :: vs, n, c, e, h => by
    obtain ⟨ds, h1, h2, h3, h4, h5, h6⟩ := h
    cases h1 with
    | cons a b =>
      rename_i d ds
      rw [shortsD, Bool.and_eq_true] at h2
      rw [PyData.canLayAll0, Bool.and_eq_true] at h3
      rw [cntsD] at h4
      rw [PyData.depthAll] at h5
      rw [List.length_cons] at h6
      obtain ⟨es, i1, i2, i3, i4, i5, i6⟩ := JGAll.init (vs := w :: vs) (n := ds.length) (c := cntsD ds) (e := PyData.depthAll ds) ⟨ds, b, h2.2, h3.2, Nat.le_refl _, Nat.le_refl _, Nat.le_refl _⟩
      rw [List.dropLast_cons_of_ne_nil (List.cons_ne_nil _ _)]
      refine ⟨d :: es, .cons a i1, ?_, ?_, ?_, ?_, ?_⟩
      · rw [shortsD, h2.1, i2]; rfl
      · rw [PyData.canLayAll0, h3.1, i3]; rfl
      · rw [cntsD]; omega
      · rw [PyData.depthAll]; omega
      · rw [List.length_cons]; omega
theorem seq_asg {te : TE} {g : TG} {u : TS} {D : Ends} {σ : L2.St} {H : Hp} (h : te σ H fun x H1 => g x σ H1 (u D)) : tSeq (tAsg te g) u D σ H := h
end NB

/-! the two keys that order terms order them alike -/
namespace NB
open PySem PySem.Spec PyProof.Rows L2 LamX PySem.W
def wd (t : Tm) : List (Int ⊕ List Nat) := (Tm.pre t).flatMap fun x => [.inl 1, .inr x.sg.cps.toList]
def wds (ps : List Tm) : List (Int ⊕ List Nat) := (Tm.pres ps).flatMap fun x => [.inl 1, .inr x.sg.cps.toList]
theorem wd_mk (s : Str) (ps : List Tm) : wd (.mk s ps) = .inl 1 :: .inr s.cps.toList :: wds ps := by
  unfold wd wds
  rw [Tm.pre, List.flatMap_cons]
  rfl
theorem wds_cons (p : Tm) (ps : List Tm) : wds (p :: ps) = wd p ++ wds ps := by
  unfold wd wds
  rw [Tm.pres, List.flatMap_append]
theorem toks_wd : ∀ ts : List Tm, keyToksAll (ts.map fun x => .str x.sg) = (ts.flatMap fun x => [.inl 1, .inr x.sg.cps.toList]) ++ [.inl 0]
  | [] => by rw [List.map_nil, keyToksAll]; rfl
  | t :: ts => by
    rw [List.map_cons, keyToksAll, toks_wd ts, List.flatMap_cons, keyToks]
    rfl
def dk (t : Tm) : List (Int ⊕ List Nat) := keyToks (Tm.data t)
def dks (ps : List Tm) : List (Int ⊕ List Nat) := keyToksAll (Tm.datas ps)
theorem dk_mk (s : Str) (ps : List Tm) : dk (.mk s ps) = .inl 1 :: .inr s.cps.toList :: dks ps := by
  unfold dk dks
  rw [Tm.data, keyToks, keyToksAll, keyToks]
  rfl
theorem dks_cons (p : Tm) (ps : List Tm) : dks (p :: ps) = .inl 1 :: (dk p ++ dks ps) := by
  unfold dk dks
  rw [Tm.datas, keyToksAll]
abbrev lx := PyProof.Rows.lexLt itemOrd
theorem lx_flip {p q : Int ⊕ List Nat} (h : p ≠ q) : itemOrd.blt q p = !itemOrd.blt p q := by
  cases e1 : itemOrd.blt p q with
  | true =>
    cases e2 : itemOrd.blt q p with
    | true =>
      have := itemOrd.trans _ _ _ e1 e2
      rw [itemOrd.irrefl] at this
      cases this
    | false => rfl
  | false =>
    cases e2 : itemOrd.blt q p with
    | true => rfl
    | false => exact absurd (itemOrd.total _ _ e1 e2) h
/-- a difference that decides both ways of comparing -/
def Cmp (a b c d : List (Int ⊕ List Nat)) : Prop := ∃ v : Bool, ∀ l m l' m', lx (a ++ l) (b ++ m) = v ∧ lx (b ++ m) (a ++ l) = (!v) ∧ lx (c ++ l') (d ++ m') = v ∧ lx (d ++ m') (c ++ l') = (!v)
theorem Cmp.pre {a b c d : List (Int ⊕ List Nat)} (p q : List (Int ⊕ List Nat)) (h : Cmp a b c d) : Cmp (p ++ a) (p ++ b) (q ++ c) (q ++ d) := by
  obtain ⟨v, h⟩ := h
  refine ⟨v, fun l m l' m' => ?_⟩
  rw [List.append_assoc, List.append_assoc, List.append_assoc, List.append_assoc]
  unfold lx
  rw [lex_pre, lex_pre, lex_pre, lex_pre]
  exact h l m l' m'
theorem Cmp.more {a b c d : List (Int ⊕ List Nat)} (a' b' c' d' : List (Int ⊕ List Nat)) (h : Cmp a b c d) : Cmp (a ++ a') (b ++ b') (c ++ c') (d ++ d') := by
  obtain ⟨v, h⟩ := h
  refine ⟨v, fun l m l' m' => ?_⟩
  rw [List.append_assoc, List.append_assoc, List.append_assoc, List.append_assoc]
  exact h _ _ _ _
theorem Cmp.atom {p q : Int ⊕ List Nat} (h : p ≠ q) (a b c d : List (Int ⊕ List Nat)) : Cmp (p :: a) (q :: b) (p :: c) (q :: d) := by
  refine ⟨itemOrd.blt p q, fun l m l' m' => ?_⟩
  rw [List.cons_append, List.cons_append, List.cons_append, List.cons_append]
  unfold lx
  rw [lex_diff h, lex_diff (Ne.symm h), lex_diff h, lex_diff (Ne.symm h)]
  exact ⟨rfl, lx_flip h, rfl, lx_flip h⟩
mutual
theorem cmp_tm (pl : List (Str × Int)) : ∀ t u : Tm, fitsD pl (Tm.data t) = true → fitsD pl (Tm.data u) = true → t = u ∨ Cmp (wd t) (wd u) (dk t) (dk u)
  | .mk s ps, .mk r qs, h1, h2 => by
    rw [wd_mk, wd_mk, dk_mk, dk_mk]
    rw [Tm.data, fitsD_nodeP, Bool.and_eq_true] at h1 h2
    by_cases e : s = r
    · subst e
      have hl : ps.length = qs.length := by
        obtain ⟨a, _⟩ := h1
        obtain ⟨b, _⟩ := h2
        unfold okPl at a b
        cases z : lookS pl s with
        | none => rw [z] at a; cases a
        | some m =>
          rw [z] at a b
          have a' := of_decide_eq_true a
          have b' := of_decide_eq_true b
          rw [Tm.datas_len] at a' b'
          omega
      rcases cmp_tms pl ps qs h1.2 h2.2 hl with z | z
      · exact .inl (by rw [z])
      · exact .inr (z.pre [.inl 1, .inr s.cps.toList] [.inl 1, .inr s.cps.toList])
    · have hne : (Sum.inr s.cps.toList : Int ⊕ List Nat) ≠ .inr r.cps.toList := fun z => e (str_of_cps (Sum.inr.inj z))
      exact .inr ((Cmp.atom hne (wds ps) (wds qs) (dks ps) (dks qs)).pre [.inl 1] [.inl 1])
theorem cmp_tms (pl : List (Str × Int)) : ∀ ps qs : List Tm, fitsA pl (Tm.datas ps) = true → fitsA pl (Tm.datas qs) = true → ps.length = qs.length → ps = qs ∨ Cmp (wds ps) (wds qs) (dks ps) (dks qs)
  | [], [], _, _, _ => .inl rfl
  | [], _ :: _, _, _, h => nomatch h
  | _ :: _, [], _, _, h => nomatch h
  | p :: ps, q :: qs, h1, h2, hl => by
    rw [wds_cons, wds_cons, dks_cons, dks_cons]
    rw [Tm.datas, fitsA, Bool.and_eq_true] at h1 h2
    rcases cmp_tm pl p q h1.1 h2.1 with z | z
    · subst z
      rcases cmp_tms pl ps qs h1.2 h2.2 (Nat.succ.inj hl) with y | y
      · exact .inl (by rw [y])
      · exact .inr (y.pre (wd p) (.inl 1 :: dk p))
    · exact .inr ((z.more _ _ _ _).pre [] [.inl 1])
end
def kt (d : PyData) : List (Int ⊕ List Nat) := keyToks d
theorem kt_key (t : Tm) : keyToks (keyD t) = .inl 1 :: .inl ((Tm.pre t).length : Int) :: .inl 1 :: (wd t ++ [.inl 0] ++ [.inl 0]) := by
  unfold keyD
  rw [keyToks, keyToksAll, keyToksAll, keyToksAll, keyToks, keyToks, toks_wd]
  rfl
theorem kt_skey (t : Tm) : keyToks (skeyD t) = .inl 1 :: .inl ((Tm.pre t).length : Int) :: .inl 1 :: (dk t ++ [.inl 0]) := by
  unfold skeyD
  rw [keyToks, keyToksAll, keyToksAll, keyToksAll, keyToks]
  rfl
theorem key_both {pl : List (Str × Int)} {t u : Tm} (h1 : fitsD pl (Tm.data t) = true) (h2 : fitsD pl (Tm.data u) = true) : t = u ∨ ∃ v : Bool, lx (keyToks (keyD t)) (keyToks (keyD u)) = v ∧ lx (keyToks (keyD u)) (keyToks (keyD t)) = (!v) ∧ lx (keyToks (skeyD t)) (keyToks (skeyD u)) = v ∧ lx (keyToks (skeyD u)) (keyToks (skeyD t)) = (!v) := by
  rw [kt_key, kt_key, kt_skey, kt_skey]
  by_cases e : (Tm.pre t).length = (Tm.pre u).length
  · rcases cmp_tm pl t u h1 h2 with z | ⟨v, z⟩
    · exact .inl z
    · refine .inr ⟨v, ?_⟩
      rw [e]
      unfold lx
      rw [lex_self, lex_self, lex_self, lex_self, lex_self, lex_self, lex_self, lex_self, lex_self, lex_self, lex_self, lex_self, List.append_assoc, List.append_assoc]
      exact z _ _ _ _
  · have hne : (Sum.inl ((Tm.pre t).length : Int) : Int ⊕ List Nat) ≠ .inl ((Tm.pre u).length : Int) := fun z => e (by have := Sum.inl.inj z; omega)
    refine .inr ⟨itemOrd.blt (Sum.inl ((Tm.pre t).length : Int)) (.inl ((Tm.pre u).length : Int)), ?_⟩
    unfold lx
    rw [lex_self, lex_self, lex_self, lex_self, lex_diff hne, lex_diff (Ne.symm hne), lex_diff hne, lex_diff (Ne.symm hne)]
    exact ⟨rfl, lx_flip hne, rfl, lx_flip hne⟩
theorem dataLe_eq {β : Type} (k : β → PyData) (a b : β) : dataLe false k a b = !lx (keyToks (k b)) (keyToks (k a)) := rfl
theorem zip_map2 {α β γ : Type} (f : β → γ) : ∀ (xs : List α) (ys : List β), xs.zip (ys.map f) = (xs.zip ys).map fun p => (p.1, f p.2)
  | [], ys => by rw [List.zip_nil_left, List.zip_nil_left]; rfl
  | x :: xs, [] => by rw [List.map_nil, List.zip_nil_right, List.zip_nil_right]; rfl
  | x :: xs, y :: ys => by rw [List.map_cons, List.zip_cons_cons, List.zip_cons_cons, List.map_cons, zip_map2 f xs ys]
theorem dp_zip {K : PySem.W.Frag} {H : Hp} : ∀ {us : List V} {B : List Tm}, DpAll K H us (Tm.datas B) → ∀ p ∈ us.zip B, Dp K H p.1 (Tm.data p.2)
  | [], _, _, p, m => by rw [List.zip_nil_left] at m; cases m
  | _ :: _, [], h, p, m => by rw [List.zip_nil_right] at m; cases m
  | u :: us, t :: B, h, p, m => by
    rw [Tm.datas] at h
    cases h with
    | cons h1 h2 =>
      rw [List.zip_cons_cons] at m
      rcases List.mem_cons.mp m with z | z
      · rw [z]
        exact h1
      · exact dp_zip h2 p z
theorem dp_maps {K : PySem.W.Frag} {H : Hp} : ∀ {zs : List (V × Tm)}, (∀ p ∈ zs, Dp K H p.1 (Tm.data p.2)) → DpAll K H (zs.map (·.1)) (Tm.datas (zs.map (·.2)))
  | [], _ => .nil
  | p :: zs, h => by
    rw [List.map_cons, List.map_cons, Tm.datas]
    exact .cons (h p (List.mem_cons_self ..)) (dp_maps fun q m => h q (List.mem_cons_of_mem _ m))
theorem srt_tm {K : PySem.W.Frag} {H : Hp} (key : Tm → PyData) {us : List V} {B : List Tm} (h : DpAll K H us (Tm.datas B)) : ∃ S : List Tm, S.Perm B ∧ S.Pairwise (fun a b => dataLe false key a b = true) ∧ DpAll K H (srt us (B.map key)) (Tm.datas S) := by
  have hl : us.length = B.length := by rw [h.len, Tm.datas_len]
  have e := sort_maps (fun p : V × Tm => (p.1, key p.2)) (r := dataLe false (fun p : V × Tm => key p.2)) (s := dataLe false (fun p : V × PyData => p.2)) (l := us.zip B) (fun _ _ _ _ => rfl)
  have pm := List.mergeSort_perm (us.zip B) (dataLe false (fun p : V × Tm => key p.2))
  have e1 : srt us (B.map key) = ((us.zip B).mergeSort (dataLe false (fun p : V × Tm => key p.2))).map (·.1) := by
    unfold srt
    rw [zip_map2, ← e, List.map_map]
    rfl
  refine ⟨((us.zip B).mergeSort (dataLe false (fun p : V × Tm => key p.2))).map (·.2), ?_, ?_, ?_⟩
  · have := pm.map (·.2)
    rw [List.map_snd_zip (Nat.le_of_eq hl.symm)] at this
    exact this
  · rw [List.pairwise_map]
    exact sort_pairwise (sortLe_total (listOrd itemOrd) false _) (us.zip B)
  · rw [e1]
    exact dp_maps fun p m => dp_zip h p (pm.mem_iff.mp m)
theorem srt_two {K : PySem.W.Frag} {H H' : Hp} {pl : List (Str × Int)} {us vs : List V} {B F : List Tm} (h : DpAll K H us (Tm.datas B)) (g : DpAll K H' vs (Tm.datas F)) (nB : B.Nodup) (nF : F.Nodup) (e : ∀ x, x ∈ F ↔ x ∈ B) (ft : ∀ x ∈ B, fitsD pl (Tm.data x) = true) :
    ∃ S : List Tm, S.Perm B ∧ DpAll K H (srt us (B.map keyD)) (Tm.datas S) ∧ DpAll K H' (srt vs (F.map skeyD)) (Tm.datas S) := by
  obtain ⟨S, p1, q1, r1⟩ := srt_tm keyD h
  obtain ⟨R, p2, q2, r2⟩ := srt_tm skeyD g
  have pf : F.Perm B := (List.perm_ext_iff_of_nodup nF nB).mpr e
  have pSR : S.Perm R := p1.trans (pf.symm.trans p2.symm)
  have q2' : R.Pairwise (fun a b => dataLe false keyD a b = true) := by
    refine q2.imp_of_mem fun {a b} ha hb hab => ?_
    have ha' := ft a ((e a).mp (p2.mem_iff.mp ha))
    have hb' := ft b ((e b).mp (p2.mem_iff.mp hb))
    rw [dataLe_eq] at hab ⊢
    rcases key_both ha' hb' with z | ⟨v, z1, z2, z3, z4⟩
    · rw [z]
      unfold lx
      rw [lex_irrefl]
      rfl
    · rw [z2]
      rw [z4] at hab
      exact hab
  have hSR : S = R := by
    refine List.Perm.eq_of_pairwise (le := fun a b => dataLe false keyD a b = true) ?_ q1 q2' pSR
    intro a b ha hb h1 h2
    have ha' := ft a (p1.mem_iff.mp ha)
    have hb' := ft b ((e b).mp (p2.mem_iff.mp hb))
    rw [dataLe_eq] at h1 h2
    rcases key_both ha' hb' with z | ⟨v, z1, z2, z3, z4⟩
    · exact z
    · rw [z2] at h1
      rw [z1] at h2
      cases v <;> simp at h1 h2
  subst hSR
  exact ⟨S, p1, r1, r2⟩
end NB
namespace NB
open PySem PySem.Spec PyProof.Rows L2 LamX
mutual
theorem pre_fit (pl : List (Str × Int)) : ∀ t x : Tm, fitsD pl (Tm.data t) = true → x ∈ Tm.pre t → fitsD pl (Tm.data x) = true
  | .mk s ps, x, h, m => by
    rw [Tm.pre] at m
    rcases List.mem_cons.mp m with z | z
    · rw [z]
      exact h
    · rw [Tm.data, fitsD_nodeP, Bool.and_eq_true] at h
      exact pres_fit pl ps x h.2 z
theorem pres_fit (pl : List (Str × Int)) : ∀ (ts : List Tm) (x : Tm), fitsA pl (Tm.datas ts) = true → x ∈ Tm.pres ts → fitsD pl (Tm.data x) = true
  | [], x, h, m => by rw [Tm.pres] at m; cases m
  | t :: ts, x, h, m => by
    rw [Tm.datas, fitsA, Bool.and_eq_true] at h
    rw [Tm.pres] at m
    rcases List.mem_append.mp m with z | z
    · exact pre_fit pl t x h.1 z
    · exact pres_fit pl ts x h.2 z
end
mutual
theorem pre_dpT : ∀ t x : Tm, x ∈ Tm.pre t → dpt x ≤ dpt t ∧ ((Tm.data t).canLay0 = true → (Tm.data x).canLay0 = true)
  | .mk s ps, x, m => by
    rw [Tm.pre] at m
    rcases List.mem_cons.mp m with z | z
    · rw [z]
      exact ⟨Nat.le_refl _, id⟩
    · have := pres_dpT ps x z
      rw [dpt, Tm.data, PyData.canLay0, PyData.canLayAll0, Bool.and_eq_true]
      exact ⟨by omega, fun h => this.2 h.2⟩
theorem pres_dpT : ∀ (ts : List Tm) (x : Tm), x ∈ Tm.pres ts → dpt x ≤ dpts ts ∧ (PyData.canLayAll0 (Tm.datas ts) = true → (Tm.data x).canLay0 = true)
  | [], x, m => by rw [Tm.pres] at m; cases m
  | t :: ts, x, m => by
    rw [Tm.pres] at m
    rw [dpts, Tm.datas, PyData.canLayAll0, Bool.and_eq_true]
    rcases List.mem_append.mp m with z | z
    · have := pre_dpT t x z
      exact ⟨by omega, fun h => this.2 h.1⟩
    · have := pres_dpT ts x z
      exact ⟨by omega, fun h => this.2 h.2⟩
end
theorem shaped_tmsT {F : List Tm} (h1 : ∀ t ∈ F, (Tm.data t).canLay0 = true) (h2 : ∀ t ∈ F, dpt t ≤ 40) : SeqAt.shaped (.tuple (Tm.datas F)) = true ∧ (PyData.tuple (Tm.datas F)).canLay0 = true := by
  have e : (PyData.tuple (Tm.datas F)).canLay0 = true := by rw [PyData.canLay0, canLay_datas F h1]
  refine ⟨?_, e⟩
  unfold SeqAt.shaped
  have := dpts_le F h2
  rw [e, PyData.depth, depth_tms, decide_eq_true (by omega)]
  rfl
end NB

/-! sorted(xs, key=f), f whatever may be called: a lambda's object, of a list or of a range -/
namespace NB
open PySem PySem.Spec PyProof.Rows L2 LamX NdefX
section
variable {X : Cx}
/-- a call of f with u gives the data d and only makes objects -/
abbrev KeyCall (X : Cx) (A2 : Around) (f : Addr) (u : Value) (d : PyData) (H1 : Hp) (s1 : Shared) : Prop :=
  codeAny (model X.prog X.w) A2 (.call (.ref f) ⟨[u], []⟩) (CR L2.CX0 X.stack X.prog X.w H1 s1 (fun v H2 => Same H1 H2 ∧ Dp X.K H2 v d) L2.E0) s1
theorem sortL_list {pins : List (Addr × Obj)} {s : Shared} {σ : L2.St} {H : Hp} {Q : VK} {A2 : Around} {p f : Addr} {its : List Value} {xs : List V} {ds : List PyData} {fo : Obj} {h1 : Heap} {tk1 : Nat} {E' : Value → Shared → Prop} (I : Inv X pins σ H s)
    (ext : ∀ b o, s.heap.get? b = some o → h1.get? b = some o) (ha1 : s.heap.objs.size ≤ p) (hcp : h1.get? p = some (PyProof.Rows.seqObj "list" its.toArray 0)) (rv : Vals xs its) (hz : xs.length ≤ sizeLine) (hlen : xs.length = ds.length) (hal : PySem.W.AllAlike ds) (hk : PySem.W.Sortable ds)
    (hdp : ∀ d ∈ ds, d.depth ≤ 64) (hun : A2.units + 66 < cLine) (hfo : s.heap.get? f = some fo) (hfn : H f = none) (hff : f ∉ frs X.stack)
    (hturn : ∀ (i : Nat) x d u, xs[i]? = some x → ds[i]? = some d → RelV x u → ∀ H1 s1, Same H H1 → Inv X pins σ H1 s1 → s1.heap.get? f = some fo → KeyCall X A2 f u d H1 s1)
    (q : ∀ H1, Same H H1 → H1 p = none → Q (.ref p) (upd H1 p (.lst (srt xs ds)))) :
    wpAny (model X.prog X.w) A2 (Builtin.«list.sort» ⟨[.ref p], [(Str.ofString "key", .ref f)]⟩) (fun fl s' => fl = .done (.ret .none) ∧ EP X pins σ Q (.ref p) s') E' { s with heap := h1, toks := tk1 } := by
  have hle : its.length = xs.length := rv.length.symm
  have hz2 : its.length ≤ sizeLine := by omega
  have I1 : Inv X pins σ H { s with heap := h1, toks := tk1 } := I.kept (t' := tk1) ext
  have hfo1 : h1.get? f = some fo := ext _ _ hfo
  show wpAny _ _ (PyProof.Rows.ksk_tree p (.ref f) false) _ _ _
  -- the list is emptied, the keys' store is made
  obtain ⟨e1, ho1⟩ : ∃ e1, (h1.update p (Obj.mapSeq fun _ => (#[] : Array Value))).get? p = some (PyProof.Rows.seqObj "list" #[] e1) := ⟨_, PyProof.Rows.get?_update_seq hcp fun _ => #[]⟩
  unfold PyProof.Rows.ksk_tree
  refine wpAny_bind (PyProof.Rows.listItems_at hcp rfl ?_)
  refine wpAny_bind (PyProof.Rows.listUpdate_at hcp rfl ?_ (by rw [List.size_toArray, hle]; exact hz) (Nat.zero_le _))
  refine wpAny_bind (PyProof.Rows.seqEpoch_at ho1 rfl ?_)
  refine wpAny_bind (wpAny_newTuple ?_ (by show its.length ≤ _; rw [hle]; exact hz))
  refine wpAny_bind (wpAny_newList ?_ (Nat.zero_le _))
  refine wpAny_holding ?_
  have fresh : ∀ {H0 : Hp} {s0 : Shared} (J : Inv X pins σ H0 s0) {t : Addr}, s0.heap.objs.size ≤ t → H0 t = none ∧ X.s_0.heap.objs.size ≤ t ∧ t ≠ X.env.locals ∧ t ∉ frs X.stack ∧ (∀ x c, X.env.cells.lookup x = some c → c ≠ t) ∧ ∀ q ∈ X.pn ++ pins, q.1 ≠ t := by
    intro H0 s0 J t ht
    have nL : t ≠ X.env.locals := Nat.ne_of_gt (Nat.lt_of_lt_of_le J.lt ht)
    refine ⟨J.hok.fresh ht, Nat.le_trans J.sz ht, nL, fun z => ?_, fun x c e z => ?_, fun q hq z => ?_⟩
    · rcases List.mem_cons.mp (J.stkSub _ z) with z | z
      · exact nL z
      · exact J.nofs ht z
    · obtain ⟨w', o, ho, _⟩ := J.cell x c e
      rw [z] at ho
      exact absurd (Heap.lt_size ho) (Nat.not_lt_of_le ht)
    · have := (J.pin q hq).1
      rw [z] at this
      exact absurd (Heap.lt_size this) (Nat.not_lt_of_le ht)
  obtain ⟨nP, pPs, pPL, pPf, pPc, pPp⟩ := fresh I ha1
  have I2 : Inv X pins σ H { s with heap := h1.update p (Obj.mapSeq fun _ => (#[] : Array Value)), toks := tk1 } :=
    Inv.turned (s := { s with heap := h1, toks := tk1 }) I1 (t' := tk1) (it := p) (fun b o hb e => (Heap.get?_update_other _ (Obj.mapSeq fun _ => (#[] : Array Value)) (Ne.symm hb)).trans e) nP pPL (.inr pPs) pPc pPp
  have I3 : Inv X pins σ H { s with heap := ((h1.update p (Obj.mapSeq fun _ => (#[] : Array Value))).push (PyProof.Rows.seqObj "tuple" its.toArray 0)).push (PyProof.Rows.seqObj "list" #[] 0), toks := tk1 } :=
    I2.kept (t' := tk1) fun b u e => Heap.get?_push_of_some _ (Heap.get?_push_of_some _ e)
  obtain ⟨kS, hkS⟩ : ∃ kS, kS = ((h1.update p (Obj.mapSeq fun _ => (#[] : Array Value))).push (PyProof.Rows.seqObj "tuple" its.toArray 0)).objs.size := ⟨_, rfl⟩
  have nk : (((h1.update p (Obj.mapSeq fun _ => (#[] : Array Value))).push (PyProof.Rows.seqObj "tuple" its.toArray 0)).push (PyProof.Rows.seqObj "list" #[] 0)).get? kS = some (PyProof.Rows.seqObj "list" #[] 0) := by
    rw [hkS]
    exact Heap.get?_push_size _ rfl
  have np0 : (((h1.update p (Obj.mapSeq fun _ => (#[] : Array Value))).push (PyProof.Rows.seqObj "tuple" its.toArray 0)).push (PyProof.Rows.seqObj "list" #[] 0)).get? p = some (PyProof.Rows.seqObj "list" #[] e1) :=
    Heap.get?_push_of_some _ (Heap.get?_push_of_some _ ho1)
  have kS2 : (h1.update p (Obj.mapSeq fun _ => (#[] : Array Value))).objs.size ≤ kS := by
    rw [hkS, PyProof.Rows.size_push']
    exact Nat.le_succ _
  have hpk : kS ≠ p := Nat.ne_of_gt (Nat.lt_of_lt_of_le (Heap.lt_size ho1) kS2)
  obtain ⟨nkS, kSs, kSL, kSf, kSc, kSp⟩ := fresh I2 kS2
  have hfp : f < p := Nat.lt_of_lt_of_le (Heap.lt_size hfo) ha1
  have hfk : kS ≠ f := Nat.ne_of_gt (Nat.lt_trans hfp (Nat.lt_of_lt_of_le (Heap.lt_size ho1) kS2))
  have nf0 : (((h1.update p (Obj.mapSeq fun _ => (#[] : Array Value))).push (PyProof.Rows.seqObj "tuple" its.toArray 0)).push (PyProof.Rows.seqObj "list" #[] 0)).get? f = some fo :=
    Heap.get?_push_of_some _ (Heap.get?_push_of_some _ ((Heap.get?_update_other h1 (Obj.mapSeq fun _ => (#[] : Array Value)) (Nat.ne_of_gt hfp)).trans hfo1))
  show wpAny _ _ (PyProof.Rows.ksk_rest p (.ref f) false its.toArray e1 (.ref ((h1.update p (Obj.mapSeq fun _ => (#[] : Array Value))).push (PyProof.Rows.seqObj "tuple" its.toArray 0)).objs.size)) _ _ _
  rw [← hkS]
  unfold PyProof.Rows.ksk_rest
  refine wpAny_bind (wpAny_rule ?_)
  first
    | rw [List.forIn_toArray]
    | (rw [← Array.forIn_toList]; simp only [List.toList_toArray])
    | rw [← Array.forIn_toList]
  refine wpAny_bind (PyProof.Rows.ksk_fold (fun i s' => ∃ H1 kA e vsK, Inv X pins σ H1 s' ∧ Same H H1 ∧ (H1 f = none ∧ s'.heap.get? f = some fo) ∧ (H1 p = none ∧ s'.heap.get? p = some (PyProof.Rows.seqObj "list" #[] e1)) ∧ H1 kS = none ∧ s'.heap.get? kS = some (PyProof.Rows.seqObj "list" kA e) ∧ Vals vsK kA.toList ∧ DpAll X.K H1 vsK (ds.take i)) its 0 _
    ⟨H, #[], 0, [], I3, fun _ _ e => e, ⟨hfn, nf0⟩, ⟨nP, np0⟩, nkS, nk, .nil, by rw [List.take_zero]; exact .nil⟩ ?step ?done)
  case step =>
    rintro j x s' hx ⟨H1, kA, e, vsK, J, sm, ⟨nf1, ef1⟩, ⟨np1, ep1⟩, nk1, ek, vk, dk⟩
    simp only [Nat.zero_add] at dk ⊢
    have hj : j < its.length := (List.getElem?_eq_some_iff.mp hx).1
    obtain ⟨d, hd⟩ : ∃ d, ds[j]? = some d := ⟨_, List.getElem?_eq_getElem (by omega)⟩
    obtain ⟨y, hy⟩ : ∃ y, xs[j]? = some y := ⟨_, List.getElem?_eq_getElem (by omega)⟩
    obtain ⟨x', hx', ry⟩ := rv.get hy
    rw [hx] at hx'
    cases hx'
    have hkl : kA.size = j := by
      have h1 : vsK.length = kA.size := vk.length.trans Array.length_toList
      have h2 : vsK.length = (ds.take j).length := dk.len
      rw [List.length_take] at h2
      omega
    have rc := hturn j y d x hy hd ry H1 s' sm J ef1
    refine wpAny_bind (wpAny_attempt (wpAny_mono (Q := fun u s2 => ∃ v H2, Inv X pins σ H2 s2 ∧ RelV v u ∧ Same H1 H2 ∧ Dp X.K H2 v d ∧ (H2 f = none ∧ s2.heap.get? f = some fo) ∧ (H2 p = none ∧ s2.heap.get? p = some (PyProof.Rows.seqObj "list" #[] e1)) ∧ H2 kS = none ∧ s2.heap.get? kS = some (PyProof.Rows.seqObj "list" kA e)) (E := fun _ _ => False) (wpAny_call (codeAny_mono rc fun rr s2 hq => ?_)) (fun u s2 hu => ?_) fun _ _ hF => hF.elim))
    · cases rr with
      | error er => exact False.elim hq
      | ok fl =>
        cases fl with
        | ret u =>
          obtain ⟨v, H2, os2, bare2, un, hok2, rv2, sm2, dp2⟩ := hq
          have J2 : Inv X pins σ H2 s2 := J.call' (ch := []) os2 un hok2 bare2 (fun b z => absurd z (by simp))
          exact ⟨v, H2, J2, rv2, sm2, dp2, ⟨un.free f _ ef1 nf1 (by simp), un.keep f _ ef1 nf1 hff (by simp)⟩, ⟨un.free p _ ep1 np1 (by simp), un.keep p _ ep1 np1 pPf (by simp)⟩, un.free kS _ ek nk1 (by simp), un.keep kS _ ek nk1 kSf (by simp)⟩
        | next => exact False.elim hq
        | brk => exact False.elim hq
        | cont => exact False.elim hq
    · obtain ⟨v, H2, J2, rv2, sm2, dp2, ⟨nf2, ef2⟩, ⟨np2, ep2⟩, nk2, ek2⟩ := hu
      try dsimp only
      obtain ⟨c2, hc2⟩ : ∃ c2, (s2.heap.update kS (Obj.mapSeq (·.push u))).get? kS = some (PyProof.Rows.seqObj "list" (kA.push u) c2) := ⟨_, PyProof.Rows.get?_update_seq ek2 (·.push u)⟩
      have ht : ds.take (j + 1) = ds.take j ++ [d] := by rw [List.take_add_one, hd]; simp
      refine wpAny_bind (PyProof.Rows.listUpdate_at ek2 rfl ?_ (by omega) (Nat.le_trans (Nat.le_of_eq (Array.size_push ..)) (by omega)))
      have J3 : Inv X pins σ H2 { s2 with heap := s2.heap.update kS (Obj.mapSeq (·.push u)) } :=
        J2.turned (t' := s2.toks) (it := kS) (fun b o hb e => (Heap.get?_update_other s2.heap (Obj.mapSeq (·.push u)) (Ne.symm hb)).trans e) nk2 kSL (.inr kSs) kSc kSp
      refine wpAny_pure ⟨rfl, H2, kA.push u, c2, vsK ++ [v], J3, sm.trans sm2, ⟨nf2, (Heap.get?_update_other s2.heap (Obj.mapSeq (·.push u)) hfk).trans ef2⟩, ⟨np2, (Heap.get?_update_other s2.heap (Obj.mapSeq (·.push u)) hpk).trans ep2⟩, nk2, hc2, ?_, ?_⟩
      · have : (kA.push u).toList = kA.toList ++ [u] := by simp
        rw [this]
        exact vk.append (.cons rv2 .nil)
      · rw [ht]
        exact (L2.DpAll.same sm2 _ _ dk).app (.cons dp2 .nil)
  case done =>
    rintro s' ⟨H1, kA, e, vsK, J, sm, ⟨nf1, ef1⟩, ⟨np1, ep1⟩, nk1, ek, vk, dk⟩
    simp only [Nat.zero_add] at dk
    rw [List.take_of_length_le (by omega)] at dk
    try dsimp only
    have hkl : kA.size = its.length := by
      have h1 : vsK.length = kA.size := vk.length.trans Array.length_toList
      have h2 : vsK.length = ds.length := dk.len
      omega
    refine wpAny_bind (PyProof.Rows.listItems_at ek rfl ?_)
    obtain ⟨G, g1, g2⟩ := restrict s'.heap fun b => decide (b ≠ kS)
    have gk : ∀ b, b ≠ kS → G.get? b = s'.heap.get? b := fun b hb => g1 b (decide_eq_true hb)
    have gS : G.get? kS = none := g2 kS (by simp)
    have er : PySem.W.EachIs (fun u d => ∃ as, Reads s'.heap u d as) kA.toList ds := by
      have q := each_of (P := fun u d => ∃ as, Reads s'.heap u d as) vk (ds := ds) (fun i u d h1 h2 => ?_) dk.len
      · have em := PySem.W.each_map (R := fun u d => ∃ as, Reads s'.heap u d as) (fun b : V × PyData => b.2) (q.mono fun _ _ z => z.2)
        rw [zip_snd dk.len] at em
        exact em
      · obtain ⟨x, hx⟩ : ∃ x, vsK[i]? = some x := ⟨_, List.getElem?_eq_getElem (by rw [dk.len]; exact (List.getElem?_eq_some_iff.mp h2).1)⟩
        obtain ⟨u', hu', ru⟩ := vk.get hx
        rw [h1] at hu'
        cases hu'
        exact Dp.reads J d x u (dk.get hx h2) ru
    have hko : PySem.W.KeyedOut false ds its (PySem.W.sortVals (PySem.W.dataKind s'.heap ds) false kA.toList its) := ⟨s'.heap, kA.toList, hal, rfl, er⟩
    have ez : PySem.W.EachIs (fun u (b : V × PyData) => RelV b.1 u) its (xs.zip ds) := (each_of (P := fun _ _ => True) rv (fun _ _ _ _ _ => trivial) hlen).mono fun _ _ z => z.1
    have hzl : (xs.zip ds).map (fun b : V × PyData => b.2) = ds := zip_snd hlen
    refine PySem.W.keyH_end (κ := PySem.W.dataKind s'.heap ds) (h₁ := G) (fun b o hb eb => ?_) gS ek ep1 hpk (PySem.W.SortsAt.data (s := s') er hal hk fun d hd => ?_) hkl (by rw [hle]; exact hz) fun h' tk c kp hc => ⟨rfl, ?_⟩
    · by_cases hb2 : b = kS
      · rw [hb2, gS] at eb
        cases eb
      · exact (gk b hb2).symm.trans eb
    · have := hdp d hd
      omega
    · have out := PySem.W.keyedOut_each (fun b : V × PyData => b.2) (by rw [hzl]; exact hko) ez
      have ev := each_vals out
      have hpl := (srt_perm hlen).length_eq
      have kpS : ∀ b o, b ≠ p → b ≠ kS → s'.heap.get? b = some o → h'.get? b = some o := fun b o h1 h2 h3 => kp b o h1 ((gk b h2).trans h3)
      refine ⟨.ref p, upd H1 p (.lst (srt xs ds)), ?_, rfl, q H1 sm np1⟩
      have np_ : ∀ b, H1 b ≠ none → b ≠ p := fun b h z => h (by rw [z]; exact np1)
      have nk_ : ∀ b, H1 b ≠ none → b ≠ kS := fun b h z => h (by rw [z]; exact nk1)
      have some_ : ∀ {b o}, H1 b = some o → H1 b ≠ none := fun e z => by
        rw [e] at z
        cases z
      refine J.step (g' := s'.gens) (d' := s'.drawn) (t' := tk) (ch := [p, kS]) (fun b hb => ?_) (fun b o _ _ hc e _ => kpS b o (fun z => hc (by simp [z])) (fun z => hc (by simp [z])) e) (fun b o _ _ hc e _ => ⟨o.slots, kpS b o (fun z => hc (by simp [z])) (fun z => hc (by simp [z])) e⟩)
        (fun b o hc _ n => by rw [upd_ne (fun z => hc (by simp [z]))]; exact n) (fun b o hc e => ⟨o, kpS b o (fun z => hc (by simp [z])) (fun z => hc (by simp [z])) e⟩)
        (fun b ys e => by rw [upd_ne (np_ b (some_ e))]; exact e) (fun b o u e => by rw [upd_ne (np_ b (some_ e))]; exact e) (fun b us e => ⟨#[], by rw [upd_ne (np_ b (some_ e)), e]; simp⟩) (fun m hm => ?_) (fun b u e => ?_) J.bare
      · rcases List.mem_cons.mp hb with z | z
        · rw [z]
          exact ⟨.inr pPs, pPL, pPc, pPp⟩
        · have z : b = kS := by simpa using z
          rw [z]
          exact ⟨.inr kSs, kSL, kSc, kSp⟩
      · obtain ⟨o, es, ep, ho, rr⟩ := hm
        exact ⟨o, es, ep, kpS _ o (Ne.symm pPL) (Ne.symm kSL) ho, rr⟩
      · by_cases hb : b = p
        · rw [hb, upd_same] at e
          cases e
          rw [hb]
          exact ⟨by rw [hpl]; exact hz, _, c, ev, hc⟩
        · rw [upd_ne hb] at e
          refine (J.hok b u e).stay (fun d v hd e2 => ?_) (fun d e2 => by rw [upd_ne (np_ d (some_ e2))]; exact e2) fun d ys e2 => by rw [upd_ne (np_ d (some_ e2))]; exact e2
          have hd' : H1 d ≠ none := by
            rcases hd with z | z
            · rw [z]
              exact some_ e
            · exact some_ z
          exact kpS d v (np_ d hd') (nk_ d hd') e2

/-- the items of a list, or of a range -/
def SeqOf (K : PySem.W.Frag) (H : Hp) (a : Addr) (xs : List V) : Prop := SqL K H a xs ∨ ∃ lo hi, H a = some (.rng lo hi) ∧ RgOk lo hi ∧ xs = rgV lo hi
theorem SeqOf.extN {K : PySem.W.Frag} {H H' : Hp} {a : Addr} {xs : List V} (e : ExtN H H') (h : SeqOf K H a xs) : SeqOf K H' a xs := by
  rcases h with ((h | ⟨o, h⟩) | h) | ⟨lo, hi, h, r⟩
  · exact .inl (.inl (.inl (e _ _ h fun _ z => nomatch z)))
  · exact .inl (.inl (.inr ⟨o, e _ _ h fun _ z => nomatch z⟩))
  · exact .inl (.inr h)
  · exact .inr ⟨lo, hi, e _ _ h (fun _ z => nomatch z), r⟩
theorem sortL_run {pins : List (Addr × Obj)} {s : Shared} {σ : L2.St} {H : Hp} {Q : VK} {a f : Addr} {xs : List V} {ds : List PyData} {fo : Obj} {E : Value → Shared → Prop} (hc : X.calm = true) (I : Inv X pins σ H s) (hs : SeqOf X.K H a xs) (hlen : xs.length = ds.length) (hal : PySem.W.AllAlike ds) (hk : PySem.W.Sortable ds)
    (hdp : ∀ d ∈ ds, d.depth ≤ 64) (hun : X.A.units + 68 < cLine) (hfo : s.heap.get? f = some fo) (hfn : H f = none) (hff : f ∉ frs X.stack)
    (hturn : ∀ (i : Nat) x d u, xs[i]? = some x → ds[i]? = some d → RelV x u → ∀ H1 s1, Same H H1 → Inv X pins σ H1 s1 → s1.heap.get? f = some fo → KeyCall X X.A.in1.in1 f u d H1 s1)
    (q : ∀ p H1, Same H H1 → H1 p = none → Q (.ref p) (upd H1 p (.lst (srt xs ds)))) :
    wpAny (model X.prog X.w) X.A (call (.builtin "sorted") [.ref a] [(Str.ofString "key", .ref f)]) (EP X pins σ Q) E s := by
  have e2 : X.A.in1.in1.units = X.A.units + 2 := rfl
  rcases hs with hs | ⟨lo, hi, hr, ⟨b1, b2, b3, b4, b5⟩, rfl⟩
  · obtain ⟨its, rv, hl, hz⟩ := I.list hs
    have hle := rv.length
    refine PySem.W.sorted_of_sort hl.isList (by omega) (PyProof.Rows.ksk_s1 _ _) (fun _ => PyProof.Rows.ksk_l1 _ _) fun E' => ?_
    exact sortL_list (tk1 := s.toks) I (fun b u e => PySem.W.copyHeap_old e) (Nat.le_succ _) (PySem.W.copyHeap_at s.heap its) rv hz hlen hal hk hdp (by omega) hfo hfn hff hturn fun H1 s1 n1 => q _ H1 s1 n1
  · obtain ⟨t, u, v, hro⟩ := I.hok a _ hr
    refine PyProof.Rows.call_function_entry_kw kind_sorted plain_sorted entry_sorted (PyProof.Rows.ksk_s1 _ _) ?_
    unfold Builtin.«sorted»
    refine wpAny_bind (m := checkCount "sorted" 1 1 _) (wpAny_pure ?_)
    refine wpAny_bind (L2.collect_range (A := X.A.in1) (n := (hi - lo).toNat) (t := t) (u := u) (v := v) (I.ok.hd hc) hro (small_one b1 b2 b3 b4) (rangeSize_nat lo hi) b5 fun h' tk acc hk' hi' => ?_)
    have rv := vals_rg hi'
    have hle := rv.length
    have hzl : (rgV lo hi).length ≤ sizeLine := by rw [rgV_length, sizeLine_eq]; omega
    refine wpAny_bind (wpAny_newList ?_ (by omega))
    have hoL : (h'.push (seqObj "list" acc.toList.toArray 0)).get? h'.objs.size = some (seqObj "list" acc.toList.toArray 0) := Heap.get?_push_size _ rfl
    refine wpAny_bind (wpAny_holding (wpAny_call_entry_kw slot_list_sort ⟨_, hoL, rfl⟩ entry_list_sort (wpAny_mono (sortL_list (s := { s with heap := h', toks := tk }) (h1 := h'.push (seqObj "list" acc.toList.toArray 0)) (E' := _) (tk1 := tk) (I.kept (t' := tk) hk') (fun b u e => Heap.get?_push_of_some _ e) (Nat.le_refl _) hoL rv hzl hlen hal hk hdp (by omega) (hk' _ _ hfo) hfn hff hturn fun H1 s1 n1 => q _ H1 s1 n1) (fun fl s' hfl => ?_) fun _ _ e => e) (PyProof.Rows.ksk_l1 _ _)))
    obtain ⟨rfl, hq⟩ := hfl
    exact ⟨_, rfl, wpAny_pure ⟨_, rfl, hq⟩⟩

def tSortLam (K : PySem.W.Frag) (T : List (Addr × Str)) (q : Str) (js : List Nat) (msp : List (Option V) → List V → Hp → VK → Prop) (t1 : TE) : TE := fun σ H Q => t1 σ H fun v H1 => Tabs T H1 ∧ ∃ (a : Addr) (xs : List V) (ds : List PyData), v = .ref a ∧ SeqOf K H1 a xs ∧ xs.length = ds.length ∧
  PySem.W.AllAlike ds ∧ PySem.W.Sortable ds ∧ (∀ d ∈ ds, d.depth ≤ 64) ∧ ∀ H2 c, ExtN H1 H2 → Tabs T H2 → H2 c = some (CodeO c q) →
    (∀ (i : Nat) x d, xs[i]? = some x → ds[i]? = some d → ∀ H3, Same H2 H3 → msp (js.map (slotAt σ)) [x] H3 fun v H4 => Same H3 H4 ∧ Dp K H4 v d) ∧ ∀ p H3, Same H2 H3 → H3 p = none → Q (.ref p) (upd H3 p (.lst (srt xs ds)))
theorem pe_sortLam {T : List (Addr × Str)} {x : Str} {c P : Addr} {k : Nat} {N ps fr : List Str} {params : Arguments} {body : Expr} {scope : Scope} {e1 : Expr} {t1 : TE} {p lpos kpos pos : Pos} {js : List Nat} {msp : List (Option V) → List V → Hp → VK → Prop}
    (hc : X.calm = true) (hg : Gl X x) (hm : X.mg x = none) (hv : bootBuiltins x = some (.builtin "sorted")) (TB : TabB X.base X.mg c P) (hcode : X.env.code = .ref c) (hmT : (P, X.env.qual ++ "<lambda>") ∈ T) (hu : ∀ p ∈ T, p.1 = P → p.2 = X.env.qual ++ "<lambda>")
    (hr : Room (k + 3) X.A) (hdef : defaultsOf params X.env = ([], [])) (hsc : ndefB X.env.scope scope fr = true) (hjs : js.map (fun j => X.N[j]?) = fr.map some) (S : NScope N ps fr scope) (hps : ps.length = 1)
    (hbind : ∀ (q : Str) (cl : List (Str × Addr)) (pm cv ctv : Value) (us : List Value), us.length = ps.length → bindArgs (PySem.W.kla_fn "<lambda>" q params body scope cl pm cv ctv) ⟨us, []⟩ = pure (ps.zip us))
    (hbody : ∀ (A : Around) (outer : List Env) (s : Shared) (H : Hp) (f c' : Addr) (cl : List (Str × Addr)) (ws : List (Option V)) (vs : List V) (Q : VK), Room k (A.deeper (envF (lamF (X.env.qual ++ "<lambda>") params scope cl c') f s.heap.objs.size)) → msp ws vs H Q →
      ∃ tb, PE (ncx L2.CX0 X.prog X.w X.K X.mg X.base N (lamF (X.env.qual ++ "<lambda>") params scope cl c') f A outer s H L2.E0) body tb ∧ tb (startF N vs ws) H Q)
    (h1 : PE X e1 t1) (hdb : (x == ("__debug__" : Str)) = false := by decide) (hn : x ≠ "__name__" := by decide) (hfn0 : ∀ y, X.fn y = true := by intro _; rfl)
    (he : backTo pos (starEach [e1] X.env) = (false, eval e1 X.env) :: backTo pos (starEach [] X.env) := by rfl) (he2 : starEach [e1] X.env = (false, eval e1 X.env) :: starEach [] X.env := by rfl) (hpl : (backTo pos (starEach [e1] X.env)).any (·.1) = false := by rfl)
    (hall : (backToKw pos (keywordEach [⟨some (Str.ofString "key"), .Lambda params body scope lpos, kpos⟩] X.env)).all (·.1.isSome) = true := by rfl) (hnone : (backToKw pos (keywordEach [⟨some (Str.ofString "key"), .Lambda params body scope lpos, kpos⟩] X.env)).any (·.1.isNone) = false := by rfl)
    (hks : (backToKw pos (keywordEach [⟨some (Str.ofString "key"), .Lambda params body scope lpos, kpos⟩] X.env)).filterMap (·.1) = [Str.ofString "key"] := by rfl)
    (hkv : (backToKw pos (keywordEach [⟨some (Str.ofString "key"), .Lambda params body scope lpos, kpos⟩] X.env)).map (·.2) = [(do let v ← eval (.Lambda params body scope lpos) X.env; standAt pos; pure v)] := by rfl) :
    PE X (.Call (.Name x p) [e1] [⟨some (Str.ofString "key"), .Lambda params body scope lpos, kpos⟩] pos) (tSortLam X.K T (X.env.qual ++ "<lambda>") js msp t1) := by
  refine ⟨fun pins s σ H Q I h => ?_⟩
  have hfree : ∀ y ∈ scope.names, y.2 = .free → ∃ c, X.env.cells.lookup y.1 = some c := fun y hy e => (ndef_free hsc y hy e).elim (fun z => I.ok.has _ (.inl z)) fun z => I.ok.has _ (.inr z)
  refine wpAny_Call_Name_kw (ld_blt I hg hm hv ?_ hn hdb)
  refine PyProof.Rows.callWith_kw ?_ he hpl hall hnone
  rw [he2]
  show wpAny _ _ (spliced [(false, eval e1 X.env)]) _ _ s
  refine Calls.spliced_cons (thn (h1.run pins s σ H _ I h) fun u1 s1 ⟨v, H1, I1, r1, hT, q1⟩ => Calls.spliced_nil ?_)
  rw [hkv, hks]
  refine wpAny_evalAll_cons (wpAny_bind (lam_make2 I1 TB hcode hmT hu hT hdef hfree fun f c' pm' ctv H2 s2 I2 eN T2 hf hfn hfr hco => wpAny_bind (wpAny_standAt (wpAny_pure ?_))))
  refine wpAny_evalAll_nil ?_
  obtain ⟨a, xs, ds, rfl, hs, hlen, hal, hk, hdp, q1⟩ := q1
  obtain rfl : u1 = Value.ref a := r1
  obtain ⟨qt, qe⟩ := q1 H2 c' eN T2 hco
  have hsub : ∀ y b, (cloFrom X.env.cells scope.names []).lookup y = some b → X.env.cells.lookup y = some b := fun y b e => clo_cm hfree e
  refine sortL_run hc I2 (hs.extN eN) hlen hal hk hdp (by have := hr.un; omega) hf hfn hfr (fun i x d u hx hd ru H3 s3 sm I3 hf3 => ?_) qe
  have C := cells_of I3 (Caps.made I3.ok (ndef_free hsc) (ndef_fr hsc) hjs)
  have hm3 := qt i x d hx hd H3 sm
  have hr1 : Room (k + 1) X.A.in1.in1 := (hr.in1.in1)
  obtain ⟨tb, hB, hq⟩ : ∃ tb, (Room k (X.A.in1.in1.deeper (envF (lamF (X.env.qual ++ "<lambda>") params scope (cloFrom X.env.cells scope.names []) c') f s3.heap.objs.size)) → PE (ncx L2.CX0 X.prog X.w X.K X.mg X.base N (lamF (X.env.qual ++ "<lambda>") params scope (cloFrom X.env.cells scope.names []) c') f X.A.in1.in1 X.stack s3 H3 L2.E0) body tb) ∧ tb (startF N [x] (js.map (slotAt σ))) H3 (fun v H4 => Same H3 H4 ∧ Dp X.K H4 v d) := by
    obtain ⟨tb, b1, b2⟩ := hbody X.A.in1.in1 X.stack s3 H3 f c' (cloFrom X.env.cells scope.names []) (js.map (slotAt σ)) [x] _ (hr1.deeper _) hm3
    exact ⟨tb, fun _ => b1, b2⟩
  exact lam_run (ws := js.map (slotAt σ)) (k := k) S (hbind _ _ pm' (.ref c') ctv [u] hps.symm) hr1 (Env0.at' I3.env0 rfl) hf3 (sm _ _ hco) C (.cons ru .nil) hps.symm hB hq
end
end NB

/-! the order of terms, words asked for where sizes tie; numbers in that order -/
namespace NB
open PySem PySem.Spec PyProof.Rows L2 LamX
section
variable {X : Cx}
theorem cr_range1 : CallR X (.type "range") (fun vs H Q => ∃ j, vs = [V.int j] ∧ ∀ p, H p = none → Q (.ref p) (upd H p (.rng 0 j))) := by
  intro pins s σ H vs us Q I r h
  obtain ⟨j, rfl, q⟩ := h
  obtain ⟨u, rfl, ru⟩ := vals1 r
  obtain ⟨t, rfl⟩ := ru
  refine call_range_1 ⟨.ref s.heap.objs.size, upd H s.heap.objs.size (.rng 0 j), I.laid (t' := s.toks + 2) (fun b o e => Heap.get?_push_of_some _ e) (Nat.le_refl _) ?_, rfl, q _ (I.hok.fresh (Nat.le_refl _))⟩
  exact ⟨_, _, _, Heap.get?_push_size _ rfl⟩
end
def szT (t : Tm) : Nat := (Tm.pre t).length
/-- whether another term has the same size -/
def tieB (B : List Tm) (t : Tm) : Bool := decide (1 < ((B.map szT).count (szT t)))
def keyA (B : List Tm) (t : Tm) : PyData := .tuple [.int (szT t : Int), .tuple (if tieB B t then (Tm.pre t).map fun x => PyData.str x.sg else [])]
theorem count_two {f : Tm → Nat} : ∀ {B : List Tm} {t u : Tm}, B.Nodup → t ∈ B → u ∈ B → t ≠ u → f t = f u → 1 < (B.map f).count (f t)
  | [], t, u, _, h, _, _, _ => nomatch h
  | x :: B, t, u, nd, ht, hu, ne, e => by
    rw [List.nodup_cons] at nd
    rw [List.map_cons, List.count_cons]
    have mem1 : ∀ y ∈ B, f y = f t → 1 ≤ (B.map f).count (f t) := fun y hy ey => by
      have : f t ∈ B.map f := List.mem_map.mpr ⟨y, hy, ey⟩
      exact List.count_pos_iff.mpr this
    rcases List.mem_cons.mp ht with z | z
    · rcases List.mem_cons.mp hu with y | y
      · exact absurd (z.trans y.symm) ne
      · have := mem1 u y e.symm
        rw [← z, if_pos beq_self_eq_true']
        omega
    · rcases List.mem_cons.mp hu with y | y
      · have := mem1 t z rfl
        rw [← y, e, if_pos beq_self_eq_true']
        rw [e] at this
        omega
      · have := count_two (f := f) nd.2 z y ne e
        split <;> omega
where beq_self_eq_true' {n : Nat} : (n == n) = true := beq_self_eq_true n
theorem alike_empty (a : List Tm) (c d : Bool) (b : List Tm) : PySem.W.alikeAll (if c then a.map fun x => PyData.str x.sg else []) (if d then b.map fun x => PyData.str x.sg else []) = true := by
  cases c <;> cases d
  · show PySem.W.alikeAll [] [] = true
    rw [PySem.W.alikeAll]
  · show PySem.W.alikeAll [] _ = true
    rw [PySem.W.alikeAll]
  · show PySem.W.alikeAll _ [] = true
    cases a with
    | nil => rw [if_pos rfl, List.map_nil, PySem.W.alikeAll]
    | cons x a => rw [if_pos rfl, List.map_cons, PySem.W.alikeAll]
  · exact strs_alike a b
theorem alike_keyA (B : List Tm) (t u : Tm) : PySem.W.alike (keyA B t) (keyA B u) = true := by
  unfold keyA
  rw [PySem.W.alike, PySem.W.alikeAll, PySem.W.alikeAll, PySem.W.alike, PySem.W.alike, alike_empty, PySem.W.alikeAll]
  rfl
theorem keyA_lt {B : List Tm} (nd : B.Nodup) {t u : Tm} (ht : t ∈ B) (hu : u ∈ B) : PySem.W.dataLt (keyA B t) (keyA B u) = PySem.W.dataLt (keyD t) (keyD u) := by
  by_cases e : t = u
  · rw [e, PySem.W.dataLt_self, PySem.W.dataLt_self]
  · by_cases hz : szT t = szT u
    · have h1 : tieB B t = true := decide_eq_true (count_two nd ht hu e hz)
      have h2 : tieB B u = true := decide_eq_true (count_two nd hu ht (fun z => e z.symm) hz.symm)
      unfold keyA
      rw [h1, h2]
      rfl
    · have ne : PyData.eqv (.int (szT t : Int)) (.int (szT u : Int)) = false := by
        rw [PyData.eqv]
        exact beq_eq_false_iff_ne.mpr fun z => hz (by omega)
      have ai : PySem.W.alike (.int (szT t : Int)) (.int (szT u : Int)) = true := by rw [PySem.W.alike]
      have a1 : PySem.W.alike (.tuple (if tieB B t then (Tm.pre t).map fun x => PyData.str x.sg else [])) (.tuple (if tieB B u then (Tm.pre u).map fun x => PyData.str x.sg else [])) = true := by
        rw [PySem.W.alike]
        exact alike_empty _ _ _ _
      have a2 : PySem.W.alike (.tuple ((Tm.pre t).map fun x => PyData.str x.sg)) (.tuple ((Tm.pre u).map fun x => PyData.str x.sg)) = true := by
        rw [PySem.W.alike]
        exact strs_alike _ _
      unfold keyA keyD
      rw [PySem.W.dataLt_pair ai a1]
      show _ = PySem.W.dataLt (.tuple [.int (szT t : Int), .tuple ((Tm.pre t).map fun x => PyData.str x.sg)]) (.tuple [.int (szT u : Int), .tuple ((Tm.pre u).map fun x => PyData.str x.sg)])
      rw [PySem.W.dataLt_pair ai a2, if_neg (by rw [ne]; decide), if_neg (by rw [ne]; decide)]
def tm0 : Tm := .mk "" []
/-- the numbers of terms, in the order of the terms -/
noncomputable def ascL (B : List Tm) : List Nat := (List.range B.length).mergeSort fun i j => !PySem.W.dataLt (keyD (B.getD j tm0)) (keyD (B.getD i tm0))
theorem zip_range {α β : Type} (xs : List α) (ys : List β) (h : xs.length = ys.length) (a : α) (b : β) : xs.zip ys = (List.range xs.length).map fun i => (xs.getD i a, ys.getD i b) := by
  refine List.ext_getElem (by simp [h]) fun i h1 h2 => ?_
  have hi : i < xs.length := by
    rw [List.length_zip] at h1
    omega
  simp [hi, show i < ys.length by omega]
theorem srt_by {xs : List V} {ds : List PyData} (h : xs.length = ds.length) (x : V) : srt xs ds = ((List.range xs.length).mergeSort fun i j => !PySem.W.dataLt (ds.getD j .none) (ds.getD i .none)).map fun i => xs.getD i x := by
  unfold srt
  rw [zip_range xs ds h x .none]
  have q := List.map_mergeSort (r := fun i j => !PySem.W.dataLt (ds.getD j .none) (ds.getD i .none)) (s := PySem.W.dataLe false fun b : V × PyData => b.2) (f := fun i : Nat => (xs.getD i x, ds.getD i .none)) (l := List.range xs.length) fun i _ j _ => rfl
  rw [← q, List.map_map]
  rfl
theorem mergeSort_congr {α : Type} {r s : α → α → Bool} {l : List α} (h : ∀ a ∈ l, ∀ b ∈ l, r a b = s a b) : l.mergeSort r = l.mergeSort s := by
  have q := List.map_mergeSort (r := r) (s := s) (f := fun a => a) (l := l) h
  simpa using q
theorem srt_asc {us : List V} {B : List Tm} (h : us.length = B.length) : srt us (B.map keyD) = (ascL B).map fun i => us.getD i .non := by
  rw [srt_by (by rw [List.length_map, h]) .non, h]
  unfold ascL
  rw [mergeSort_congr fun i hi j hj => ?_]
  have h1 := List.mem_range.mp hi
  have h2 := List.mem_range.mp hj
  simp [h1, h2]
theorem srt_rg {B : List Tm} (nd : B.Nodup) : srt (rgV 0 (B.length : Int)) (B.map (keyA B)) = (ascL B).map fun i : Nat => V.int (i : Int) := by
  have hl : (rgV 0 (B.length : Int)).length = B.length := by
    rw [rgV_length]
    omega
  rw [srt_by (by rw [List.length_map, hl]) .non, hl]
  unfold ascL
  have e1 : (List.range B.length).mergeSort (fun i j => !PySem.W.dataLt ((B.map (keyA B)).getD j .none) ((B.map (keyA B)).getD i .none)) = (List.range B.length).mergeSort fun i j => !PySem.W.dataLt (keyD (B.getD j tm0)) (keyD (B.getD i tm0)) :=
    mergeSort_congr fun i hi j hj => by
      have h1 := List.mem_range.mp hi
      have h2 := List.mem_range.mp hj
      have g1 : (B.map (keyA B)).getD i .none = keyA B B[i] := by simp [h1]
      have g2 : (B.map (keyA B)).getD j .none = keyA B B[j] := by simp [h2]
      have g3 : B.getD i tm0 = B[i] := by simp [h1]
      have g4 : B.getD j tm0 = B[j] := by simp [h2]
      rw [g1, g2, g3, g4, keyA_lt nd (List.getElem_mem h2) (List.getElem_mem h1)]
  rw [e1]
  refine List.map_congr_left fun i hi => ?_
  have hi2 : i < B.length := by
    have := (List.mergeSort_perm (List.range B.length) _).mem_iff.mp hi
    exact List.mem_range.mp this
  unfold rgV
  rw [List.getD_eq_getElem?_getD, List.getElem?_map, List.getElem?_range (by omega)]
  simp
theorem asc_mem {B : List Tm} {i : Nat} (h : i ∈ ascL B) : i < B.length := List.mem_range.mp ((List.mergeSort_perm (List.range B.length) _).mem_iff.mp h)
theorem asc_len (B : List Tm) : (ascL B).length = B.length := by
  unfold ascL
  rw [(List.mergeSort_perm _ _).length_eq, List.length_range]
theorem depth_keyA (B : List Tm) (t : Tm) : (keyA B t).depth ≤ 2 := by
  have h : PyData.depthAll (if tieB B t then (Tm.pre t).map fun x => PyData.str x.sg else []) = 0 := by
    cases tieB B t
    · show PyData.depthAll [] = 0
      rw [PyData.depthAll]
    · exact depth_strs _
  unfold keyA
  rw [PyData.depth, PyData.depthAll, PyData.depthAll, PyData.depthAll, PyData.depth, PyData.depth, h]
  decide
theorem sum_sz : ∀ ps : List Tm, (ps.map fun t => (szT t : Int)).sum = ((Tm.pres ps).length : Int)
  | [] => by rw [Tm.pres]; rfl
  | p :: ps => by
    rw [List.map_cons, List.sum_cons, sum_sz ps, Tm.pres, List.length_append, szT]
    omega
theorem szT_mk (s : Str) (ps : List Tm) : (szT (.mk s ps) : Int) = 1 + (ps.map fun t => (szT t : Int)).sum := by
  rw [sum_sz, szT, Tm.pre, List.length_cons]
  omega
/-- a dict that tells how often each number stands in l -/
def CntOf (kvs : List (Key × V)) (l : List Nat) : Prop := kvs.length ≤ l.length ∧ ∀ n : Nat, valV kvs (Sum.inl (n : Int)) = if n ∈ l then some (V.int (l.count n : Int)) else none
theorem CntOf.nil : CntOf [] [] := ⟨Nat.le_refl _, fun n => by simp; rfl⟩
theorem CntOf.get {kvs : List (Key × V)} {l : List Nat} (h : CntOf kvs l) (n : Nat) : (valV kvs (Sum.inl (n : Int))).getD (.int 0) = V.int (l.count n : Int) := by
  rw [h.2 n]
  by_cases m : n ∈ l
  · rw [if_pos m]
    rfl
  · rw [if_neg m, List.count_eq_zero.mpr m]
    rfl
theorem CntOf.put {kvs : List (Key × V)} {l : List Nat} (h : CntOf kvs l) (n : Nat) : CntOf (putK kvs (Sum.inl (n : Int)) (.int ((l.count n : Int) + 1))) (l ++ [n]) := by
  refine ⟨?_, fun m => ?_⟩
  · have := length_putK kvs (Sum.inl (n : Int)) (V.int ((l.count n : Int) + 1))
    have := h.1
    rw [List.length_append, List.length_singleton]
    omega
  · rw [valV_put, h.2 m]
    by_cases e : m = n
    · subst e
      rw [if_pos rfl, if_pos (List.mem_append_right _ (List.mem_singleton.mpr rfl)), List.count_append]
      simp
    · have e2 : ¬ (Sum.inl (m : Int) : Key) = Sum.inl (n : Int) := fun z => e (by injection z with z; omega)
      rw [if_neg e2]
      have e3 : (m ∈ l ++ [n]) ↔ m ∈ l := by simp [e]
      have e4 : List.count m [n] = 0 := by simp [Ne.symm e]
      rw [List.count_append, e4, Nat.add_zero]
      simp only [e3]
theorem dp_ints {K : PySem.W.Frag} {H : Hp} : ∀ {ix : List Nat} {zs : List V}, DpAll K H zs (ix.map fun j : Nat => PyData.int (j : Int)) → zs = ix.map fun j : Nat => V.int (j : Int)
  | [], _, h => DpAll.nilD h
  | j :: ix, _, h => by
    rw [List.map_cons] at h
    obtain ⟨z, ws, rfl, q1, q2⟩ := DpAll.consD h
    rw [Dp.intD q1, dp_ints q2]
    rfl
theorem shp_open {K : PySem.W.Frag} {H : Hp} {v : V} {s : Str} {ix : List Nat} (h : Dp K H v (shD (s, ix))) : ∃ b pt, v = .ref b ∧ SqT K H b [.str s, .ref pt] ∧ SqT K H pt (ix.map fun j : Nat => V.int (j : Int)) := by
  obtain ⟨b, ys, rfl, hsb, hys⟩ := Dp.tupD h
  obtain ⟨y1, ys, rfl, d1, hys⟩ := DpAll.consD hys
  obtain ⟨y2, ys, rfl, d2, hys⟩ := DpAll.consD hys
  obtain rfl := DpAll.nilD hys
  obtain ⟨pt, zs, rfl, hpt, hzs⟩ := Dp.tupD d2
  rw [Dp.strD d1] at hsb
  rw [dp_ints hzs] at hpt
  exact ⟨b, pt, rfl, hsb, hpt⟩
theorem ix_get {B : List Tm} : ∀ {ix : List Nat} {ps : List Tm} {j : Nat} {i : Nat}, ix.map (B[·]?) = ps.map some → ix[j]? = some i → ∃ q, ps[j]? = some q ∧ B[i]? = some q
  | [], _, _, _, _, h => by simp at h
  | x :: ix, [], _, _, h, _ => nomatch h
  | x :: ix, p :: ps, 0, i, h, hj => by
    rw [List.map_cons, List.map_cons] at h
    injection h with a1 a2
    have e : x = i := by simpa using hj
    subst e
    exact ⟨p, rfl, a1⟩
  | x :: ix, p :: ps, j + 1, i, h, hj => by
    rw [List.map_cons, List.map_cons] at h
    injection h with a1 a2
    obtain ⟨q, h1, h2⟩ := ix_get (j := j) a2 (by simpa using hj)
    exact ⟨q, by simpa using h1, h2⟩
theorem nls_sgn : ∀ a : List Tm, nls (a.map fun x => PyData.str x.sg) = true
  | [] => rfl
  | x :: a => by rw [List.map_cons, nls, nls_sgn a]; rfl
theorem nl_keyA (B : List Tm) (t : Tm) : nl (keyA B t) = true := by
  have h : nls (if tieB B t then (Tm.pre t).map fun x => PyData.str x.sg else []) = true := by
    cases tieB B t
    · rfl
    · exact nls_sgn _
  unfold keyA
  rw [nl, nls, nls, nls, nl, nl, h]
  rfl
theorem nls_keyA (B : List Tm) : ∀ l : List Tm, nls (l.map (keyA B)) = true
  | [] => rfl
  | t :: l => by rw [List.map_cons, nls, nl_keyA, nls_keyA B l]; rfl
end NB

/-! slices and sums of plain tuples are plain -/
namespace NB
open PySem PySem.Spec PyProof.Rows L2
theorem PlT.sm {K : PySem.W.Frag} {H H' : Hp} {a : Addr} {xs : List V} (h : PlT K H a xs) (e : Same H H') : PlT K H' a xs := h.same fun b o u q => e _ _ q
section
variable {X : Cx}
/-- t[lo:hi] of a plain tuple -/
def rSlP (K : PySem.W.Frag) : V → Option Int → Option Int → Hp → VK → Prop := fun x lo hi H Q => ∃ a xs, x = .ref a ∧ PlT K H a xs ∧ ∀ H' r, Same H H' → PlT K H' r (cutV xs lo hi) → Q (.ref r) H'
theorem cutV_wholeP {xs : List V} {lo hi : Option Int} (h : HT.sIx xs.length 0 lo = 0 ∧ HT.sIx xs.length xs.length hi = xs.length) : cutV xs lo hi = xs := by
  unfold cutV
  rw [h.1, h.2, List.drop_zero, Nat.sub_zero, List.take_length]
theorem sl_tupP : SlR X (rSlP X.K) := by
  intro pins s σ H x v vl vu lo hi sl Q I rx hs pl pu h
  obtain ⟨a, xs, rfl, hx, q⟩ := h
  cases rx
  obtain ⟨its, r, ht, hz⟩ := I.tuple hx.sq
  have hlen : its.toArray.size = xs.length := by rw [List.size_toArray]; exact r.length.symm
  refine ⟨"tuple", _, PyProof.Rows.slot_tuple_getitem.lookup, ht.typeIs, ?_⟩
  by_cases hw : HT.sIx xs.length 0 lo = 0 ∧ HT.sIx xs.length xs.length hi = xs.length
  · exact getItem_tuple_whole ht hs pl pu (by rw [hlen]; exact hw) ⟨.ref a, H, I, rfl, q H a (Same.refl H) (by rw [cutV_wholeP hw]; exact hx)⟩
  · refine HT.getItem_tuple_cut ht hs pl pu (by rw [hlen]; exact hw) ?_ (by rw [hlen]; exact hz)
    rw [hlen]
    have np := I.hok.fresh (Nat.le_refl s.heap.objs.size)
    refine ⟨.ref s.heap.objs.size, _, I.laid (t' := s.toks) (o := .frz { cls := .type "tuple", data := .seq ((its.drop (HT.sIx xs.length 0 lo)).take (HT.sIx xs.length xs.length hi - HT.sIx xs.length 0 lo)).toArray } (.tup (cutV xs lo hi))) (fun b ob q => Heap.get?_push_of_some _ q) (Nat.le_refl _) ?_, rfl, q _ _ (same_new np) (.inl ⟨_, rfl, rfl, upd_same⟩)⟩
    exact ⟨Heap.get?_push_size _ rfl, Nat.le_trans (cutV_length xs lo hi) hz, _, (r.drop (HT.sIx xs.length 0 lo)).take (HT.sIx xs.length xs.length hi - HT.sIx xs.length 0 lo), IsTup.new _ _⟩
/-- t + u of plain tuples -/
def rCatP (K : PySem.W.Frag) : R2 := fun x y H Q => ∃ a b xs ys, x = .ref a ∧ y = .ref b ∧ PlT K H a xs ∧ PlT K H b ys ∧ xs.length + ys.length ≤ sizeLine ∧ ∀ H' r, Same H H' → PlT K H' r (xs ++ ys) → Q (.ref r) H'
theorem op_catP : OpR X (binaryOp .Add) (rCatP X.K) := by
  intro pins s σ H x y v u Q I rx ry h
  obtain ⟨a, b, xs, ys, rfl, rfl, ha, hb, hz, q⟩ := h
  cases rx
  cases ry
  obtain ⟨its, r1, p1, _⟩ := I.tuple ha.sq
  obtain ⟨its2, r2, p2, _⟩ := I.tuple hb.sq
  by_cases hx : xs = []
  · subst hx
    cases r1
    exact cat_tup0 p1 p2 ⟨.ref b, H, I, rfl, q H b (Same.refl H) hb⟩
  · refine HT.cat_tup p1 p2 (fun z => hx (r1.nil_iff.mp z)) (fun z => ⟨.ref a, H, I, rfl, q H a (Same.refl H) (by rw [r2.nil_iff.mp z, List.append_nil]; exact ha)⟩) (fun z => ?_) (by rw [← r1.length, ← r2.length]; exact hz)
    have np := I.hok.fresh (Nat.le_refl s.heap.objs.size)
    refine ⟨.ref s.heap.objs.size, _, I.laid (t' := s.toks) (o := .frz { cls := .type "tuple", data := .seq (its ++ its2).toArray } (.tup (xs ++ ys))) (fun b ob q => Heap.get?_push_of_some _ q) (Nat.le_refl _) ?_, rfl, q _ _ (same_new np) (.inl ⟨_, rfl, rfl, upd_same⟩)⟩
    exact ⟨Heap.get?_push_size _ rfl, by rw [List.length_append]; exact hz, _, r1.append r2, IsTup.new _ _⟩
end
section
variable {X : Cx}
/-- t[::-1] of a plain tuple -/
def tBackP (K : PySem.W.Frag) (te : TE) : TE := fun σ H Q => te σ H fun x H1 => ∃ a xs, x = .ref a ∧ PlT K H1 a xs ∧ ∀ H' r, Same H1 H' → PlT K H' r xs.reverse → Q (.ref r) H'
theorem pe_backP {e : Expr} {te : TE} {k : Nat} {p1 p2 p3 pos : Pos} (he : PE X e te) : PE X (.Subscript e (.Slice none none (some (.UnaryOp .USub (.Constant (.int 1) k p1) p2)) p3) pos) (tBackP X.K te) := by
  refine ⟨fun pins s σ H Q I h => ?_⟩
  refine Subscript_ (thn (he.run pins s σ H _ I h) fun v s1 ⟨x, H1, I1, r1, q1⟩ => ?_)
  obtain ⟨a, xs, ex, hx, q⟩ := q1
  subst ex
  cases r1
  have hst : PO X (some (.UnaryOp .USub (.Constant (.int 1) k p1) p2)) (tPart (tUn (rU fun i => .int (-i)) (tC (.int 1)))) := po_some (pe_un un_neg pe_int)
  refine wpAny_Slice (thn (po_none.run pins s1 σ H1 (fun o H2 => o = none ∧ H2 = H1) I1 ⟨rfl, rfl⟩) fun vl s2 ⟨l, H2, I2, pl, el, e2⟩ => ?_)
  subst el e2
  refine thn (po_none.run pins s2 σ H2 (fun o H3 => o = none ∧ H3 = H2) I2 ⟨rfl, rfl⟩) fun vu s3 ⟨u, H3, I3, pu, eu, e3⟩ => ?_
  subst eu e3
  refine thn (hst.run pins s3 σ H3 (fun o H4 => o = some (-1) ∧ H4 = H3) I3 ⟨1, rfl, -1, rfl, rfl, rfl⟩) fun vs s4 ⟨o, H4, I4, ps, eo, e4⟩ => ?_
  subst eo e4
  cases pl
  have I5 : Inv X pins σ H4 { s4 with heap := s4.heap.push { cls := .type "slice", data := .fields #[.none, vu, vs] } } := I4.kept (t' := s4.toks) fun b ob q => Heap.get?_push_of_some _ q
  obtain ⟨its, r, ht, hz⟩ := I5.tuple hx.sq
  have hlen : its.toArray.size = xs.length := by rw [List.size_toArray]; exact r.length.symm
  refine tail_any (ops := [.ref a, .ref s4.heap.objs.size]) ht.typeIs (PyProof.Rows.slot_tuple_getitem.lookup) ?_ (by with_unfolding_all rfl)
  refine getItem_back (c := 0) ht (Heap.IsSliceOf.new _ _ vu vs) pu ps (Nat.zero_le _) (Nat.zero_le _) ?_ (by rw [hlen]; exact hz)
  have np := I5.hok.fresh (Nat.le_refl _)
  refine ⟨.ref _, _, I5.laid (t' := s4.toks) (o := .frz { cls := .type "tuple", data := .seq (its.drop 0).reverse.toArray } (.tup (xs.drop 0).reverse)) (fun b ob q => Heap.get?_push_of_some _ q) (Nat.le_refl _) ?_, rfl, q _ _ (same_new np) (.inl ⟨{ cls := .type "tuple", data := .seq (its.drop 0).reverse.toArray }, rfl, rfl, ?_⟩)⟩
  · refine ⟨Heap.get?_push_size _ rfl, ?_, _, (r.drop 0).reverse, IsTup.new _ _⟩
    rw [List.length_reverse, List.length_drop]
    omega
  · exact upd_same
end
end NB

/-! signs as data, exceptions with a field -/
namespace NB
open PySem PySem.Spec PyProof.Rows L2 LamX
theorem placed_sg {d : PyData} (h : placedD d = true) : ∃ e : Sg, d = sg1 e := by
  unfold placedD at h
  split at h
  · rename_i s n
    rw [Bool.and_eq_true_iff] at h
    obtain ⟨h1, h2⟩ := h
    cases s with
    | str x =>
      cases n with
      | int i => exact ⟨(x, i), rfl⟩
      | _ => cases h2
    | _ => cases h1
  · cases h
theorem placed_sgs : ∀ {its : List PyData}, its.all placedD = true → ∃ sg : List Sg, its = sg.map sg1
  | [], _ => ⟨[], rfl⟩
  | d :: its, h => by
    rw [List.all_cons, Bool.and_eq_true_iff] at h
    obtain ⟨e, he⟩ := placed_sg h.1
    obtain ⟨sg, hs⟩ := placed_sgs h.2
    exact ⟨e :: sg, by rw [he, hs]; rfl⟩
theorem signs_sg {d : PyData} (h : signsD d = true) : ∃ sg : List Sg, d = sgsD sg := by
  unfold signsD at h
  rw [Bool.and_eq_true_iff, Bool.and_eq_true_iff, Bool.and_eq_true_iff, Bool.and_eq_true_iff, Bool.and_eq_true_iff] at h
  cases d with
  | tuple its =>
    obtain ⟨sg, e⟩ := placed_sgs h.2.2.1
    exact ⟨sg, congrArg PyData.tuple e⟩
  | _ => cases h.1
theorem jp_sg1 {K : PySem.W.Frag} {H : Hp} {v : V} {e : Sg} (h : Jp K H v (sg1 e)) : Dp K H v (sg1 e) := by
  unfold sg1 at h ⊢
  cases h with
  | tup hs ha =>
    cases ha with
    | cons a ha =>
      cases ha with
      | cons b ha =>
        cases ha
        cases a
        cases b
        exact .tup hs (.cons (.str _) (.cons (.int _) .nil))
theorem jp_sgs {K : PySem.W.Frag} {H : Hp} : ∀ {vs : List V} {sg : List Sg}, JpAll K H vs (sg.map sg1) → DpAll K H vs (sg.map sg1)
  | [], [], _ => .nil
  | [], _ :: _, h => nomatch h
  | _ :: _, [], h => nomatch h
  | v :: vs, e :: sg, h => by
    rw [List.map_cons] at h ⊢
    cases h with
    | cons a b => exact .cons (jp_sg1 a) (jp_sgs b)
/-- a thing that is to be signs: a tuple of it is a plain one -/
def JoAt (K : PySem.W.Frag) (H : Hp) (v : V) (d : PyData) : Prop := Jp K H v d ∧ ∀ its, d = .tuple its → ∃ a xs, v = .ref a ∧ PlT K H a xs ∧ JpAll K H xs its
theorem JoAt.sgs {K : PySem.W.Frag} {H : Hp} {v : V} {sg : List Sg} (h : JoAt K H v (sgsD sg)) : ∃ sa, v = .ref sa ∧ SgsAt K H sa sg := by
  obtain ⟨a, xs, e, p, j⟩ := h.2 _ rfl
  exact ⟨a, e, xs, p, jp_sgs j⟩
theorem JoAt.same {K : PySem.W.Frag} {H H' : Hp} {v : V} {d : PyData} (h : JoAt K H v d) (s : Same H H') : JoAt K H' v d :=
  ⟨Jp.same s d v h.1, fun its e => by
    obtain ⟨a, xs, e1, p, j⟩ := h.2 its e
    exact ⟨a, xs, e1, p.sm s, JpAll.same s _ _ j⟩⟩
/-- what a thing is wrong with an exception's dict: the heap behind C(v) -/
theorem bad_heap {H : Hp} {a dx C : Addr} {fs : List (Str × V)} (na : H a = none) (nd : upd H a (exo a C none) dx = none) (ne : dx ≠ a) :
    H dx = none ∧ Same H (upd (del (upd (upd (upd H a (exo a C none)) dx (exd dx fs)) a (exo a C (some dx))) a) dx (.xd fs)) := by
  have nd' : H dx = none := by rw [upd_ne ne] at nd; exact nd
  refine ⟨nd', fun b o h => ?_⟩
  have b1 : b ≠ dx := fun z => by rw [z, nd'] at h; cases h
  have b2 : b ≠ a := fun z => by rw [z, na] at h; cases h
  rw [upd_ne b1, del_ne b2, upd_ne b2, upd_ne b1, upd_ne b2]
  exact h
theorem cntsD_get : ∀ {ds : List PyData} {i : Nat} {d : PyData}, ds[i]? = some d → cntD d ≤ cntsD ds
  | [], _, _, h => by simp at h
  | x :: xs, 0, d, h => by
    have e : x = d := by simpa using h
    rw [cntsD, e]
    omega
  | x :: xs, i + 1, d, h => by
    have := cntsD_get (ds := xs) (i := i) (d := d) (by simpa using h)
    rw [cntsD]
    omega
theorem line_ln {pl : List (Str × Int)} {d : PyData} (h : lineD pl d = true) : ∃ l : Ln, d = lnD l := by
  unfold lineD at h
  split at h
  · rename_i a b
    rw [Bool.and_eq_true_iff] at h
    obtain ⟨t, rfl⟩ := fits_tm pl a h.1
    obtain ⟨u, rfl⟩ := fits_tm pl b h.2
    exact ⟨(t, u), rfl⟩
  · cases h
theorem lines_lns {pl : List (Str × Int)} : ∀ {its : List PyData}, (∀ (j : Nat) e, its[j]? = some e → lineD pl e = true) → ∃ ls : List Ln, its = ls.map lnD ∧ ∀ l ∈ ls, lineD pl (lnD l) = true
  | [], _ => ⟨[], rfl, fun l m => nomatch m⟩
  | d :: its, h => by
    have h0 := h 0 d rfl
    obtain ⟨l, rfl⟩ := line_ln h0
    obtain ⟨ls, rfl, h2⟩ := lines_lns (its := its) (fun j e z => h (j + 1) e (by simpa using z))
    refine ⟨l :: ls, rfl, fun x m => ?_⟩
    rcases List.mem_cons.mp m with z | z
    · rw [z]
      exact h0
    · exact h2 x z
theorem jp_ln {K : PySem.W.Frag} {H : Hp} {v : V} {l : Ln} (h : Jp K H v (lnD l)) : Dp K H v (lnD l) := by
  unfold lnD at h ⊢
  cases h with
  | tup hs ha =>
    cases ha with
    | cons a ha =>
      cases ha with
      | cons b ha =>
        cases ha
        exact .tup hs (.cons (Jp.dp _ _ a) (.cons (Jp.dp _ _ b) .nil))
theorem jp_lns {K : PySem.W.Frag} {H : Hp} : ∀ {vs : List V} {ls : List Ln}, JpAll K H vs (ls.map lnD) → DpAll K H vs (ls.map lnD)
  | [], [], _ => .nil
  | [], _ :: _, h => nomatch h
  | _ :: _, [], h => nomatch h
  | v :: vs, e :: ls, h => by
    rw [List.map_cons] at h ⊢
    cases h with
    | cons a b => exact .cons (jp_ln a) (jp_lns b)
theorem cntL_lns : ∀ ls : List Ln, cntL ls ≤ cntsD (ls.map lnD)
  | [] => Nat.le_refl _
  | l :: ls => by
    have := cntL_lns ls
    have a := cnt_data l.1
    have b := cnt_data l.2
    rw [cntL, List.map_cons, cntsD, lnD, cntD, cntsD, cntsD, cntsD, a, b]
    omega
section
variable {X : Cx}
/-- repr of an int, a text, None -/
theorem call_reprN : CallR X (.builtin "repr") (fun xs H Q => ((∃ i, xs = [.int i] ∧ i.natAbs.log2 < 1920 ∧ Q (.str (toString i)) H) ∨ ∃ a, xs = [.str a] ∧ (reprText a).length ≤ sizeLine ∧ Q (.str (reprText a)) H) ∨ xs = [.non] ∧ Q (.str "None") H) := by
  intro pins s σ H xs us Q I r h
  rcases h with h | ⟨rfl, q⟩
  · exact call_reprS pins s σ H xs us Q I r h
  · obtain ⟨u, rfl, ru⟩ := vals1 r
    cases ru
    exact PySem.P.repr_of_none ⟨.str _, H, I.tok _, ⟨_, rfl⟩, q⟩
end
end NB

/-! signs that are right, however many -/
namespace NB
open PySem PySem.Spec PyProof.Rows L2 LamX
structure SgFit (sg : List Sg) : Prop where
  shaped : SeqAt.shaped (sgsD sg) = true
  look : ∀ e ∈ sg, lookS sg.reverse e.1 = some e.2
theorem SgOk.fit {sg : List Sg} (o : SgOk sg) : SgFit sg := ⟨o.shaped, fun e h => (o.each e h).1⟩
theorem sgF_fit {sg : List Sg} (o : SgFit sg) (s : Str) (n : Int) : (sg.any fun e => decide (e.1 = s) && decide (e.2 = n)) = okPl (lookS sg.reverse s) n := by
  cases h : lookS sg.reverse s with
  | some m =>
    have hm := List.mem_reverse.mp (lookS_mem h)
    show _ = decide (n = m)
    by_cases e : n = m
    · rw [decide_eq_true e]
      exact List.any_eq_true.mpr ⟨(s, m), hm, by rw [decide_eq_true rfl, decide_eq_true e.symm]; rfl⟩
    · rw [decide_eq_false e]
      refine Bool.eq_false_iff.mpr fun z => ?_
      obtain ⟨y, h1, h2⟩ := List.any_eq_true.mp z
      obtain ⟨h3, h4⟩ := Bool.and_eq_true_iff.mp h2
      have h5 := o.look y h1
      rw [of_decide_eq_true h3, h, of_decide_eq_true h4] at h5
      exact e (Option.some.inj h5).symm
  | none =>
    refine Bool.eq_false_iff.mpr fun z => ?_
    obtain ⟨y, h1, h2⟩ := List.any_eq_true.mp z
    obtain ⟨h3, h4⟩ := Bool.and_eq_true_iff.mp h2
    have h5 := o.look y h1
    rw [of_decide_eq_true h3, h] at h5
    cases h5
theorem lookS_nd : ∀ {pl : List (Str × Int)}, pl.Pairwise (fun a b => a.1 ≠ b.1) → ∀ e ∈ pl, lookS pl e.1 = some e.2
  | [], _, e, m => nomatch m
  | a :: pl, h, e, m => by
    rw [List.pairwise_cons] at h
    unfold lookS
    rcases List.mem_cons.mp m with z | z
    · rw [z, List.find?_cons, decide_eq_true rfl]
      rfl
    · have hne := h.1 e z
      rw [List.find?_cons, decide_eq_false hne]
      exact lookS_nd h.2 e z
theorem strLt_trans {a b c : Str} (h : strLt a b = true) (g : strLt b c = true) : strLt a c = true := by
  unfold strLt at h g ⊢
  exact decide_eq_true (List.lt_trans (of_decide_eq_true h) (of_decide_eq_true g))
theorem strLt_ne {a b : Str} (h : strLt a b = true) : a ≠ b := fun z => by
  unfold strLt at h
  rw [z] at h
  exact List.lt_irrefl _ (of_decide_eq_true h)
theorem asc_far {l : List Str} (h : ascS l = true) : ∀ d i, i + d + 1 < l.length → strLt (l.getD i "") (l.getD (i + d + 1) "") = true := by
  have adj : ∀ k, k + 1 < l.length → strLt (l.getD k "") (l.getD (k + 1) "") = true := fun k hk => by
    unfold ascS at h
    rw [List.all_eq_true] at h
    exact h k (List.mem_range.mpr (by omega))
  intro d
  induction d with
  | zero => exact fun i hi => adj i hi
  | succ d ih =>
    intro i hi
    exact strLt_trans (ih i (by omega)) (adj (i + d + 1) (by omega))
theorem asc_pair {l : List Str} (h : ascS l = true) : l.Pairwise (fun a b => a ≠ b) := by
  rw [List.pairwise_iff_getElem]
  intro i j hi hj hij
  have e : j = i + (j - i - 1) + 1 := by omega
  have := asc_far h (j - i - 1) i (by omega)
  rw [← e] at this
  have a1 : l.getD i "" = l[i] := by simp [hi]
  have a2 : l.getD j "" = l[j] := by simp [hj]
  rw [a1, a2] at this
  exact strLt_ne this
theorem sgD_sg1 : ∀ sg : List Sg, (sg.map sg1).map sgD = sg.map (·.1)
  | [] => rfl
  | e :: sg => by rw [List.map_cons, List.map_cons, List.map_cons, sgD_sg1 sg]; rfl
theorem signs_parts {sg : List Sg} (h : signsD (sgsD sg) = true) : sg.length ≤ 12 ∧ (sg.map sg1).all placedD = true ∧ ascS (sg.map (·.1)) = true := by
  unfold signsD at h
  rw [Bool.and_eq_true_iff, Bool.and_eq_true_iff, Bool.and_eq_true_iff, Bool.and_eq_true_iff, Bool.and_eq_true_iff] at h
  obtain ⟨_, ⟨_, h1⟩, h2, h3, _⟩ := h
  have h1' := of_decide_eq_true h1
  refine ⟨by simpa [sgsD, itemsD] using h1', h2, ?_⟩
  rw [← sgD_sg1]
  exact h3
theorem look_of {sg : List Sg} (h : signsD (sgsD sg) = true) : ∀ e ∈ sg, lookS sg.reverse e.1 = some e.2 := fun e m => by
  have p := asc_pair (signs_parts h).2.2
  rw [List.pairwise_map] at p
  refine lookS_nd ?_ e (List.mem_reverse.mpr m)
  rw [List.pairwise_reverse]
  exact p.imp fun z y => z y.symm
theorem letters_low : ∀ c ∈ lettersZ.cps.toList, c < 0x110000 := by decide +kernel
theorem signS_ok {x : Str} (h : signS x = true) : PyData.strOk x = true := by
  unfold signS at h
  rw [Bool.and_eq_true_iff, Bool.and_eq_true_iff, List.all_eq_true] at h
  unfold PyData.strOk
  rw [← Array.all_toList, List.all_eq_true]
  exact fun c m => decide_eq_true (letters_low c (of_decide_eq_true (h.2.2 c m)))
theorem placed_lay : ∀ sg : List Sg, (sg.map sg1).all placedD = true → PyData.canLayAll0 (sg.map sg1) = true ∧ PyData.depthAll (sg.map sg1) ≤ 1
  | [], _ => by rw [List.map_nil, PyData.canLayAll0, PyData.depthAll]; exact ⟨rfl, by omega⟩
  | e :: sg, h => by
    rw [List.map_cons, List.all_cons, Bool.and_eq_true_iff] at h
    obtain ⟨h1, h2⟩ := placed_lay sg h.2
    have h3 := h.1
    unfold sg1 placedD at h3
    rw [Bool.and_eq_true_iff] at h3
    have h4 : signS e.1 = true := h3.1
    rw [List.map_cons, PyData.canLayAll0, PyData.depthAll, h1, sg1, PyData.canLay0, PyData.canLayAll0, PyData.canLayAll0, PyData.canLayAll0, PyData.canLay0, PyData.canLay0, signS_ok h4, PyData.depth, PyData.depthAll, PyData.depthAll, PyData.depthAll, PyData.depth, PyData.depth]
    exact ⟨rfl, by omega⟩
theorem SgFit.of {sg : List Sg} (h : signsD (sgsD sg) = true) : SgFit sg := by
  obtain ⟨h1, h2⟩ := placed_lay sg (signs_parts h).2.1
  refine ⟨?_, look_of h⟩
  unfold SeqAt.shaped
  rw [sgsD, PyData.canLay0, h1, PyData.depth, decide_eq_true (by omega)]
  rfl
section
variable {X : Cx}
/-- x not in t, t a tuple, data of any depth -/
def rNotInT (K : PySem.W.Frag) : R2 := fun x y H Q => ∃ d ds, Dp K H x d ∧ Dp K H y (.tuple ds) ∧ SeqAt.shaped d = true ∧ SeqAt.shaped (.tuple ds) = true ∧ Q (.bl (!(ds.any fun z => PyData.eqv z d))) H
theorem op_notInT (hu : X.A.units + 65 < cLine) : OpR X (compareOp .NotIn) (rNotInT X.K) := by
  intro pins s σ H x y v u Q I rx ry h
  obtain ⟨d, ds, hd, he, sd, se, q⟩ := h
  obtain ⟨as, r1⟩ := Dp.reads I d x v hd rx
  obtain ⟨bs, r2⟩ := Dp.reads I (.tuple ds) y u he ry
  exact SeqAt.notIn_tuple_reads r2 r1 (SeqAt.canLay_of_shaped se) (SeqAt.canLay_of_shaped sd) (room_in_shaped sd hu) ⟨.bl _, H, I, rfl, q⟩
end
theorem ret_open {te : TE} {D : Ends} {σ : L2.St} {H : Hp} (h : te σ H D.rt) : tRet te D σ H := h
theorem op_open {r : R2} {ta tb : TE} {σ : L2.St} {H : Hp} {Q : VK} (h : ta σ H fun x H1 => tb σ H1 fun y H2 => r x y H2 Q) : tOp r ta tb σ H Q := h
theorem GA.lstN {K : PySem.W.Frag} {O : List Addr} {H1 : Hp} {σ : L2.St} {c e n : Nat} {ts : TA} (h : GA K O H1 σ c e n ts) (hn : n ≤ 100000) {H : Hp} {Q : VK} (s : Same H1 H) (q : ∀ H' vs p, Same H H' → GdAll K O c e H' vs → vs.length = n → H' p = some (.lst vs) → H p = none → Q (.ref p) H') : tLst ts σ H Q :=
  h H _ s fun H2 vs s2 g2 l2 => by
    have hzl : 100000 < sizeLine := by decide
    refine ⟨by omega, fun p np => q _ _ _ (s2.trans (same_new np)) (g2.same (same_new np)) l2 upd_same ?_⟩
    cases z : H p with
    | none => rfl
    | some o =>
      have := s2 _ _ z
      rw [np] at this
      cases this
end NB

/-! sets of keys of one kind: made of a list or tuple, counted, sorted -/
namespace NB
open PySem PySem.Spec PyProof.Rows L2
/-- what a value is as a key of a kind -/
structure KF {P : Program} {w : World} {κ : Type} [DecidableEq κ] (knd : KeyKind P w κ) where
  kf : Value → κ
  eq : ∀ k v, knd.is k v = true → kf v = k
def kfStr (P : Program) (w : World) : KF (strKind P w) := ⟨fun v => match v with | .str x _ => x | _ => "", fun k v h => by
  obtain ⟨t, rfl⟩ := Value.isStrOf_shape h
  rfl⟩
def kfInt (P : Program) (w : World) : KF (intKind P w) := ⟨fun v => match v with | .int x _ => x | _ => 0, fun k v h => by
  obtain ⟨t, rfl⟩ := Value.isInt_shape h
  rfl⟩
/-- the list without what stands ahead -/
def adds {κ : Type} [DecidableEq κ] (L : List κ) (k : κ) : List κ := if k ∈ L then L else L ++ [k]
def oncesL {κ : Type} [DecidableEq κ] (xs : List κ) : List κ := xs.foldl adds []
section
variable {P : Program} {w : World} {κ : Type} [DecidableEq κ] {knd : KeyKind P w κ} (f : KF knd)
theorem mem_adds {L : List κ} {k j : κ} : j ∈ adds L k ↔ j ∈ L ∨ j = k := by
  unfold adds
  split
  · rename_i h
    exact ⟨.inl, fun z => z.elim id fun e => by rw [e]; exact h⟩
  · rw [List.mem_append, List.mem_singleton]
theorem mem_addsAll {xs : List κ} : ∀ {L : List κ} {j : κ}, j ∈ xs.foldl adds L ↔ j ∈ L ∨ j ∈ xs := by
  induction xs with
  | nil => intro L j; simp
  | cons x xs ih => intro L j; rw [List.foldl_cons, ih, mem_adds, List.mem_cons, or_assoc]
theorem mem_onces {xs : List κ} {j : κ} : j ∈ oncesL xs ↔ j ∈ xs := by
  unfold oncesL
  rw [mem_addsAll]
  simp
theorem nodup_adds {L : List κ} {k : κ} (h : L.Nodup) : (adds L k).Nodup := by
  unfold adds
  split
  · exact h
  · rename_i n
    rw [List.nodup_append]
    exact ⟨h, by simp, fun x hx y hy e => n (by rw [← List.mem_singleton.mp hy, ← e]; exact hx)⟩
theorem nodup_addsAll {xs : List κ} : ∀ {L : List κ}, L.Nodup → (xs.foldl adds L).Nodup := by
  induction xs with
  | nil => intro L h; exact h
  | cons x xs ih => intro L h; rw [List.foldl_cons]; exact ih (nodup_adds h)
theorem nodup_onces (xs : List κ) : (oncesL xs).Nodup := nodup_addsAll List.nodup_nil
theorem len_adds (L : List κ) (k : κ) : (adds L k).length ≤ L.length + 1 ∧ L.length ≤ (adds L k).length := by
  unfold adds
  split
  · omega
  · rw [List.length_append]
    simp
theorem len_addsAll {xs : List κ} : ∀ {L : List κ}, (xs.foldl adds L).length ≤ L.length + xs.length := by
  induction xs with
  | nil => intro L; exact Nat.le_refl _
  | cons x xs ih =>
    intro L
    rw [List.foldl_cons, List.length_cons]
    have := ih (L := adds L x)
    have := (len_adds L x).1
    omega
theorem len_onces (xs : List κ) : (oncesL xs).length ≤ xs.length := by
  have := len_addsAll (xs := xs) (L := [])
  rw [List.length_nil, Nat.zero_add] at this
  exact this
theorem onces_nodup {xs : List κ} : ∀ {L : List κ}, (L ++ xs).Nodup → xs.foldl adds L = L ++ xs := by
  induction xs with
  | nil => intro L _; rw [List.append_nil]; rfl
  | cons x xs ih =>
    intro L h
    have hx : x ∉ L := fun z => (List.nodup_append.mp h).2.2 x z x (List.mem_cons_self ..) rfl
    have e : adds L x = L ++ [x] := by unfold adds; rw [if_neg hx]
    rw [List.foldl_cons, e, ih (by rw [List.append_assoc]; exact h), List.append_assoc]
    rfl
/-- as many as before just if none stands twice -/
theorem onces_len {xs : List κ} : (oncesL xs).length = xs.length ↔ xs.Nodup := by
  constructor
  · have key : ∀ (xs L : List κ), L.Nodup → (xs.foldl adds L).length = L.length + xs.length → (L ++ xs).Nodup := by
      intro xs
      induction xs with
      | nil => intro L h _; rw [List.append_nil]; exact h
      | cons x xs ih =>
        intro L h e
        rw [List.foldl_cons, List.length_cons] at e
        have h1 := len_addsAll (xs := xs) (L := adds L x)
        have hx : x ∉ L := fun z => by
          have e1 : adds L x = L := by unfold adds; rw [if_pos z]
          rw [e1] at h1 e
          omega
        have e1 : adds L x = L ++ [x] := by unfold adds; rw [if_neg hx]
        have h2 := ih (adds L x) (nodup_adds h) (by rw [e, e1, List.length_append, List.length_singleton]; omega)
        rw [e1, List.append_assoc] at h2
        exact h2
    exact fun e => key xs [] List.nodup_nil (by rw [List.length_nil, Nat.zero_add]; exact e)
  · intro h
    have := onces_nodup (xs := xs) (L := []) h
    unfold oncesL
    rw [this]
    rfl
def kysOf (es : Array (Int × Value)) : List κ := es.toList.map fun e => f.kf e.2
/-- the set at a: its keys are those of L, in some order; it can be walked -/
def SX (h : Heap) (a : Addr) (L : List κ) : Prop :=
  ∃ o es ep t, h.get? a = some o ∧ o.ExactSet ∧ o.data = .set es ep t ∧ ElemsOf knd es.toList ∧ (kysOf f es).Perm L ∧ L.Nodup ∧ es.size < scanBound ∧ t.fits es.size = true ∧ Ris t.place.toList ∧ (w.params.followText "set-order" = true ∨ t.led = true)
variable {f}
theorem SX.at {h h' : Heap} {a : Addr} {L : List κ} (R : SX f h a L) (k : ∀ o, h.get? a = some o → h'.get? a = some o) : SX f h' a L := by
  obtain ⟨o, es, ep, t, ho, r⟩ := R
  exact ⟨o, es, ep, t, k o ho, r⟩
theorem kf_is {e : Int × Value} {es : List (Int × Value)} (g : ElemsOf knd es) (he : e ∈ es) (k : κ) : knd.is k e.2 = true ↔ f.kf e.2 = k := by
  obtain ⟨⟨k0, h1, _⟩, _⟩ := g e he
  rw [f.eq k0 _ h1, KeyKind.is_eq_decide h1 k, decide_eq_true_eq]
  exact eq_comm
theorem kys_mem {es : Array (Int × Value)} (g : ElemsOf knd es.toList) (k : κ) : k ∈ kysOf f es ↔ ∃ e ∈ es.toList, knd.is k e.2 = true := by
  unfold kysOf
  rw [List.mem_map]
  constructor
  · rintro ⟨e, he, q⟩
    exact ⟨e, he, (kf_is g he k).2 q⟩
  · rintro ⟨e, he, q⟩
    exact ⟨e, he, (kf_is g he k).1 q⟩
theorem kys_len (es : Array (Int × Value)) : (kysOf f es).length = es.size := by
  unfold kysOf
  rw [List.length_map, Array.length_toList]
theorem SX.setOf {h : Heap} {a : Addr} {L : List κ} (R : SX f h a L) : h.SetOf knd a (fun k => decide (k ∈ L)) L.length := by
  obtain ⟨o, es, ep, t, ho, hx, hd, g, pm, _, hb, hf, _⟩ := R
  exact ⟨o, es, ep, t, ho, hx, hd, g, fun k => by rw [decide_eq_true_eq, ← pm.mem_iff]; exact kys_mem g k, hb, hf, by rw [← pm.length_eq, kys_len]⟩
theorem SX.fresh {h : Heap} {a : Addr} (ho : h.get? a = some { cls := .type "set", dict := none, data := .set #[] 0 (.fresh 0 0 (!w.params.followText "set-order")) }) : SX f h a [] := by
  refine ⟨_, #[], 0, _, ho, ⟨rfl, rfl, rfl⟩, rfl, (fun e he => by simp at he), ?_, List.nodup_nil, (by decide), (by rfl), List.Pairwise.nil, ?_⟩
  · show List.Perm [] []
    exact .nil
  · show _ ∨ (!w.params.followText "set-order") = true
    cases w.params.followText "set-order" <;> simp
variable {A : Around} {E : Value → Shared → Prop} {s : Shared} {a : Addr} {L : List κ}
theorem put_at {h : Heap} {o : Obj} {es es' : Array (Int × Value)} {ep : Nat} {t t' : SetTable} (ho : h.get? a = some o) (hd : o.data = .set es ep t) : (h.update a (Obj.putSet es' t')).get? a = some { o with data := .set es' (ep + 1) t' } := L2.store_at ho hd
/-- what stands behind a new key: the table is written, and laid anew if it is too full -/
theorem sx_tail {g : Bool → Sem Unit} {o : Obj} {es es1 : Array (Int × Value)} {ep : Nat} {t t2 : SetTable} {L' : List κ} {wasDummy : Bool} {R : Option Bool → Shared → Prop}
    (hg : ∀ (b : Bool) (s1 : Shared) (Q' : Unit → Shared → Prop), Q' () s1 → wpAny (model P w) A (g b) Q' E s1) (ho : s.heap.get? a = some o) (hex : o.ExactSet) (hd : o.data = .set es ep t)
    (g1 : ElemsOf knd es1.toList) (pm1 : (kysOf f es1).Perm L') (nd1 : L'.Nodup) (hb1 : es1.size < scanBound) (hf2 : t2.fits es1.size = true) (hr : Ris t2.place.toList) (hl : w.params.followText "set-order" = true ∨ t2.led = true)
    (hR : ∀ h', Heap.SameBut a s.heap h' → SX f h' a L' → R (some true) { s with heap := h' }) :
    wpAny (model P w) A (do storeSet a es1 t2; if (!wasDummy && t2.tooFull) = true then (do g (relayAll t2 es1 (SetTable.grown es1.size)).2.2; storeSet a (relayAll t2 es1 (SetTable.grown es1.size)).1 (relayAll t2 es1 (SetTable.grown es1.size)).2.1; pure (some true)) else pure (some true)) R E s := by
  have ho1 := put_at (es' := es1) (t' := t2) ho hd
  have sb1 := Heap.SameBut.update s.heap a (Obj.putSet es1 t2)
  refine wpAny_bind (wpAny_storeSet_of ho hd ?_ (fits_of_scanBound hb1))
  by_cases c : (!wasDummy && t2.tooFull) = true
  · refine L2.wp_if_pos c ?_
    have pm := relayAll_perm t2 es1 (SetTable.grown es1.size)
    have hf3 := relayAll_fits t2 es1 (SetTable.grown es1.size)
    have hr3 := relayAll_ris t2 es1 (SetTable.grown es1.size)
    have hl3 := relayAll_led t2 es1 (SetTable.grown es1.size)
    generalize relayAll t2 es1 (SetTable.grown es1.size) = Z at pm hf3 hr3 hl3 ⊢
    obtain ⟨es2, t3, gave⟩ := Z
    dsimp only at pm hf3 hr3 hl3 ⊢
    have hsz : es2.size = es1.size := by
      have := pm.length_eq
      simpa using this
    have hb2 : es2.size < scanBound := by omega
    refine wpAny_bind (hg _ _ _ (wpAny_bind (wpAny_storeSet_of ho1 rfl ?_ (fits_of_scanBound hb2))))
    refine wpAny_pure (hR _ (sb1.trans (Heap.SameBut.update _ a _)) ⟨_, es2, _, t3, put_at (es' := es2) (t' := t3) ho1 rfl, hex, rfl, fun e he => g1 e (pm.mem_iff.mp he), (pm.map _).trans pm1, nd1, hb2, hf3, hr3, ?_⟩)
    rcases hl with hl | hl
    · exact .inl hl
    · exact .inr (hl3.trans hl)
  · exact L2.wp_if_neg c (wpAny_pure (hR _ sb1 ⟨_, es1, _, t2, ho1, hex, rfl, g1, pm1, nd1, hb1, hf2, hr, hl⟩))
theorem sx_add {k : κ} {x : Value} {Q : Bool → Shared → Prop} (hk : knd.is k x = true) (hsc : x.scannable = true) (R : SX f s.heap a L) (room : L.length + 1 < scanBound)
    (hQ : ∀ h', Heap.SameBut a s.heap h' → SX f h' a (adds L k) → Q (decide (k ∉ L)) { s with heap := h' }) : wpAny (model P w) A (setAddHashed a x (knd.hash k)) Q E s := by
  obtain ⟨o, es, ep, t, ho, hex, hd, g, pm, nd, hb, hf, hr, hl⟩ := R
  have hn : es.size = L.length := by rw [← pm.length_eq, kys_len]
  unfold setAddHashed setAddHashedIn
  refine wpAny_holding (wpAny_bind (wpAny_setState_of ho hd hf ?_))
  dsimp only
  rw [byScan_of hsc hb g]
  simp only [↓reduceIte]
  unfold setAddByScan
  refine wpAny_bind (wpAny_bind (wpAny_rule (wpAny_bind (wpAny_setScan_of hk ho hd hf g ?_))))
  cases hfi : List.findIdx? (fun e => knd.is k e.2) es.toList with
  | some j =>
    dsimp only
    obtain ⟨hj, pj, _⟩ := List.findIdx?_eq_some_iff_getElem.mp hfi
    have hkL : k ∈ L := pm.mem_iff.mp ((kys_mem g k).2 ⟨es.toList[j], List.getElem_mem hj, pj⟩)
    have q := hQ s.heap (Heap.SameBut.refl a s.heap) ⟨o, es, ep, t, ho, hex, hd, g, by unfold adds; rw [if_pos hkL]; exact pm, nodup_adds nd, hb, hf, hr, hl⟩
    rw [decide_eq_false (fun z => z hkL)] at q
    exact wpAny_pure (wpAny_pure q)
  | none =>
    dsimp only
    have hnL : k ∉ L := fun z => by
      obtain ⟨e, he, q⟩ := (kys_mem g k).1 (pm.mem_iff.mpr z)
      have c := List.findIdx?_eq_none_iff.mp hfi e he
      rw [q] at c
      cases c
    have eL : adds L k = L ++ [k] := by unfold adds; rw [if_neg hnL]
    rw [eL, decide_eq_true hnL] at hQ
    have pmN := layNew_perm t es (knd.hash k) x
    have hf1 := layNew_fits t es (knd.hash k) x
    have hr1 := L2.layNew_ris t es (knd.hash k) x hr
    have hl1 := L2.layNew_led t es (knd.hash k) x
    generalize layNew t es (knd.hash k) x = Z at pmN hf1 hr1 hl1 ⊢
    obtain ⟨es1, t1, wasDummy, gave⟩ := Z
    dsimp only at pmN hf1 hr1 hl1 ⊢
    rw [Array.toList_push] at pmN
    have pc : es1.toList.Perm ((knd.hash k, x) :: es.toList) := pmN.trans (List.perm_append_singleton _ _)
    have g1 : ElemsOf knd es1.toList := fun e he => by
      rcases List.mem_cons.mp (pc.mem_iff.mp he) with z | z
      · rw [z]
        exact ⟨⟨k, hk, rfl⟩, hsc⟩
      · exact g e z
    have pm1 : (kysOf f es1).Perm (L ++ [k]) := by
      have q := pc.map fun e => f.kf e.2
      rw [List.map_cons, f.eq k x hk] at q
      exact q.trans ((pm.cons k).trans (List.perm_append_singleton _ _).symm)
    have nd1 : (L ++ [k]).Nodup := by rw [← eL]; exact nodup_adds nd
    have hsz : es1.size = L.length + 1 := by
      have := pc.length_eq
      rw [List.length_cons, Array.length_toList, Array.length_toList] at this
      omega
    have hb1 : es1.size < scanBound := by omega
    have hled : w.params.followText "set-order" = true ∨ t1.led = true := by
      rcases hl with hl | hl
      · exact .inl hl
      · exact .inr (hl1.trans hl)
    have hgw : ∀ (b : Bool) {s1 : Shared} {Q' : Unit → Shared → Prop}, Q' () s1 → wpAny (model P w) A (match b with | true => rule "set.scan.the-table-gave-way" | false => pure ()) Q' E s1 := fun b _ _ q => by
      cases b
      · exact wpAny_pure q
      · exact wpAny_rule q
    refine wpAny_bind (hgw _ ?_)
    have fin : ∀ h', Heap.SameBut a s.heap h' → SX f h' a (L ++ [k]) → Q true { s with heap := h' } := hQ
    split
    · refine wpAny_bind ?_
      rw [hashByValue_scannable 8 hsc]
      refine wpAny_pure (sx_tail (f := f) (fun b s1 Q' q => by cases b <;> first | exact wpAny_pure q | exact wpAny_rule q) ho hex hd g1 pm1 nd1 hb1 ?_ ?_ ?_ fun h' sb r => by dsimp only; exact wpAny_pure (fin h' sb r))
      · first | (split <;> first | exact hf1 | exact SetTable.fits_plain_off hf1) | exact hf1
      · first | (split <;> exact hr1) | exact hr1
      · first | (split <;> exact hled) | exact hled
    · refine wpAny_bind (wpAny_pure ?_)
      simp only [↓reduceIte]
      exact sx_tail (f := f) (fun b s1 Q' q => by cases b <;> first | exact wpAny_pure q | exact wpAny_rule q) ho hex hd g1 pm1 nd1 hb1 hf1 hr1 hled fun h' sb r => by dsimp only; exact wpAny_pure (fin h' sb r)
end
end NB

namespace NB
open PySem PySem.Spec PyProof.Rows L2
theorem adds_take {κ : Type} [DecidableEq κ] {ks : List κ} {i : Nat} {k : κ} (h : ks[i]? = some k) : oncesL (ks.take (i + 1)) = adds (oncesL (ks.take i)) k := by
  unfold oncesL
  rw [List.take_add_one, h, List.foldl_append]
  rfl
theorem LM2 {α : Type} {b c d : α} (h : b ∈ [c, d]) : b = c ∨ b = d := by simpa using h
section
variable {P : Program} {w : World} {κ : Type} [DecidableEq κ] {knd : KeyKind P w κ} {f : KF knd} {A : Around} {E : Value → Shared → Prop} {s : Shared}
/-- the loop that puts in what is walked -/
theorem sx_loop {I S : Addr} {fp wr : List Addr} {G : Array GenState → Array GenState → Prop} {n : Nat} {Pv : Nat → Value → Prop} {St : Nat → Shared → Prop} {R : Result → Shared → Prop} (W : WalksS P w A.in1 I fp wr G n Pv St)
    (hSf : S ∉ fp) (ks : List κ) (hn : n = ks.length) (hb : ks.length + 1 < scanBound) (hval : ∀ i v, Pv i v → ∃ k, ks[i]? = some k ∧ knd.is k v = true ∧ v.scannable = true) :
    ∀ (m i : Nat) (s : Shared), n - i = m → i ≤ n → St i s → SX f s.heap S (oncesL (ks.take i)) → (∀ s', Moved (S :: wr) G s s' → SX f s'.heap S (oncesL ks) → R (.ok (.ret .none)) s') → codeAny (model P w) A (.builtin "set.update.loop" ⟨[.ref S, .ref I], []⟩) R s := by
  have hSw : S ∉ wr := fun h => hSf (W.sub _ h)
  have hsub : ∀ b ∈ wr, b ∈ S :: wr := fun b hb => List.mem_cons_of_mem _ hb
  intro m
  induction m with
  | zero =>
    intro i s hk' hi hst hS hR
    obtain rfl : i = n := by omega
    refine codeAny_builtin F.entry_set_update_loop ?_
    rw [Around.under_plainId F.plain_set_update_loop _, show ks.take i = ks from List.take_of_length_le (by omega)] at *
    show wpAny _ A.in1 (pyNext (.ref I) >>= _) _ _ s
    refine wpAny_bind (W.done s _ _ hst fun s' hm => ?_)
    show wpAny _ A.in1 (ret Value.none) _ _ s'
    exact wpAny_pure (hR s' (hm.mono hsub) (hS.at fun o e => hm.heap S o hSw e))
  | succ m ih =>
    intro i s hk' hi hst hS hR
    have hlt : i < n := by omega
    refine codeAny_builtin F.entry_set_update_loop ?_
    rw [Around.under_plainId F.plain_set_update_loop _]
    show wpAny _ A.in1 (pyNext (.ref I) >>= _) _ _ s
    refine wpAny_bind (W.item i s _ _ hlt hst fun v s' hP hst' hm => ?_)
    obtain ⟨k, hk, his, hsc⟩ := hval i v hP
    have hl := len_onces (ks.take i)
    rw [List.length_take] at hl
    show wpAny _ A.in1 (holding [v] (setAdd S v) >>= _) _ _ s'
    refine wpAny_bind (wpAny_holding ?_)
    unfold setAdd
    refine wpAny_holding (wpAny_bind (knd.pyHash his ?_))
    refine sx_add (f := f) (s := { s' with toks := s'.toks + 1 }) his hsc (hS.at fun o e => hm.heap S o hSw e) (by omega) fun h' hsb hS2 => ?_
    rw [← adds_take hk] at hS2
    refine wpAny_pure ⟨plainId_quiet F.plain_set_update_loop _, ih (i + 1) _ (by omega) hlt (W.frame _ s' _ _ hst' (Nat.le_succ _) fun b hb o e => ?_) hS2 fun s2 hm2 hS3 => ?_⟩
    · rw [hsb.2 b fun h : b = S => hSf (by rw [← h]; exact hb)]
      exact e
    · refine hR s2 (Moved.trans W.gtrans ((hm.mono hsub).then_heap (Nat.le_succ _) fun b o hb e => ?_) hm2) hS3
      rw [hsb.2 b fun h : b = S => hb (by rw [h]; exact List.mem_cons_self)]
      exact e
/-- the new set's object -/
abbrev newSet (w : World) : Obj := { cls := .type "set", dict := none, data := .set #[] 0 (.fresh 0 0 (!w.params.followText "set-order")) }
/-- set(p): what the new set's own __init__ leaves -/
theorem call_set1 {p : Addr} {Φ : Heap → Prop} {Q : Value → Shared → Prop}
    (hin : ∀ (A' A2 : Around) (R : Result → Shared → Prop), A'.handled = A.handled → (∀ h' tk, Φ h' → R (.ok (.ret .none)) { s with heap := h', toks := tk }) →
      wpAny (model P w) A' (Builtin.«set.__init__» ⟨[.ref s.heap.objs.size, .ref p], []⟩) (fun fin s' => match fin with | .done g => R (.ok g) s' | .again c' => c'.quiet = true ∧ codeAny (model P w) A2 c' R s') (fun e s' => R (.error e) s') { s with heap := s.heap.push (newSet w) })
    (h : ∀ (h' : Heap) (tk : Nat), Φ h' → Q (.ref s.heap.objs.size) { s with heap := h', toks := tk }) : wpAny (model P w) A (call (.type "set") [.ref p]) Q E s := by
  obtain ⟨c, tl, hmro⟩ := F.called_set.mro
  have hmade := F.called_set.made
  have hsub := F.called_set.sub
  refine wpAny_call (codeAny_of_tree ?_)
  show wpAny _ _ (callAny (.type "set") _) _ _ _
  refine wpAny_pure ⟨Code.quiet_builtin _ (by decide +kernel), codeAny_builtin F.entry_type_call ?_⟩
  rw [Around.under_plain (weight_type_call_type "set" [.ref p] []) rfl]
  have h1 := F.called_set.notType
  have h2 := F.called_set.canCreate
  have hct := F.typeCall_set_1 (.ref p)
  repeat (any_goals (first | assumption | wp_step))
  refine codeAny_mono (L2.code_set_led1 (.ref p) (E := E) (Q₁ := fun obj s1 => obj = .ref s.heap.objs.size ∧ s1 = { s with heap := s.heap.push (newSet w) }) ⟨rfl, rfl⟩) fun r s1 hr => ?_
  cases r with
  | error e => exact hr
  | ok fl =>
    cases fl with
    | ret obj =>
      obtain ⟨rfl, rfl⟩ := hr
      have hS : (s.heap.push (newSet w)).get? s.heap.objs.size = some (newSet w) := Heap.get?_push_size _ rfl
      have hT : Shared.TypeIs { s with heap := s.heap.push (newSet w) } (.ref s.heap.objs.size) "set" := ⟨_, hS, rfl⟩
      have hli := F.called_set.init.lookup
      have hbi := F.called_set.init.bind (.ref s.heap.objs.size)
      repeat (any_goals (first | assumption | wp_step))
      refine codeAny_mono (codeAny_call_builtin (R := wants (fun r s2 => r = .none ∧ ∃ h' tk, s2 = { s with heap := h', toks := tk } ∧ Φ h') E) F.called_set.init.plain F.entry_set_init (check_set_init_1 hT (hin _ _ _ rfl fun h' tk hp => ⟨rfl, h', tk, rfl, hp⟩))) fun r2 s2 hr2 => ?_
      cases r2 with
      | error e => exact hr2
      | ok fl2 =>
        cases fl2 with
        | ret r =>
          obtain ⟨rfl, h', tk, rfl, hS'⟩ := hr2
          repeat (any_goals (first | assumption | wp_step))
          exact h _ _ hS'
        | _ => exact hr2.elim
    | _ => exact hr.elim
theorem call_setL {p : Addr} {items : Array Value} (ks : List κ) {Q : Value → Shared → Prop} (hh : A.handled = none) (hl : s.heap.IsList p items) (hsz : items.size = ks.length) (hb : ks.length + 1 < scanBound)
    (hval : ∀ (i : Nat) (v : Value), items[i]? = some v → ∃ k, ks[i]? = some k ∧ knd.is k v = true ∧ v.scannable = true)
    (h : ∀ (h' : Heap) (tk : Nat), SX f h' s.heap.objs.size (oncesL ks) ∧ (∀ b o, s.heap.get? b = some o → h'.get? b = some o) → Q (.ref s.heap.objs.size) { s with heap := h', toks := tk }) : wpAny (model P w) A (call (.type "set") [.ref p]) Q E s := by
  refine call_set1 (fun A' A2 R hA hR => ?_) h
  obtain ⟨⟨ocls, odict, odata, oslots⟩, hol, hcl, nl, hdl⟩ := hl
  simp only at hcl hdl
  subst hcl hdl
  have hS : (s.heap.push (newSet w)).get? s.heap.objs.size = some (newSet w) := Heap.get?_push_size _ rfl
  have hT : Shared.TypeIs { s with heap := s.heap.push (newSet w) } (.ref s.heap.objs.size) "set" := ⟨_, hS, rfl⟩
  have hol' : (s.heap.push (newSet w)).get? p = some { cls := .type "list", dict := odict, data := .seq items nl, slots := oslots } := Heap.get?_push_of_some _ hol
  have hsls := F.sub_list_set
  have hslf := F.sub_list_frozenset
  have hne : (Value.type "list" == Value.type "dict") = false := by decide
  have hl1 : (s.heap.push (newSet w)).IsList p items := ⟨_, hol', rfl, nl, rfl⟩
  unfold Builtin.«set.__init__» noKeywords Builtin.Frozenset.updateFrom
  generalize hPI : pyIter = PI
  wp_walk
  subst hPI
  refine wpAny_pyIter_list hl1 (wpAny_bind (wpAny_runValue ?_))
  have hlS : p < s.heap.objs.size := Heap.lt_size hol
  have hh3 : A'.in1.handled = none := by rw [← hh, ← hA] <;> rfl
  have hz1 : (s.heap.push (newSet w)).objs.size = s.heap.objs.size + 1 := Heap.size_push ..
  have hneI : p ≠ (s.heap.push (newSet w)).objs.size := by rw [hz1]; exact Nat.ne_of_lt (Nat.lt_succ_of_lt hlS)
  have hSf : s.heap.objs.size ∉ [(s.heap.push (newSet w)).objs.size, p] := by
    rw [hz1]
    intro z
    rcases LM2 z with z | z
    · exact absurd z (Nat.ne_of_lt (Nat.lt_succ_self _))
    · exact absurd z (Nat.ne_of_gt hlS)
  refine sx_loop (f := f) ((Walks.list hh3 _ p hneI items).toS) hSf ks hsz hb hval (items.size - 0) 0 _ (by omega) (Nat.zero_le _) ⟨⟨_, Heap.get?_push_size _ rfl, rfl, rfl⟩, (hl1.push _)⟩ (SX.fresh (Heap.get?_push_of_some _ hS)) fun s' hm hS' => ?_
  obtain ⟨h', g2, d', tk', os'⟩ := s'
  have eg : g2 = s.gens := hm.gens
  have ed : d' = s.drawn := hm.drawn
  have eo : os' = s.os := hm.os
  subst eg ed eo
  show wpAny _ _ _ _ _ _
  refine wpAny_pure ?_
  show wpAny _ _ (ret Value.none) _ _ _
  refine wpAny_pure (hR h' tk' ⟨hS', fun b o e => ?_⟩)
  have hb0 : b < s.heap.objs.size := Heap.lt_size e
  refine hm.heap b o (fun z => ?_) (Heap.get?_push_of_some _ (Heap.get?_push_of_some _ e))
  rcases LM2 z with z | z
  · exact absurd z (Nat.ne_of_lt hb0)
  · rw [hz1] at z
    exact absurd z (Nat.ne_of_lt (Nat.lt_succ_of_lt hb0))
theorem call_setT {p : Addr} {items : Array Value} (ks : List κ) {Q : Value → Shared → Prop} (hh : A.handled = none) (hl : s.heap.IsTuple p items) (hsz : items.size = ks.length) (hb : ks.length + 1 < scanBound)
    (hval : ∀ (i : Nat) (v : Value), items[i]? = some v → ∃ k, ks[i]? = some k ∧ knd.is k v = true ∧ v.scannable = true)
    (h : ∀ (h' : Heap) (tk : Nat), SX f h' s.heap.objs.size (oncesL ks) ∧ (∀ b o, s.heap.get? b = some o → h'.get? b = some o) → Q (.ref s.heap.objs.size) { s with heap := h', toks := tk }) : wpAny (model P w) A (call (.type "set") [.ref p]) Q E s := by
  refine call_set1 (fun A' A2 R hA hR => ?_) h
  obtain ⟨⟨ocls, odict, odata, oslots⟩, hol, hcl, nl, hdl⟩ := hl
  simp only at hcl hdl
  subst hcl hdl
  have hS : (s.heap.push (newSet w)).get? s.heap.objs.size = some (newSet w) := Heap.get?_push_size _ rfl
  have hT : Shared.TypeIs { s with heap := s.heap.push (newSet w) } (.ref s.heap.objs.size) "set" := ⟨_, hS, rfl⟩
  have hol' : (s.heap.push (newSet w)).get? p = some { cls := .type "tuple", dict := odict, data := .seq items nl, slots := oslots } := Heap.get?_push_of_some _ hol
  have hsls := F.sub_tuple_set
  have hslf := F.sub_tuple_frozenset
  have hne : (Value.type "tuple" == Value.type "dict") = false := by decide
  have hl1 : (s.heap.push (newSet w)).IsTuple p items := ⟨_, hol', rfl, nl, rfl⟩
  unfold Builtin.«set.__init__» noKeywords Builtin.Frozenset.updateFrom
  generalize hPI : pyIter = PI
  wp_walk
  subst hPI
  refine wpAny_pyIter_tuple hl1 (wpAny_bind (wpAny_runValue ?_))
  have hlS : p < s.heap.objs.size := Heap.lt_size hol
  have hh3 : A'.in1.handled = none := by rw [← hh, ← hA] <;> rfl
  have hz1 : (s.heap.push (newSet w)).objs.size = s.heap.objs.size + 1 := Heap.size_push ..
  have hneI : p ≠ (s.heap.push (newSet w)).objs.size := by rw [hz1]; exact Nat.ne_of_lt (Nat.lt_succ_of_lt hlS)
  have hSf : s.heap.objs.size ∉ [(s.heap.push (newSet w)).objs.size, p] := by
    rw [hz1]
    intro z
    rcases LM2 z with z | z
    · exact absurd z (Nat.ne_of_lt (Nat.lt_succ_self _))
    · exact absurd z (Nat.ne_of_gt hlS)
  refine sx_loop (f := f) ((Walks.tuple hh3 _ p hneI items).toS) hSf ks hsz hb hval (items.size - 0) 0 _ (by omega) (Nat.zero_le _) ⟨⟨_, Heap.get?_push_size _ rfl, rfl, rfl⟩, (hl1.push _)⟩ (SX.fresh (Heap.get?_push_of_some _ hS)) fun s' hm hS' => ?_
  obtain ⟨h', g2, d', tk', os'⟩ := s'
  have eg : g2 = s.gens := hm.gens
  have ed : d' = s.drawn := hm.drawn
  have eo : os' = s.os := hm.os
  subst eg ed eo
  show wpAny _ _ _ _ _ _
  refine wpAny_pure ?_
  show wpAny _ _ (ret Value.none) _ _ _
  refine wpAny_pure (hR h' tk' ⟨hS', fun b o e => ?_⟩)
  have hb0 : b < s.heap.objs.size := Heap.lt_size e
  refine hm.heap b o (fun z => ?_) (Heap.get?_push_of_some _ (Heap.get?_push_of_some _ e))
  rcases LM2 z with z | z
  · exact absurd z (Nat.ne_of_lt hb0)
  · rw [hz1] at z
    exact absurd z (Nat.ne_of_lt (Nat.lt_succ_of_lt hb0))
end
end NB

namespace NB
open PySem PySem.Spec PyProof.Rows L2
section
variable {P : Program} {w : World} {A : Around} {E : Value → Shared → Prop} {s : Shared} {a : Addr}
theorem strs_of {es : List (Int × Value)} (g : ElemsOf (strKind P w) es) : ∀ {vs : List Value}, (∀ v ∈ vs, v ∈ es.map (·.2)) → StrsAre vs (vs.map (kfStr P w).kf) := by
  intro vs
  induction vs with
  | nil => intro _; exact .nil
  | cons v vs ih =>
    intro h
    obtain ⟨e, he, q⟩ := List.mem_map.mp (h v (List.mem_cons_self ..))
    obtain ⟨⟨k, h1, _⟩, _⟩ := g e he
    rw [q] at h1
    obtain ⟨t, rfl⟩ := Value.isStrOf_shape h1
    exact .cons k t (ih fun u hu => h u (List.mem_cons_of_mem _ hu))
/-- sorted(a set of texts) -/
theorem sorted_setS {L : List Str} {Q : Value → Shared → Prop} (R : SX (kfStr P w) s.heap a L) (hh : A.handled = none) (h64 : L.length < 64)
    (hQ : ∀ s' p (out : Array Value) (c : Nat) (ys : List Str), (∀ b o, s.heap.get? b = some o → s'.heap.get? b = some o) → s'.gens = s.gens → s'.os = s.os → s.heap.objs.size ≤ p →
      s'.heap.get? p = some (seqObj "list" out c) → StrsAre out.toList ys → ys.Perm L → sortedS ys = true → Q (.ref p) s') : wpAny (model P w) A (call (.builtin "sorted") [.ref a]) Q E s := by
  obtain ⟨o, es, ep, t, ho, hex, hd, g, pmL, nd, hb, hf, hr, hl⟩ := R
  refine Calls.call_function_entry kind_sorted plain_sorted entry_sorted (args_sorted1 _) ?_
  unfold Builtin.«sorted»
  refine wpAny_bind (m := checkCount "sorted" 1 1 _) (wpAny_pure (wpAny_bind (L2.collect_set (A := A.in1) hh ⟨o, ho, hex.1, hd⟩ hf hb hr hl fun s1 vs k1 hz g1 o1 pm => ?_)))
  have hvl : vs.length = L.length := by
    rw [pm.length_eq, List.length_map, ← pmL.length_eq, kys_len, Array.length_toList]
  have hS := strs_of g (vs := vs) fun v hv => pm.mem_iff.mp hv
  have pk : (vs.map (kfStr P w).kf).Perm L := by
    refine List.Perm.trans ?_ pmL
    have q := pm.map (kfStr P w).kf
    rw [List.map_map] at q
    exact q
  refine wpAny_bind (wpAny_newList ?_ (by rw [hvl, sizeLine_eq]; omega))
  have hoL : (s1.heap.push (seqObj "list" vs.toArray 0)).get? s1.heap.objs.size = some (seqObj "list" vs.toArray 0) := Heap.get?_push_size _ rfl
  refine wpAny_bind (wpAny_holding (wpAny_call_entry slot_list_sort ⟨_, hoL, rfl⟩ entry_list_sort (list_sort_treeK strKind_oneLt hoL hS.keysOf (fun v₁ v₂ rest e => keyKind_strs (by rw [← e]; exact hS)) (by rw [hvl]; exact h64) fun st' hp hs => ⟨_, rfl, ?_⟩) (args_list_sort _)))
  obtain ⟨ys, y1, y2, y3⟩ := sorted_out_str hS hp hs
  obtain ⟨c, hc⟩ := sortedHeap_at (vs := vs) (out := (arrOf st').map (·.2)) hoL
  refine wpAny_pure ⟨_, rfl, hQ _ s1.heap.objs.size _ c ys (fun b u e => ?_) g1 o1 hz hc y1 (y2.trans pk) y3⟩
  have q := k1 b u e
  have hlt := Heap.lt_size q
  refine (sortedHeap_old (Nat.ne_of_lt hlt) ?_).trans (Heap.get?_push_of_some _ q)
  rw [size_push']
  exact Nat.lt_succ_of_lt hlt
end
/-- a set of keys in the heap -/
def SXO {P : Program} {w : World} {κ : Type} [DecidableEq κ] {knd : KeyKind P w κ} (f : KF knd) (a : Addr) (L : List κ) : HO := .ext fun h => SX f h a L
section
variable {X : Cx} {κ : Type} [DecidableEq κ] {knd : KeyKind X.prog X.w κ} {f : KF knd}
theorem sxo_new {H : Hp} {h : Heap} {a : Addr} {L : List κ} (R : SX f h a L) : ObjOk X.prog X.w H h a (SXO f a L) := by
  have ⟨o, _, _, _, ho, _⟩ := R
  exact ⟨R, ⟨o, ho⟩, fun h1 h2 p k => SX.at p k⟩
theorem sxo_get {pins : List (Addr × Obj)} {σ : L2.St} {H : Hp} {s : Shared} {a : Addr} {L : List κ} (I : Inv X pins σ H s) (ha : H a = some (SXO f a L)) : SX f s.heap a L := (I.hok a _ ha).1
/-- set(xs), xs a list or a tuple -/
def rSetOf {P : Program} {w : World} {κ : Type} [DecidableEq κ] {knd : KeyKind P w κ} (K : PySem.W.Frag) (f : KF knd) (toV : κ → V) : List V → Hp → VK → Prop := fun vs H Q => ∃ (p : Addr) (ks : List κ), vs = [.ref p] ∧ (SqL K H p (ks.map toV) ∨ SqT K H p (ks.map toV)) ∧ ks.length < 4000 ∧
  ∀ q, H q = none → Q (.ref q) (upd H q (SXO f q (oncesL ks)))
theorem setOf_rule {toV : κ → V} (hc : X.calm = true) (hto : ∀ k u, RelV (toV k) u → knd.is k u = true ∧ u.scannable = true) : CallR X (.type "set") (rSetOf X.K f toV) := by
  intro pins s σ H vs us Q I r h
  obtain ⟨p, ks, rfl, hs, hb, q⟩ := h
  rw [Vals.ref1 r]
  have hb' : ks.length + 1 < scanBound := by
    show ks.length + 1 < 4096
    omega
  have val : ∀ {its : List Value}, Vals (ks.map toV) its → ∀ (i : Nat) (v : Value), its.toArray[i]? = some v → ∃ k, ks[i]? = some k ∧ knd.is k v = true ∧ v.scannable = true := by
    intro its rv i v hv
    rw [List.getElem?_toArray] at hv
    have hi : i < ks.length := by
      have h1 := (List.getElem?_eq_some_iff.mp hv).1
      have h2 := rv.length
      rw [List.length_map] at h2
      omega
    have hk : ks[i]? = some ks[i] := List.getElem?_eq_getElem hi
    obtain ⟨u, hu, ru⟩ := rv.get (i := i) (x := toV ks[i]) (by rw [List.getElem?_map, hk]; rfl)
    rw [hv] at hu
    cases hu
    exact ⟨ks[i], hk, hto _ _ ru⟩
  have fin : ∀ (h' : Heap) (tk : Nat), SX f h' s.heap.objs.size (oncesL ks) ∧ (∀ b o, s.heap.get? b = some o → h'.get? b = some o) → ∃ v H', Inv X pins σ H' { s with heap := h', toks := tk } ∧ RelV v (.ref s.heap.objs.size) ∧ Q v H' := fun h' tk ⟨R, k⟩ =>
    ⟨.ref _, upd H s.heap.objs.size (SXO f s.heap.objs.size (oncesL ks)), I.laid (t' := tk) k (Nat.le_refl _) (sxo_new R), rfl, q _ (I.hok.fresh (Nat.le_refl _))⟩
  rcases hs with hs | hs
  · obtain ⟨its, rv, hl, _⟩ := I.list hs
    have hle := rv.length
    rw [List.length_map] at hle
    exact call_setL (f := f) ks (I.ok.hd hc) hl.isList (by rw [List.size_toArray]; omega) hb' (val rv) fin
  · obtain ⟨its, rv, hl, _⟩ := I.tuple hs
    have hle := rv.length
    rw [List.length_map] at hle
    exact call_setT (f := f) ks (I.ok.hd hc) hl (by rw [List.size_toArray]; omega) hb' (val rv) fin
/-- len(a set) -/
def rLenSet {P : Program} {w : World} {κ : Type} [DecidableEq κ] {knd : KeyKind P w κ} (f : KF knd) : List V → Hp → VK → Prop := fun vs H Q => ∃ (a : Addr) (L : List κ), vs = [.ref a] ∧ H a = some (SXO f a L) ∧ Q (.int (L.length : Int)) H
theorem lenSet_rule : CallR X (.builtin "len") (rLenSet f) := by
  intro pins s σ H vs us Q I r h
  obtain ⟨a, L, rfl, ha, q⟩ := h
  rw [Vals.ref1 r]
  obtain ⟨o, es, ep, t, ho, hex, hd, g, pm, nd, hb, hf, _⟩ := sxo_get I ha
  have hn : es.size = L.length := by rw [← pm.length_eq, kys_len]
  have hb2 : es.size < 4096 := hb
  exact call_len_set ho hex hd hf (by omega) ⟨.int (L.length : Int), H, I.tok _, ⟨_, by rw [hn]⟩, q⟩
end
section
variable {X : Cx}
theorem setOfS (hc : X.calm = true) : CallR X (.type "set") (rSetOf X.K (kfStr X.prog X.w) V.str) := setOf_rule hc fun k u r => by
  obtain ⟨t, rfl⟩ := r
  exact ⟨strKind_is _ _ _ _, rfl⟩
theorem setOfI (hc : X.calm = true) : CallR X (.type "set") (rSetOf X.K (kfInt X.prog X.w) V.int) := setOf_rule hc fun k u r => by
  obtain ⟨t, rfl⟩ := r
  exact ⟨intKind_is _ _ _ _, rfl⟩
/-- sorted(a set of texts) -/
def rSortSetS (P : Program) (w : World) : List V → Hp → VK → Prop := fun vs H Q => ∃ (a : Addr) (L : List Str), vs = [.ref a] ∧ H a = some (SXO (kfStr P w) a L) ∧ L.length < 64 ∧
  ∀ (ys : List Str) (p : Addr), ys.Perm L → sortedS ys = true → H p = none → Q (.ref p) (upd H p (.lst (ys.map V.str)))
theorem sortSetS (hc : X.calm = true) : CallR X (.builtin "sorted") (rSortSetS X.prog X.w) := by
  intro pins s σ H vs us Q I r h
  obtain ⟨a, L, rfl, ha, h64, q⟩ := h
  have R := sxo_get (f := kfStr X.prog X.w) I ha
  rw [Vals.ref1 r]
  refine sorted_setS R (I.ok.hd hc) h64 fun s' p out c ys k g o hp hg hi hpm hs => ?_
  have hlen : (ys.map V.str).length ≤ sizeLine := by rw [List.length_map, hpm.length_eq, sizeLine_eq]; omega
  have hn : H p = none := I.hok.fresh hp
  have J : Inv X pins σ (upd H p (.lst (ys.map V.str))) { s with heap := s'.heap, gens := s'.gens, drawn := s'.drawn, toks := s'.toks } :=
    I.call (ch := []) (Un.laid k hp hn) (I.hok.laid k hp ⟨hlen, out.toList, c, vals_of_strs hi, hg⟩) (by rw [g]; exact I.bare) (fun _ z => nomatch z)
  have e : s' = { s with heap := s'.heap, gens := s'.gens, drawn := s'.drawn, toks := s'.toks } := by
    cases s'
    cases s
    cases o
    rfl
  rw [e]
  exact ⟨.ref p, _, J, rfl, q ys p hpm hs hn⟩
end
end NB

/-! texts in order: a list is sorted(set(it)) just if it ascends -/
namespace NB
open PySem PySem.Spec PyProof.Rows L2 LamX
abbrev SLt (a b : Str) : Prop := strLt a b = true
theorem slt_irr (a : Str) : ¬ SLt a a := fun h => strLt_ne h rfl
theorem slt_tri {a b : Str} (h : ¬ SLt a b) (n : a ≠ b) : SLt b a := by
  unfold SLt strLt at *
  rw [decide_eq_true_iff] at *
  have n2 : a.cps.toList ≠ b.cps.toList := fun z => n (by
    cases a
    cases b
    simp at z
    rw [z])
  exact (List.le_iff_lt_or_eq.mp (List.not_lt.mp h)).resolve_right n2.symm
theorem strict_eq : ∀ {l m : List Str}, l.Pairwise SLt → m.Pairwise SLt → (∀ x, x ∈ l ↔ x ∈ m) → l = m
  | [], [], _, _, _ => rfl
  | [], b :: m, _, _, h => nomatch (h b).mpr (List.mem_cons_self ..)
  | a :: l, [], _, _, h => nomatch (h a).mp (List.mem_cons_self ..)
  | a :: l, b :: m, hl, hm, h => by
    rw [List.pairwise_cons] at hl hm
    have e : a = b := by
      rcases List.mem_cons.mp ((h a).mp (List.mem_cons_self ..)) with z | z
      · exact z
      · rcases List.mem_cons.mp ((h b).mpr (List.mem_cons_self ..)) with y | y
        · exact y.symm
        · exact absurd (strLt_trans (hm.1 a z) (hl.1 b y)) (slt_irr b)
    subst e
    rw [strict_eq hl.2 hm.2 fun x => ⟨fun z => ?_, fun z => ?_⟩]
    · rcases List.mem_cons.mp ((h x).mp (List.mem_cons_of_mem _ z)) with y | y
      · rw [y] at z
        exact absurd (hl.1 a z) (slt_irr a)
      · exact y
    · rcases List.mem_cons.mp ((h x).mpr (List.mem_cons_of_mem _ z)) with y | y
      · rw [y] at z
        exact absurd (hm.1 a z) (slt_irr a)
      · exact y
theorem rising_pair : ∀ {l : List Str} {p : Str}, risingS p l = true → (p :: l).Pairwise (fun a b => ¬ SLt b a)
  | [], p, _ => by simp
  | x :: l, p, h => by
    have h2 : (!ltCps x.cps.toList p.cps.toList && risingS x l) = true := h
    rw [Bool.and_eq_true_iff, Bool.not_eq_true', ltCps_eq] at h2
    have ih := rising_pair h2.2
    have hpx : ¬ SLt x p := by
      unfold SLt strLt
      rw [h2.1]
      decide
    refine List.pairwise_cons.mpr ⟨fun y hy => ?_, ih⟩
    rcases List.mem_cons.mp hy with z | z
    · rw [z]
      exact hpx
    · have hxy := (List.pairwise_cons.mp ih).1 y z
      intro q
      by_cases e : x = y
      · rw [← e] at q
        exact hpx q
      · exact hpx (strLt_trans (slt_tri hxy (fun w => e w.symm)) q)
theorem sorted_pair {l : List Str} (h : sortedS l = true) : l.Pairwise (fun a b => ¬ SLt b a) := by
  cases l with
  | nil => exact .nil
  | cons x l => exact rising_pair h
theorem sorted_strict {l : List Str} (h : sortedS l = true) (nd : l.Nodup) : l.Pairwise SLt := by
  have h1 := sorted_pair h
  have h2 : l.Pairwise (fun a b => (¬ SLt b a) ∧ a ≠ b) := List.Pairwise.and h1 nd
  exact h2.imp fun {a b} z => slt_tri z.1 z.2.symm
theorem asc_strict {l : List Str} (h : ascS l = true) : l.Pairwise SLt := by
  rw [List.pairwise_iff_getElem]
  intro i j hi hj hij
  have e : j = i + (j - i - 1) + 1 := by omega
  have := asc_far h (j - i - 1) i (by omega)
  rw [← e] at this
  have a1 : l.getD i "" = l[i] := by simp [hi]
  have a2 : l.getD j "" = l[j] := by simp [hj]
  rw [a1, a2] at this
  exact this
theorem strict_asc {l : List Str} (h : l.Pairwise SLt) : ascS l = true := by
  unfold ascS
  rw [List.all_eq_true]
  intro k hk
  have hk2 := List.mem_range.mp hk
  rw [List.pairwise_iff_getElem] at h
  have a1 : l.getD k "" = l[k]'(by omega) := by simp [show k < l.length by omega]
  have a2 : l.getD (k + 1) "" = l[k + 1]'(by omega) := by simp [show k + 1 < l.length by omega]
  rw [a1, a2]
  exact h k (k + 1) (by omega) (by omega) (by omega)
theorem asc_iff {l ys : List Str} (hp : ys.Perm (oncesL l)) (hs : sortedS ys = true) : l = ys ↔ ascS l = true := by
  have nd : ys.Nodup := hp.nodup_iff.mpr (nodup_onces l)
  have st := sorted_strict hs nd
  constructor
  · intro e
    rw [e]
    exact strict_asc st
  · intro h
    exact strict_eq (asc_strict h) st fun x => by rw [hp.mem_iff, mem_onces]
theorem eqv_strs : ∀ a b : List Str, PyData.eqvAll (a.map PyData.str) (b.map PyData.str) = true ↔ a = b
  | [], [] => by simp [PyData.eqvAll]
  | [], _ :: _ => by simp [PyData.eqvAll]
  | _ :: _, [] => by simp [PyData.eqvAll]
  | x :: a, y :: b => by
    rw [List.map_cons, List.map_cons, PyData.eqvAll, Bool.and_eq_true_iff, eqv_strs a b]
    have : PyData.eqv (.str x) (.str y) = true ↔ x = y := by
      rw [PyData.eqv]
      exact beq_iff_eq
    rw [this]
    exact ⟨fun ⟨h1, h2⟩ => by rw [h1, h2], fun h => by injection h with h1 h2; exact ⟨h1, h2⟩⟩
theorem eqv_asc {l ys : List Str} (hp : ys.Perm (oncesL l)) (hs : sortedS ys = true) : PyData.eqv (.list (l.map PyData.str)) (.list (ys.map PyData.str)) = ascS l := by
  rw [Bool.eq_iff_iff, ← asc_iff hp hs, ← eqv_strs l ys, PyData.eqv]
theorem lay_strs : ∀ {l : List Str}, (∀ x ∈ l, signS x = true) → PyData.canLayAll0 (l.map PyData.str) = true ∧ PyData.depthAll (l.map PyData.str) = 0
  | [], _ => by rw [List.map_nil, PyData.canLayAll0, PyData.depthAll]; exact ⟨rfl, rfl⟩
  | x :: l, h => by
    obtain ⟨h1, h2⟩ := lay_strs fun y hy => h y (List.mem_cons_of_mem _ hy)
    rw [List.map_cons, PyData.canLayAll0, PyData.depthAll, PyData.canLay0, PyData.depth, h1, h2, signS_ok (h x (List.mem_cons_self ..))]
    exact ⟨rfl, rfl⟩
theorem shaped_strs {l : List Str} (h : ∀ x ∈ l, signS x = true) : SeqAt.shaped (.list (l.map PyData.str)) = true := by
  obtain ⟨h1, h2⟩ := lay_strs h
  unfold SeqAt.shaped
  rw [PyData.canLay0, h1, PyData.depth, h2]
  rfl
theorem dp_strs {K : PySem.W.Frag} {H : Hp} : ∀ l : List Str, DpAll K H (l.map V.str) (l.map PyData.str)
  | [] => .nil
  | x :: l => .cons (.str x) (dp_strs l)
end NB

/-! things that are to be signs: what may be judged, its top a plain tuple if it is one -/
namespace NB
open PySem PySem.Spec PyProof.Rows L2 LamX
def Go (K : PySem.W.Frag) (O : List Addr) (c e : Nat) (H : Hp) (v : V) : Prop := ∃ d, Jp K (hid O H) v d ∧ GB d c e ∧ ∀ its, d = .tuple its → ∃ a xs, v = .ref a ∧ PlT K H a xs ∧ JpAll K (hid O H) xs its
theorem cutV_last {xs : List V} (h : 0 < xs.length) : cutV xs (some (-1)) none = xs.drop (xs.length - 1) := by
  unfold cutV
  rw [sIx_init, HT.sIx_none, List.take_of_length_le (by rw [List.length_drop]; omega)]
section
variable {K : PySem.W.Frag} {O : List Addr} {c e c' e' n : Nat} {H H' : Hp} {v : V} {vs : List V}
theorem PlT.smO {a : Addr} {xs : List V} (h : PlT K H a xs) (s : Sm O H H') (hO : ∀ b ∈ O, ∃ ys, H b = some (.lst ys)) : PlT K H' a xs := by
  rcases h with ⟨o, h1, h2, h⟩ | h
  · refine .inl ⟨o, h1, h2, s _ _ h fun m => ?_⟩
    obtain ⟨ys, z⟩ := hO a m
    rw [h] at z
    cases z
  · exact .inr h
theorem Go.same (h : Go K O c e H v) (s : Same H H') : Go K O c e H' v := by
  obtain ⟨d, h1, h2, h3⟩ := h
  refine ⟨d, h1.sm fun b o q _ => s b o q, h2, fun its z => ?_⟩
  obtain ⟨a, xs, e1, p, j⟩ := h3 its z
  exact ⟨a, xs, e1, p.sm s, JpAll.same (Sm.hid (O := O) fun b o q _ => s b o q) _ _ j⟩
theorem Go.sm (h : Go K O c e H v) (s : Sm O H H') (hO : ∀ b ∈ O, ∃ ys, H b = some (.lst ys)) : Go K O c e H' v := by
  obtain ⟨d, h1, h2, h3⟩ := h
  refine ⟨d, h1.sm s, h2, fun its z => ?_⟩
  obtain ⟨a, xs, e1, p, j⟩ := h3 its z
  exact ⟨a, xs, e1, p.smO s hO, JpAll.same s.hid _ _ j⟩
theorem Go.mono (h : Go K O c e H v) (h1 : c ≤ c') (h2 : e ≤ e') : Go K O c' e' H v := by
  obtain ⟨d, g, ⟨a, b, h3, h4⟩, q⟩ := h
  exact ⟨d, g, ⟨a, b, by omega, by omega⟩, q⟩
theorem Go.tup {a : Addr} (hs : PlT K H a vs) (g : JGAll K O H vs n c e) (hn : n ≤ 100000) (hO : ∀ b ∈ O, ∃ ys, H b = some (.lst ys)) : Go K O (1 + c) (e + 1) H (.ref a) := by
  obtain ⟨ds, g1, g2, g3, g4, g5, g6⟩ := g
  refine ⟨.tuple ds, .tup (hid_sq hs.sq hO) g1, ⟨?_, ?_, ?_, ?_⟩, fun its z => ?_⟩
  · rw [shortD, g2, decide_eq_true (by omega)]
    rfl
  · rw [PyData.canLay0]
    exact g3
  · rw [cntD]
    omega
  · rw [PyData.depth]
    omega
  · cases z
    exact ⟨a, vs, rfl, hs, g1⟩
theorem Go.non (h1 : 1 ≤ c) : Go K O c e H .non := by
  refine ⟨.none, .oth (.base .non) oth_none, GB.none h1, fun _ z => nomatch z⟩
theorem Go.str {x : Str} (h1 : 1 ≤ c) (h2 : x.length ≤ 100000) (h3 : PyData.strOk x = true) : Go K O c e H (.str x) :=
  ⟨.str x, .str x, ⟨by rw [shortD, decide_eq_true h2], by rw [PyData.canLay0]; exact h3, by rw [cntD_str]; exact h1, Nat.zero_le _⟩, fun _ z => nomatch z⟩
theorem Go.lst {a : Addr} {xs : List V} (h1 : 1 ≤ c) (h : H a = some (.lst xs)) (n : a ∉ O) : Go K O c e H (.ref a) := ⟨.none, .oth (.base (.lst (hid_at n h))) oth_list, GB.none h1, fun _ z => nomatch z⟩
theorem Go.dct {a : Addr} {kvs : List (Key × V)} (h1 : 1 ≤ c) (h : H a = some (.dK kvs)) (n : a ∉ O) : Go K O c e H (.ref a) := ⟨.none, .oth (.base (.dK (hid_at n h))) oth_dict, GB.none h1, fun _ z => nomatch z⟩
/-- what the judges get -/
theorem Go.jo (h : Go K O c e H v) : ∃ d, JoAt K H v d ∧ GB d c e := by
  obtain ⟨d, h1, h2, h3⟩ := h
  refine ⟨d, ⟨h1.out, fun its z => ?_⟩, h2⟩
  obtain ⟨a, xs, e1, p, j⟩ := h3 its z
  exact ⟨a, xs, e1, p, JpAll.same (hid_same O H) _ _ j⟩
theorem sgs_jg {sg : List Sg} (h : DpAll K H vs (sg.map sg1)) (hp : (sg.map sg1).all placedD = true) (hO : ∀ b ∈ O, ∃ ys, H b = some (.lst ys)) : JGAll K O H vs sg.length (3 * sg.length) 1 := by
  obtain ⟨l1, l2⟩ := placed_lay sg hp
  refine ⟨sg.map sg1, DpAll.jp _ _ (jd_sgs sg) (DpAll.imm (hid_imm hO) _ _ (nls_sgs sg) h), ?_, l1, ?_, l2, by rw [List.length_map]; exact Nat.le_refl _⟩
  · clear h l1 l2
    induction sg with
    | nil => rfl
    | cons e sg ih =>
      rw [List.map_cons, List.all_cons, Bool.and_eq_true_iff] at hp
      have h3 := hp.1
      unfold sg1 placedD at h3
      rw [Bool.and_eq_true_iff] at h3
      have h4 : signS e.1 = true := h3.1
      have h5 : e.1.length ≤ 100000 := by
        unfold signS at h4
        rw [Bool.and_eq_true_iff, Bool.and_eq_true_iff] at h4
        have := of_decide_eq_true h4.2.1
        omega
      rw [List.map_cons, shortsD, ih hp.2, sg1, shortD, shortsD, shortsD, shortsD, shortD, shortD, decide_eq_true h5]
      all_goals first
        | rfl
        | (intro _ z; cases z)
  · clear h hp l1 l2
    induction sg with
    | nil => exact Nat.le_refl _
    | cons e sg ih =>
      rw [List.map_cons, cntsD, sg1, cntD, cntsD, cntsD, cntsD, cntD_str, List.length_cons]
      have : cntD (.int e.2) = 1 := rfl
      omega
theorem JGAll.take : ∀ (k : Nat) {vs : List V} {n c e : Nat}, JGAll K O H vs n c e → JGAll K O H (vs.take k) n c e
  | 0, _, _, _, _, _ => by rw [List.take_zero]; exact JGAll.nil
  | k + 1, [], _, _, _, h => h
  | k + 1, v :: vs, n, c, e, h => by
    obtain ⟨ds, h1, h2, h3, h4, h5, h6⟩ := h
    cases h1 with
    | cons a b =>
      rename_i d ds
      rw [shortsD, Bool.and_eq_true] at h2
      rw [PyData.canLayAll0, Bool.and_eq_true] at h3
      rw [cntsD] at h4
      rw [PyData.depthAll] at h5
      rw [List.length_cons] at h6
      obtain ⟨es, i1, i2, i3, i4, i5, i6⟩ := JGAll.take k (vs := vs) (n := ds.length) (c := cntsD ds) (e := PyData.depthAll ds) ⟨ds, b, h2.2, h3.2, Nat.le_refl _, Nat.le_refl _, Nat.le_refl _⟩
      rw [List.take_succ_cons]
      refine ⟨d :: es, .cons a i1, ?_, ?_, ?_, ?_, ?_⟩
      · rw [shortsD, h2.1, i2]; rfl
      · rw [PyData.canLayAll0, h3.1, i3]; rfl
      · rw [cntsD]; omega
      · rw [PyData.depthAll]; omega
      · rw [List.length_cons]; omega
theorem placed_sub {sg sh : List Sg} (h : (sg.map sg1).all placedD = true) (s : ∀ e ∈ sh, e ∈ sg) : (sh.map sg1).all placedD = true := by
  rw [List.all_eq_true] at h ⊢
  intro d hd
  obtain ⟨e, he, rfl⟩ := List.mem_map.mp hd
  exact h _ (List.mem_map.mpr ⟨e, s e he, rfl⟩)
def GoAll (K : PySem.W.Frag) (O : List Addr) (c e : Nat) (H : Hp) (vs : List V) : Prop := ∀ v ∈ vs, Go K O c e H v
theorem GoAll.same (h : GoAll K O c e H vs) (s : Same H H') : GoAll K O c e H' vs := fun v m => (h v m).same s
variable {H1 : Hp} {σ : L2.St} {t : TE} {ts : TA}
def GOE (K : PySem.W.Frag) (O : List Addr) (H1 : Hp) (σ : L2.St) (c e : Nat) (t : TE) : Prop := ∀ (H : Hp) (Q : VK), Same H1 H → (∀ H' v, Same H H' → Go K O c e H' v → Q v H') → t σ H Q
def GOA (K : PySem.W.Frag) (O : List Addr) (H1 : Hp) (σ : L2.St) (c e n : Nat) (ts : TA) : Prop := ∀ (H : Hp) (Q : List V → Hp → Prop), Same H1 H → (∀ H' vs, Same H H' → GoAll K O c e H' vs → vs.length = n → Q vs H') → ts σ H Q
theorem GOA.nil : GOA K O H1 σ c e 0 tNil := fun H Q _ q => q H [] (Same.refl H) (fun _ m => nomatch m) rfl
theorem GOA.cons (h : GOE K O H1 σ c e t) (g : GOA K O H1 σ c e n ts) : GOA K O H1 σ c e (n + 1) (tCons t ts) := fun H Q s q =>
  h H _ s fun H2 x s2 gx => g H2 _ (s.trans s2) fun H3 xs s3 gxs l3 => q H3 _ (s2.trans s3) (fun u m => by
    rcases List.mem_cons.mp m with z | z
    · rw [z]
      exact gx.same s3
    · exact gxs u z) (by rw [List.length_cons, l3])
theorem GOE.con {v : V} (h : ∀ H, Go K O c e H v) : GOE K O H1 σ c e (tC v) := fun H Q _ q => q H v (Same.refl H) (h H)
theorem GOA.lst (h : GOA K O H1 σ c e n ts) (hn : n ≤ 100000) {H : Hp} {Q : VK} (s : Same H1 H) (q : ∀ H' vs p, Same H H' → GoAll K O c e H' vs → vs.length = n → H' p = some (.lst vs) → H p = none → Q (.ref p) H') : tLst ts σ H Q :=
  h H _ s fun H2 vs s2 g2 l2 => by
    have hzl : 100000 < sizeLine := by decide
    refine ⟨by omega, fun p np => q _ _ _ (s2.trans (same_new np)) (g2.same (same_new np)) l2 upd_same ?_⟩
    cases z : H p with
    | none => rfl
    | some o =>
      have := s2 _ _ z
      rw [np] at this
      cases this
/-- a written tuple, plain -/
theorem GE.tupZ (hO : ∀ b ∈ O, ∃ ys, H1 b = some (.lst ys)) (h : JE K O H1 σ n c e ts) (hn : n ≤ 100000) : GE K O H1 σ (1 + c) (e + 1) (tTupZ ts) := fun H Q s q =>
  h H _ s fun H2 vs s2 g l2 => ⟨by rw [l2]; have : 100000 < sizeLine := by decide
                                   omega, fun p o h1 h2 np => q _ _ (s2.trans (same_new np)) (Gd.tup (.inl (.inr ⟨o, upd_same⟩)) (g.same (same_new np)) hn fun b hb => by
    obtain ⟨ys, hy⟩ := hO b hb
    exact ⟨ys, same_new np _ _ (s2 _ _ (s _ _ hy))⟩)⟩
theorem GOE.tupZ0 (hO : ∀ b ∈ O, ∃ ys, H1 b = some (.lst ys)) (h1 : 1 ≤ c) (h2 : 1 ≤ e) : GOE K O H1 σ c e (tTupZ tNil) := fun H Q s q =>
  ⟨Nat.zero_le _, fun p o g1 g2 np => q _ _ (same_new np) ((Go.tup (n := 0) (c := 0) (e := 0) (vs := []) (.inl ⟨o, g1, g2, upd_same⟩) JGAll.nil (by decide) fun b hb => by
    obtain ⟨ys, hy⟩ := hO b hb
    exact ⟨ys, same_new np _ _ (s _ _ hy)⟩).mono (by omega) (by omega))⟩
end
end NB

/-! a == b, a != b by the own __eq__ of a's class, b whatever it is -/
namespace NB
open PySem PySem.Spec PyProof.Rows L2
theorem first_tuple (K : PySem.W.Frag) (C : Addr) : PySem.W.notFirst K C (.type "tuple") = true := by rfl
theorem first_none (K : PySem.W.Frag) (C : Addr) : PySem.W.notFirst K C (.type "NoneType") = true := by rfl
theorem first_own (K : PySem.W.Frag) (C : Addr) : PySem.W.notFirst K C (.ref C) = true := by simp [PySem.W.notFirst]
def rOwnG (K : PySem.W.Frag) (C : Addr) (sp : Sp) (g : Bool → Bool) : R2 := fun x y H Q => ∃ a dx fs tb, x = .ref a ∧ H a = some (.ins C dx fs) ∧ TyX K H y tb ∧ PySem.W.notFirst K C tb = true ∧ sp [.ref a, y] H (fun v H' => ∃ k, v = .bl k ∧ Q (.bl (g k)) H') L2.E0
section
variable {X : Cx} {k : Nat} {C f : Addr} {fd : FuncData} {ps : List Str} {sp : Sp}
theorem op_ownNeG (F : FnOk X.prog X.w X.K X.mg X.base L2.CX0 k f fd ps sp) (T : OwnEqC X.K C f) (hb : Binds X.K fd ps []) (hr : Room (k + 1) X.A) : OpR X (compareOp .NotEq) (rOwnG X.K C sp not) := by
  intro pins s σ H x y v u Q I rx ry h
  obtain ⟨a, dx, fs, tb, rfl, ha, ty, hn, hq⟩ := h
  cases rx
  obtain ⟨mA, J, _⟩ := ins_get I.hok ha
  obtain ⟨od, J, _⟩ := J.look
  obtain ⟨P, Z, hp, _⟩ := L2.kit_of I ry ty
  obtain ⟨m, hF⟩ := I.fr
  show wpAny (model X.prog X.w) X.A (richCompare .NotEq (.ref a) u) (EP X pins σ Q) X.xe s
  have hun := hr.un
  refine ne_own (tb := tb) (by omega) hF I.ok.mod.kin J (Z.ty _ _ I.kIn hp) hn T.eq T.fn T.ne T.ob ?_
  refine wpAny_mono (run_in F ⟨hr.in1, rfl⟩ hb I (vs := [.ref a, y]) (.cons rfl (.cons ry .nil)) hq) (fun v s' z => ?_) fun _ _ e => e
  obtain ⟨v, H', I', rv, kk, rfl, q⟩ := z
  cases rv
  exact ⟨kk, rfl, .bl _, H', I', rfl, q⟩
theorem op_ownEqG (F : FnOk X.prog X.w X.K X.mg X.base L2.CX0 k f fd ps sp) (T : OwnEqC X.K C f) (hb : Binds X.K fd ps []) (hr : Room k X.A) : OpR X (compareOp .Eq) (rOwnG X.K C sp id) := by
  intro pins s σ H x y v u Q I rx ry h
  obtain ⟨a, dx, fs, tb, rfl, ha, ty, hn, hq⟩ := h
  cases rx
  obtain ⟨mA, J, _⟩ := ins_get I.hok ha
  obtain ⟨od, J, _⟩ := J.look
  obtain ⟨P, Z, hp, _⟩ := L2.kit_of I ry ty
  obtain ⟨m, hF⟩ := I.fr
  show wpAny (model X.prog X.w) X.A (richCompare .Eq (.ref a) u) (EP X pins σ Q) X.xe s
  refine PySem.W.cmp_K (op := .Eq) (tb := tb) hr.units0 hF I.ok.mod.kin J (Z.ty _ _ I.kIn hp) hn T.eq T.fn ?_
  refine wpAny_mono (run_in F ⟨hr, rfl⟩ hb I (vs := [.ref a, y]) (.cons rfl (.cons ry .nil)) hq) (fun v s' z => ?_) fun _ _ e => e
  obtain ⟨v, H', I', rv, kk, rfl, q⟩ := z
  cases rv
  exact ⟨.bl _, H', I', rfl, q⟩
end
end NB

/-! what judges see stays where all but tables stays; specs kept in a list -/
namespace NB
open PySem PySem.Spec PyProof.Rows L2 LamX
theorem passX {X : Cx} {P : Program} {w : World} : Passes (L2.CX P w) X E0 := fun _ _ _ _ _ _ _ h => by
  obtain ⟨_, _, _, _, _, _, _, _, _, _, _, _, h⟩ := h
  exact h.elim
theorem TyOf.ext {K : PySem.W.Frag} {H H' : Hp} (e : ExtN H H') {v : V} {t : Value} (h : TyOf K H v t) : TyOf K H' v t := by
  cases h with
  | non => exact .non
  | bl => exact .bl _
  | int => exact .int _
  | str => exact .str _
  | flt => exact .flt _
  | lst q => exact .lst (e _ _ q (fun _ z => nomatch z))
  | frz q => exact .frz (e _ _ q (fun _ z => nomatch z))
  | tup q => exact .tup (e _ _ q (fun _ z => nomatch z))
  | dK q => exact .dK (e _ _ q (fun _ z => nomatch z))
  | dT q => exact .dT (e _ _ q (fun _ z => nomatch z))
  | ins q a b c d f => exact .ins (e _ _ q (fun _ z => nomatch z)) a b c d f
theorem TyX.ext {K : PySem.W.Frag} {H H' : Hp} (e : ExtN H H') {v : V} {t : Value} (h : TyX K H v t) : TyX K H' v t := by
  cases h with
  | base q => exact .base (TyOf.ext e q)
  | byt b => exact .byt b
  | set q => exact .set (e _ _ q (fun _ z => nomatch z))
  | kList a c => exact .kList a c
  | kTuple a c => exact .kTuple a c
  | kDict a c => exact .kDict a c
  | fTuple q => exact .fTuple (e _ _ q (fun _ z => nomatch z))
  | fDict q => exact .fDict (e _ _ q (fun _ z => nomatch z))
mutual
theorem Jp.ext {K : PySem.W.Frag} {H H' : Hp} (e : ExtN H H') : ∀ (d : PyData) (v : V), Jp K H v d → Jp K H' v d
  | .none, _, h => by
    cases h with
    | oth a b => exact .oth (TyX.ext e a) b
  | .bool b, _, h => by cases h; exact .bl b
  | .int i, _, h => by cases h; exact .int i
  | .str x, _, h => by cases h; exact .str x
  | .list ds, _, h => by cases h
  | .tuple ds, _, h => by
    cases h with
    | tup hs ha => exact .tup ((Imm.extN e).sq hs) (JpAll.ext e ds _ ha)
  | .dict _, _, h => by cases h
theorem JpAll.ext {K : PySem.W.Frag} {H H' : Hp} (e : ExtN H H') : ∀ (ds : List PyData) (vs : List V), JpAll K H vs ds → JpAll K H' vs ds
  | [], _, h => by cases h; exact .nil
  | d :: ds, _, h => by
    cases h with
    | cons a b => exact .cons (Jp.ext e d _ a) (JpAll.ext e ds _ b)
end
theorem JoAt.ext {K : PySem.W.Frag} {H H' : Hp} {v : V} {d : PyData} (h : JoAt K H v d) (e : ExtN H H') : JoAt K H' v d :=
  ⟨Jp.ext e d v h.1, fun its q => by
    obtain ⟨a, xs, e1, p, j⟩ := h.2 its q
    exact ⟨a, xs, e1, p.imm (Imm.extN e), JpAll.ext e _ _ j⟩⟩
/-- signs that are right as a thing that is to be signs -/
theorem sgs_jo {K : PySem.W.Frag} {H : Hp} {sa : Addr} {sg : List Sg} (h : SgsAt K H sa sg) : JoAt K H (.ref sa) (sgsD sg) := by
  obtain ⟨xs, h1, h2⟩ := h
  have j : JpAll K H xs (sg.map sg1) := DpAll.jp _ _ (jd_sgs sg) h2
  exact ⟨.tup h1.sq j, fun its e => ⟨sa, xs, rfl, h1, by unfold sgsD at e; cases e; exact j⟩⟩
theorem jd_lns : ∀ ls : List Ln, jds (ls.map lnD) = true
  | [] => rfl
  | l :: ls => by rw [List.map_cons, jds, jd_ln, jd_lns ls]; rfl
theorem lns_jp {K : PySem.W.Frag} {H : Hp} {v : V} {ls : List Ln} (h : Dp K H v (lnsD ls)) : Jp K H v (lnsD ls) := Dp.jp _ _ (by unfold lnsD; rw [jd]; exact jd_lns ls) h
/-- a spec at r -/
def SpecAt (K : PySem.W.Frag) (H : Hp) (r : V) (sg : List Sg) (ls : List Ln) : Prop := ∃ a sa lv, r = .ref a ∧ SqT K H a [.ref sa, lv] ∧ SgsAt K H sa sg ∧ Dp K H lv (lnsD ls)
theorem SpecAt.imm {K : PySem.W.Frag} {H H' : Hp} {r : V} {sg : List Sg} {ls : List Ln} (i : Imm H H') (h : SpecAt K H r sg ls) : SpecAt K H' r sg ls := by
  obtain ⟨a, sa, lv, h1, h2, h3, h4⟩ := h
  exact ⟨a, sa, lv, h1, i.sq h2, h3.imm i, Dp.imm i _ _ (nl_lnsD ls) h4⟩
theorem SpecAt.dp {K : PySem.W.Frag} {H : Hp} {a : Addr} {sa : Addr} {lv : V} {sg : List Sg} {ls : List Ln} (h2 : SqT K H a [.ref sa, lv]) (h3 : SgsAt K H sa sg) (h4 : Dp K H lv (lnsD ls)) : Dp K H (.ref a) (.tuple [sgsD sg, lnsD ls]) := .tup h2 (.cons h3.dp (.cons h4 .nil))
theorem PoolAt.putL {H : Hp} {p cs S : Addr} {z k : Int} {cells : List Int} (h : PoolAt H p cs z k cells) (n : S ∉ [p, cs]) {o : HO} : PoolAt (upd H S o) p cs z k cells := by
  have n1 : p ≠ S := fun e => n (by rw [e]; exact List.mem_cons_self ..)
  have n2 : cs ≠ S := fun e => n (by rw [e]; exact List.mem_cons_of_mem _ (List.mem_cons_self ..))
  exact ⟨by rw [upd_ne n1]; exact h.pool, by rw [upd_ne n2]; exact h.cel, h.ne, h.z0, h.z1, h.k0⟩
theorem least {p : Nat → Prop} : ∀ n, p n → ∃ m, p m ∧ ∀ j, j < m → ¬ p j := fun n => by
  induction n using Nat.strongRecOn with
  | ind n ih =>
    intro h
    by_cases q : ∃ m, m < n ∧ p m
    · obtain ⟨m, hm, pm⟩ := q
      exact ih m hm pm
    · exact ⟨n, h, fun j hj pj => q ⟨j, hj, pj⟩⟩
end NB

/-! sorted of a dict whose keys are nested tuples -/
namespace NB
open PySem PySem.Spec PyProof.Rows L2
section
variable {h : Heap}
mutual
theorem nk_reads : ∀ (k : NestedKey) (v : Value) (as : List Addr), Reads h v k.data as → as = []
  | .none, _, _, r => by rw [NestedKey.data] at r; cases r; rfl
  | .num _, _, _, r => by rw [NestedKey.data] at r; cases r; rfl
  | .text _, _, _, r => by rw [NestedKey.data] at r; cases r; rfl
  | .tup ks, _, _, r => by
    rw [NestedKey.data] at r
    cases r with
    | tuple h1 h2 h3 h4 => exact nk_readsAll ks _ _ h4
theorem nk_readsAll : ∀ (ks : List NestedKey) (vs : List Value) (as : List Addr), ReadsAll h vs (NestedKey.datas ks) as → as = []
  | [], _, _, r => by rw [NestedKey.datas] at r; cases r; rfl
  | k :: ks, _, _, r => by
    rw [NestedKey.datas] at r
    cases r with
    | cons h1 h2 => rw [nk_reads k _ _ h1, nk_readsAll ks _ _ h2]; rfl
end
end
section
variable {prog : Program} {w : World} {A : Around} {E : Value → Shared → Prop} {s : Shared} {d : Addr} {es : Array DictEntry} {ep : Nat}
theorem kdlRaw (lo : (d == sysModules) = false) : PySem.W.KdlSrc prog w "dict" d d es.size (fun i v => ∃ hi : i < es.size, v = es[i].key) (fun h => h.DictRaw d es ep) where
  type := fun _ hm => hm.typeIs
  there := fun _ hm => let ⟨_, ho, _⟩ := hm; ⟨Heap.lt_size ho, Heap.lt_size ho⟩
  keep := fun _ _ hm hk => hm.at fun o e => hk d (.inl rfl) o e
  notList := by decide
  notTuple := by decide
  hint := fun _ _ _ _ hm hq => PySem.W.kdl_hint_dict hm.typeIs hq
  iter := fun _ s hh hm => ⟨_, _, (fun _ _ hq => wpAny_pyIter_dict_raw lo hm hq), Walks.rawKeys hh _ d (let ⟨_, ho, _⟩ := hm; Nat.ne_of_lt (Heap.lt_size ho)) es ep, ⟨⟨_, Heap.get?_push_size _ rfl, rfl, rfl⟩, hm.at fun o e => Heap.get?_push_of_some _ e⟩⟩
end
def rSortN (P : Program) (w : World) (K : PySem.W.Frag) : List V → Hp → VK → Prop := fun vs H Q => ∃ (a : Addr) (kvs : List NE), vs = [.ref a] ∧ NDct P w K H a kvs ∧ PySem.W.AllAlike (kvs.map fun e => e.1.data) ∧ PySem.W.Sortable (kvs.map fun e => e.1.data) ∧
  ∀ l, H l = none → Q (.ref l) (upd H l (.lst (srt (kvs.map fun e => V.ref e.2.1) (kvs.map fun e => e.1.data))))
theorem nrel_get : ∀ {kvs : List NE} {xs : List (NestedKey × Addr × Value)} {i : Nat} {y : NestedKey × Addr × Value}, NRel kvs xs → xs[i]? = some y → ∃ p, kvs[i]? = some p ∧ p.2.1 = y.2.1
  | _, _, i, y, .nil, h => by simp at h
  | _, _, 0, y, @Paired.cons _ _ _ p q ps qs r t, h => ⟨p, rfl, by cases h; exact r.2.1⟩
  | _, _, i + 1, y, @Paired.cons _ _ _ p q ps qs r t, h => by
    obtain ⟨p', h1, h2⟩ := nrel_get (i := i) t (by simpa using h)
    exact ⟨p', by simpa using h1, h2⟩
mutual
theorem nk_depth : ∀ k : NestedKey, k.data.depth ≤ k.depth + 1
  | .none => by rw [NestedKey.data, PyData.depth]; omega
  | .num _ => by rw [NestedKey.data, PyData.depth]; omega
  | .text _ => by rw [NestedKey.data, PyData.depth]; omega
  | .tup ks => by
    have := nk_depths ks
    rw [NestedKey.data, PyData.depth, NestedKey.depth]
    omega
theorem nk_depths : ∀ ks : List NestedKey, PyData.depthAll (NestedKey.datas ks) ≤ NestedKey.depthAll ks + 1
  | [] => by rw [NestedKey.datas, PyData.depthAll]; omega
  | k :: ks => by
    have := nk_depth k
    have := nk_depths ks
    rw [NestedKey.datas, PyData.depthAll, NestedKey.depthAll]
    omega
end
section
variable {X : Cx}
theorem call_sortN (hc : X.calm = true) (hu : X.A.units + 64 < cLine) : CallR X (.builtin "sorted") (rSortN X.prog X.w X.K) := by
  intro pins s σ H xs us Q I r h
  obtain ⟨a, kvs, rfl, nd, hal, hsb, q⟩ := h
  obtain rfl := Vals.ref1 r
  obtain ⟨lo, hz, xs, rel, dd⟩ := nd_of I nd
  obtain ⟨es, ep, hraw, hsz, hx⟩ := dd.raw
  have hlx := rel.length
  have hh : X.A.handled = none := I.ok.hd hc
  have hes : es.size ≤ sizeLine := by omega
  refine Calls.call_function_entry (PyProof.Rows.kind_sorted) (PyProof.Rows.plain_sorted) (PyProof.Rows.entry_sorted) (PyProof.Rows.args_sorted1 _) ?_
  unfold Builtin.«sorted»; refine wpAny_bind (m := checkCount "sorted" 1 1 _) (wpAny_pure (wpAny_bind ?_))
  refine PySem.W.kdu_collect (A := X.A.in1) (kdlRaw (es := es) (ep := ep) lo) hh hraw hes fun h' tk acc kp hacc => ?_
  have hvl : acc.toList.length = es.size := by rw [Array.length_toList]; exact hacc.1
  have hv : ∀ (j : Nat) (v : Value), acc.toList[j]? = some v → ∃ e : NE, kvs[j]? = some e ∧ v = .ref e.2.1 := fun j v e => by
    obtain ⟨hi, rfl⟩ := hacc.2 j v (by rw [← Array.getElem?_toList]; exact e)
    obtain ⟨y, hy1, hy2, _⟩ := hx j hi
    obtain ⟨p, hp1, hp2⟩ := nrel_get rel hy1
    exact ⟨p, hp1, by rw [hy2, hp2]⟩
  generalize acc.toList = vs at hvl hv ⊢
  have I1 : Inv X pins σ H { s with heap := h', toks := tk } := I.kept kp
  refine wpAny_bind (wpAny_newList ?_ (by rw [hvl]; exact hes))
  have hob : (h'.push { cls := .type "list", data := .seq vs.toArray }).get? h'.objs.size = some (seqObj "list" vs.toArray 0) := Heap.get?_push_size _ rfl
  have kb : ∀ b o, h'.get? b = some o → (h'.push { cls := .type "list", data := .seq vs.toArray }).get? b = some o := fun b o e => Heap.get?_push_of_some _ e
  have ev : vs = kvs.map fun e => Value.ref e.2.1 := by
    refine List.ext_getElem? fun j => ?_
    rw [List.getElem?_map]
    cases q : vs[j]? with
    | some v =>
      obtain ⟨e, h1, h2⟩ := hv j v q
      rw [h1, h2]
      rfl
    | none =>
      have := List.getElem?_eq_none_iff.mp q
      rw [List.getElem?_eq_none (by omega)]
      rfl
  have rv : Vals (kvs.map fun e => V.ref e.2.1) vs := by
    rw [ev]
    exact vals_maps (fun e : NE => V.ref e.2.1) (fun e => Value.ref e.2.1) kvs fun _ _ => rfl
  have hzl : (kvs.map fun e => V.ref e.2.1).length = (kvs.map fun e => e.1.data).length := by rw [List.length_map, List.length_map]
  have hdd : ∀ e ∈ kvs, ∃ ls, Reads s.heap (.ref e.2.1) e.1.data ls := fun e he => Dp.reads I e.1.data (.ref e.2.1) (.ref e.2.1) (nd.keys e he).1 rfl
  have er : PySem.W.EachIs (fun u (b : V × PyData) => RelV b.1 u ∧ ∃ as, Reads (h'.push { cls := .type "list", data := .seq vs.toArray }) u b.2 as ∧ h'.objs.size ∉ as) vs ((kvs.map fun e => V.ref e.2.1).zip (kvs.map fun e => e.1.data)) := by
    refine each_of (P := fun u d => ∃ as, Reads (h'.push { cls := .type "list", data := .seq vs.toArray }) u d as ∧ h'.objs.size ∉ as) rv (fun i u d h1 h2 => ?_) hzl
    obtain ⟨e, he, rfl⟩ := hv i u h1
    rw [List.getElem?_map, he] at h2
    cases h2
    obtain ⟨ls, hr⟩ := hdd e (List.mem_of_getElem? he)
    rw [nk_reads _ _ _ hr] at hr
    exact ⟨[], PyProof.Rows.Reads.keeps (fun _ _ q => kb _ _ (kp _ _ q)) hr, fun z => nomatch z⟩
  have em : ((kvs.map fun e => V.ref e.2.1).zip (kvs.map fun e => e.1.data)).map (fun b => b.2) = kvs.map fun e => e.1.data := zip_snd hzl
  have hzz : ((kvs.map fun e => V.ref e.2.1).zip (kvs.map fun e => e.1.data)).length = kvs.length := by rw [List.length_zip, List.length_map, List.length_map, Nat.min_self]
  refine wpAny_bind (wpAny_holding (PySem.W.list_sort_data (A := X.A.in1) (s := { s with heap := h'.push { cls := .type "list", data := .seq vs.toArray }, toks := tk }) (a := h'.objs.size) (n := 0) (enc := fun b : V × PyData => b.2) (R := fun u b => RelV b.1 u) (bs := (kvs.map fun e => V.ref e.2.1).zip (kvs.map fun e => e.1.data)) (vs := vs)
    hob (er.mono fun _ _ z => z.1) (er.mono fun _ _ z => z.2) (by rw [em]; exact hal) (by rw [em]; exact hsb) (by rw [hzz]; exact hz) (fun b hb => ?_) (fun out ho eo => ?_)))
  · have m1 : b.2 ∈ kvs.map fun e => e.1.data := (List.of_mem_zip hb).2
    obtain ⟨e, he, e2⟩ := List.mem_map.mp m1
    have := nk_depth e.1
    have := (nd.keys e he).2
    rw [← e2]
    show X.A.units + 1 + 1 + _ < cLine
    omega
  · have ev2 := each_vals eo
    have hp := (srt_perm hzl).length_eq
    obtain ⟨eF, heF⟩ := PyProof.Rows.sortedHeap_at (vs := vs) (out := out.toArray) hob
    have hlen : (srt (kvs.map fun e => V.ref e.2.1) (kvs.map fun e => e.1.data)).length ≤ sizeLine := by
      rw [hp, List.length_map]
      exact hz
    refine wpAny_pure ⟨_, rfl, .ref h'.objs.size, upd H h'.objs.size (.lst (srt (kvs.map fun e => V.ref e.2.1) (kvs.map fun e => e.1.data))), I1.laid (t' := tk) (fun b u e => ?_) (Nat.le_refl _) (show ObjOk X.prog X.w _ _ _ (.lst (srt (kvs.map fun e => V.ref e.2.1) (kvs.map fun e => e.1.data))) from ⟨hlen, out.toArray.toList, eF, ev2, heF⟩), rfl, q _ (I1.hok.fresh (Nat.le_refl _))⟩
    have hb : b < h'.objs.size := Heap.lt_size e
    rw [PyProof.Rows.sortedHeap_old (Nat.ne_of_lt hb) (by rw [Heap.size_push]; exact Nat.lt_succ_of_lt hb)]
    exact kb _ _ e
end
end NB

/-! classes of numbers: first ones, their places, rows, tables of ways -/
namespace NB
open PySem PySem.Spec PyProof.Rows L2 LamX
/-! ### first occurrences -/
def addF (acc : List Nat) (x : Nat) : List Nat := if x ∈ acc then acc else acc ++ [x]
def frs (l : List Nat) : List Nat := l.foldl addF []
theorem frs_snoc (l : List Nat) (x : Nat) : frs (l ++ [x]) = addF (frs l) x := by
  unfold frs
  rw [List.foldl_append]
  rfl
theorem mem_addF {acc : List Nat} {x y : Nat} : y ∈ addF acc x ↔ y ∈ acc ∨ y = x := by
  unfold addF
  split
  · rename_i h
    constructor
    · exact .inl
    · rintro (z | z)
      · exact z
      · rw [z]
        exact h
  · rw [List.mem_append, List.mem_singleton]
theorem mem_foldF : ∀ (l acc : List Nat) {y : Nat}, y ∈ l.foldl addF acc ↔ y ∈ acc ∨ y ∈ l
  | [], acc, y => by simp
  | x :: l, acc, y => by
    rw [List.foldl_cons, mem_foldF l, mem_addF, List.mem_cons]
    constructor
    · rintro ((h | h) | h)
      · exact .inl h
      · exact .inr (.inl h)
      · exact .inr (.inr h)
    · rintro (h | h | h)
      · exact .inl (.inl h)
      · exact .inl (.inr h)
      · exact .inr h
theorem mem_frs {l : List Nat} {y : Nat} : y ∈ frs l ↔ y ∈ l := by
  unfold frs
  rw [mem_foldF]
  simp
theorem nodup_foldF : ∀ (l acc : List Nat), acc.Nodup → (l.foldl addF acc).Nodup
  | [], _, h => h
  | x :: l, acc, h => by
    refine nodup_foldF l _ ?_
    unfold addF
    split
    · exact h
    · rename_i hn
      rw [List.nodup_append]
      refine ⟨h, by simp, fun a ha b hb e => hn ?_⟩
      rw [List.mem_singleton] at hb
      rw [← hb, ← e]
      exact ha
theorem nodup_frs (l : List Nat) : (frs l).Nodup := nodup_foldF l [] List.nodup_nil
theorem len_foldF : ∀ (l acc : List Nat), (l.foldl addF acc).length ≤ acc.length + l.length
  | [], _ => Nat.le_refl _
  | x :: l, acc => by
    have := len_foldF l (addF acc x)
    have h2 : (addF acc x).length ≤ acc.length + 1 := by
      unfold addF
      split
      · omega
      · rw [List.length_append]
        exact Nat.le_refl _
    rw [List.foldl_cons, List.length_cons]
    omega
theorem len_frs (l : List Nat) : (frs l).length ≤ l.length := by
  have := len_foldF l []
  rw [List.length_nil, Nat.zero_add] at this
  exact this
def posN : List Nat → Nat → Nat
  | [], _ => 0
  | y :: l, x => if y = x then 0 else posN l x + 1
theorem posN_get : ∀ {l : List Nat} {x : Nat}, x ∈ l → l[posN l x]? = some x
  | [], _, h => nomatch h
  | y :: l, x, h => by
    unfold posN
    by_cases e : y = x
    · rw [if_pos e, e]
      rfl
    · rw [if_neg e]
      have := (List.mem_cons.mp h).resolve_left fun z => e z.symm
      rw [List.getElem?_cons_succ]
      exact posN_get this
theorem posN_lt {l : List Nat} {x : Nat} (h : x ∈ l) : posN l x < l.length := (List.getElem?_eq_some_iff.mp (posN_get h)).1
theorem posN_inj {l : List Nat} {x y : Nat} (hx : x ∈ l) (hy : y ∈ l) (e : posN l x = posN l y) : x = y := by
  have a := posN_get hx
  rw [e, posN_get hy] at a
  exact (Option.some.inj a).symm
theorem posN_app : ∀ {l : List Nat} (m : List Nat) {x : Nat}, x ∈ l → posN (l ++ m) x = posN l x
  | [], _, _, h => nomatch h
  | y :: l, m, x, h => by
    rw [List.cons_append]
    unfold posN
    by_cases e : y = x
    · rw [if_pos e, if_pos e]
    · rw [if_neg e, if_neg e, posN_app m ((List.mem_cons.mp h).resolve_left fun z => e z.symm)]
theorem posN_new : ∀ {l : List Nat} {x : Nat}, x ∉ l → posN (l ++ [x]) x = l.length
  | [], x, _ => by
    show posN [x] x = 0
    unfold posN
    rw [if_pos rfl]
  | y :: l, x, h => by
    rw [List.cons_append]
    unfold posN
    rw [if_neg fun z => h (by rw [z]; exact List.mem_cons_self ..), posN_new fun z => h (List.mem_cons_of_mem _ z)]
    rfl
theorem posN_at : ∀ {l : List Nat} {q x : Nat}, l.Nodup → l[q]? = some x → posN l x = q
  | [], _, _, _, h => by simp at h
  | y :: l, 0, x, _, h => by
    have e : y = x := by simpa using h
    unfold posN
    rw [if_pos e]
  | y :: l, q + 1, x, nd, h => by
    rw [List.nodup_cons] at nd
    have h2 : l[q]? = some x := by simpa using h
    have ne : y ≠ x := fun z => nd.1 (by rw [z]; exact List.mem_of_getElem? h2)
    unfold posN
    rw [if_neg ne, posN_at nd.2 h2]
/-! ### a dict of places by numbers -/
def NumOk (kvs : List (Key × V)) (F : List Nat) : Prop := ∀ x : Nat, valV kvs (Sum.inl (x : Int)) = if x ∈ F then some (.int (posN F x : Int)) else none
theorem NumOk.put {kvs : List (Key × V)} {F : List Nat} (h : NumOk kvs F) {x : Nat} (hx : x ∉ F) : NumOk (putK kvs (Sum.inl (x : Int)) (.int (F.length : Int))) (F ++ [x]) ∧ (putK kvs (Sum.inl (x : Int)) (.int (F.length : Int))).length = kvs.length + 1 := by
  have hn : valV kvs (Sum.inl (x : Int)) = none := by rw [h x, if_neg hx]
  rw [putK_new _ hn]
  refine ⟨fun y => ?_, by rw [List.length_append]; rfl⟩
  rw [valV_snoc _ _ _ _ hn, h y]
  by_cases e : y = x
  · subst e
    rw [if_pos rfl, if_pos (by simp), posN_new hx]
  · rw [if_neg fun z => e (by have := Sum.inl.inj z; omega)]
    by_cases m : y ∈ F
    · rw [if_pos m, if_pos (by simp [m]), posN_app _ m]
    · rw [if_neg m, if_neg (by simp [m, e])]
/-! ### rows -/
structure RwAt (H : Hp) (as : List Addr) (rs : List (List V)) : Prop where
  len : as.length = rs.length
  nd : as.Nodup
  get : ∀ (q : Nat) r us, as[q]? = some r → rs[q]? = some us → H r = some (.lst us)
theorem RwAt.nil (H : Hp) : RwAt H [] [] := ⟨rfl, List.nodup_nil, fun q r us h => by simp at h⟩
theorem RwAt.kp {H H' : Hp} {as : List Addr} {rs : List (List V)} (h : RwAt H as rs) (k : ∀ r ∈ as, ∀ o, H r = some o → H' r = some o) : RwAt H' as rs := ⟨h.len, h.nd, fun q r us a b => k r (List.mem_of_getElem? a) _ (h.get q r us a b)⟩
theorem RwAt.has {H : Hp} {as : List Addr} {rs : List (List V)} (h : RwAt H as rs) : ∀ r ∈ as, ∃ us, H r = some (.lst us) := fun r hr => by
  obtain ⟨q, hq⟩ := List.mem_iff_getElem?.mp hr
  have hl := (List.getElem?_eq_some_iff.mp hq).1
  exact ⟨_, h.get q r _ hq (List.getElem?_eq_getElem (by rw [← h.len]; exact hl))⟩
theorem RwAt.new {H : Hp} {as : List Addr} {rs : List (List V)} (h : RwAt H as rs) {r : Addr} (n : H r = none) : RwAt (upd H r (.lst [])) (as ++ [r]) (rs ++ [[]]) := by
  have nr : r ∉ as := fun m => by
    obtain ⟨us, hu⟩ := h.has r m
    rw [n] at hu
    cases hu
  refine ⟨by rw [List.length_append, List.length_append, h.len]; rfl, ?_, fun q s us a b => ?_⟩
  · rw [List.nodup_append]
    refine ⟨h.nd, by simp, fun x hx y hy e => nr ?_⟩
    rw [List.mem_singleton] at hy
    rw [← hy, ← e]
    exact hx
  · by_cases hq : q < as.length
    · rw [List.getElem?_append_left hq] at a
      rw [List.getElem?_append_left (by rw [← h.len]; exact hq)] at b
      rw [upd_ne fun z => nr (by rw [← z]; exact List.mem_of_getElem? a)]
      exact h.get q s us a b
    · have e : q = as.length := by
        have := (List.getElem?_eq_some_iff.mp a).1
        rw [List.length_append] at this
        have : ([r] : List Addr).length = 1 := rfl
        omega
      subst e
      rw [List.getElem?_append_right (Nat.le_refl _), Nat.sub_self] at a
      rw [List.getElem?_append_right (by rw [h.len]; exact Nat.le_refl _), h.len, Nat.sub_self] at b
      cases a
      cases b
      rw [upd_same]
theorem RwAt.app {H : Hp} {as : List Addr} {rs : List (List V)} (h : RwAt H as rs) {q : Nat} {r : Addr} {us : List V} {v : V} (a : as[q]? = some r) (b : rs[q]? = some us) : RwAt (upd H r (.lst (us ++ [v]))) as (rs.set q (us ++ [v])) := by
  refine ⟨by rw [List.length_set]; exact h.len, h.nd, fun p s ws c d => ?_⟩
  have hp := (List.getElem?_eq_some_iff.mp c).1
  have hq := (List.getElem?_eq_some_iff.mp a).1
  by_cases e : p = q
  · subst e
    rw [a] at c
    cases c
    rw [List.getElem?_set_self (by rw [← h.len]; exact hq)] at d
    cases d
    rw [upd_same]
  · rw [List.getElem?_set_ne (fun z => e z.symm)] at d
    have ne : s ≠ r := fun z => by
      rw [z] at c
      exact e ((List.getElem?_inj hp h.nd).mp (c.trans a.symm))
    rw [upd_ne ne]
    exact h.get p s ws c d
/-! ### tables of ways -/
structure TbOk (shs : List (Str × List Nat)) (c : Nat → Nat) (t : Nat) (kvs : List NE) : Prop where
  nd : (kvs.map (·.1)).Nodup
  of : ∀ e ∈ kvs, ∃ (i : Nat) (s : Str) (xs : List Nat), i < t ∧ shs[i]? = some (s, xs) ∧ e.1 = nkey s (xs.map c) ∧ e.2.2 = .int (c i : Int)
  at_ : ∀ (i : Nat) (s : Str) (xs : List Nat), i < t → shs[i]? = some (s, xs) → valN kvs (nkey s (xs.map c)) = some (.int (c i : Int))
  len : kvs.length ≤ t
theorem TbOk.nil (shs : List (Str × List Nat)) (c : Nat → Nat) : TbOk shs c 0 [] := ⟨List.nodup_nil, (fun e m => nomatch m), (fun i s xs h => absurd h (Nat.not_lt_zero _)), Nat.le_refl _⟩
theorem TbOk.put {shs : List (Str × List Nat)} {c : Nat → Nat} {t : Nat} {kvs : List NE} (h : TbOk shs c t kvs) (cg : ∀ (i j : Nat) (s : Str) (xs ys : List Nat), shs[i]? = some (s, xs) → shs[j]? = some (s, ys) → xs.map c = ys.map c → c i = c j)
    {s : Str} {xs : List Nat} (ht : shs[t]? = some (s, xs)) (b : Addr) : TbOk shs c (t + 1) (putN kvs (nkey s (xs.map c)) b (.int (c t : Int))) := by
  cases hv : valN kvs (nkey s (xs.map c)) with
  | none =>
    rw [putN_new hv]
    refine ⟨?_, fun e m => ?_, fun i s' xs' hi hs' => ?_, ?_⟩
    · rw [List.map_append, List.nodup_append]
      refine ⟨h.nd, by simp, fun x hx y hy e => ?_⟩
      obtain ⟨p, hp, rfl⟩ := List.mem_map.mp hx
      have hy2 : y = nkey s (xs.map c) := by simpa using hy
      exact valN_none hv p hp (e.trans hy2)
    · rcases List.mem_append.mp m with z | z
      · obtain ⟨i, s', xs', h1, h2⟩ := h.of e z
        exact ⟨i, s', xs', by omega, h2⟩
      · rw [List.mem_singleton.mp z]
        exact ⟨t, s, xs, by omega, ht, rfl, rfl⟩
    · rw [valN_app hv]
      by_cases e : nkey s (xs.map c) = nkey s' (xs'.map c)
      · obtain ⟨rfl, e2⟩ := nkey_inj e
        rw [if_pos e, cg t i s xs xs' ht hs' e2]
      · rw [if_neg e]
        by_cases hit : i < t
        · exact h.at_ i s' xs' hit hs'
        · have : i = t := by omega
          subst this
          rw [ht] at hs'
          cases hs'
          exact absurd rfl e
    · rw [List.length_append]
      have := h.len
      show _ + 1 ≤ _
      omega
  | some v =>
    have e0 : ∀ e ∈ kvs, e.1 = nkey s (xs.map c) → e.2.2 = .int (c t : Int) := fun e m z => by
      obtain ⟨i, s', xs', h1, h2, h3, h4⟩ := h.of e m
      rw [h3] at z
      obtain ⟨rfl, e2⟩ := nkey_inj z
      rw [h4, cg i t s' xs' xs h2 ht e2]
    have e1 : putN kvs (nkey s (xs.map c)) b (.int (c t : Int)) = kvs := by
      unfold putN
      rw [hv, if_pos (show (some v).isSome = true from rfl)]
      refine (List.map_congr_left fun e m => ?_).trans (List.map_id _)
      unfold repN
      by_cases z : e.1 = nkey s (xs.map c)
      · rw [if_pos z, ← e0 e m z]
        rfl
      · rw [if_neg z]
        rfl
    rw [e1]
    obtain ⟨b', hb'⟩ := valN_mem hv
    have hvt : v = .int (c t : Int) := e0 _ hb' rfl
    refine ⟨h.nd, fun e m => ?_, fun i s' xs' hi hs' => ?_, by have := h.len; omega⟩
    · obtain ⟨i, s', xs', h1, h2⟩ := h.of e m
      exact ⟨i, s', xs', by omega, h2⟩
    · by_cases hit : i < t
      · exact h.at_ i s' xs' hit hs'
      · have : i = t := by omega
        subst this
        rw [ht] at hs'
        cases hs'
        rw [hv, hvt]
/-- the class that an entry tells -/
def wq (e : NE) : Nat := match e.2.2 with
  | .int i => i.toNat
  | _ => 0
noncomputable def srtN (kvs : List NE) : List NE := kvs.mergeSort (PySem.W.dataLe false fun e : NE => e.1.data)
theorem srtN_perm (kvs : List NE) : (srtN kvs).Perm kvs := List.mergeSort_perm _ _
theorem srt_srtN (kvs : List NE) : srt (kvs.map fun e => V.ref e.2.1) (kvs.map fun e => e.1.data) = (srtN kvs).map fun e => V.ref e.2.1 := by
  unfold srt srtN
  rw [List.zip_map']
  have q := List.map_mergeSort (r := PySem.W.dataLe false fun e : NE => e.1.data) (s := PySem.W.dataLe false fun b : V × PyData => b.2) (f := fun e : NE => (V.ref e.2.1, e.1.data)) (l := kvs) fun i _ j _ => rfl
  rw [← q, List.map_map]
  rfl
theorem nums_alike : ∀ a b : List Nat, PySem.W.alikeAll (NestedKey.datas (a.map fun i : Nat => NestedKey.num (i : Int))) (NestedKey.datas (b.map fun i : Nat => NestedKey.num (i : Int))) = true
  | [], _ => by rw [List.map_nil, NestedKey.datas, PySem.W.alikeAll]
  | x :: a, [] => by rw [List.map_nil, List.map_cons, NestedKey.datas, NestedKey.datas, PySem.W.alikeAll]
  | x :: a, y :: b => by
    rw [List.map_cons, List.map_cons, NestedKey.datas, NestedKey.datas, PySem.W.alikeAll, nums_alike a b, NestedKey.data, NestedKey.data, PySem.W.alike]
    rfl
theorem nkey_alike (s s' : Str) (a b : List Nat) : PySem.W.alike (nkey s a).data (nkey s' b).data = true := by
  unfold nkey
  rw [NestedKey.data, NestedKey.data, NestedKey.datas, NestedKey.datas, NestedKey.datas, NestedKey.datas, NestedKey.datas, NestedKey.data, NestedKey.data, NestedKey.data, NestedKey.data, PySem.W.alike, PySem.W.alikeAll, PySem.W.alikeAll, PySem.W.alikeAll, PySem.W.alike, PySem.W.alike, nums_alike]
  rfl
theorem TbOk.alike {shs : List (Str × List Nat)} {c : Nat → Nat} {t : Nat} {kvs : List NE} (h : TbOk shs c t kvs) : PySem.W.AllAlike (kvs.map fun e => e.1.data) := fun d hd e he => by
  obtain ⟨x, hx, rfl⟩ := List.mem_map.mp hd
  obtain ⟨y, hy, rfl⟩ := List.mem_map.mp he
  obtain ⟨_, s, xs, _, _, h1, _⟩ := h.of x hx
  obtain ⟨_, s', ys, _, _, h2, _⟩ := h.of y hy
  rw [h1, h2]
  exact nkey_alike _ _ _ _
theorem TbOk.srt {shs : List (Str × List Nat)} {c : Nat → Nat} {t : Nat} {kvs : List NE} (h : TbOk shs c t kvs) : PySem.W.Sortable (kvs.map fun e => e.1.data) := .inl fun d hd => by
  obtain ⟨x, hx, rfl⟩ := List.mem_map.mp hd
  obtain ⟨_, s, xs, _, _, h1, _⟩ := h.of x hx
  rw [h1]
  unfold nkey
  rw [NestedKey.data, NestedKey.datas]
  exact ⟨_, _, rfl⟩
end NB

namespace NB
open PySem PySem.Spec PyProof.Rows L2 LamX
/-! ### is_integer -/
theorem sc_is_integer : FnScope ["thing"] ["thing"] (defScope s_is_integer) := ⟨rfl, rfl, rfl, by decide +kernel, rfl, by decide +kernel, by decide +kernel⟩
def sp_is_integer (K : PySem.W.Frag) : Sp := fun vs H Q _ => ∃ v d, vs = [v] ∧ Jp K H v d ∧ Q (.bl (isIntD d)) H
theorem ok_is_integer {P : Program} {w : World} {K : PySem.W.Frag} {mg : Str → Option Value} {base : Heap} (T : Tx K mg)  : FnOk P w K mg base CX0 1 T.a_is_integer T.d_is_integer ["thing"] (sp_is_integer K) := by
  refine T.F_is_integer.ok sc_is_integer (fun vs H Q E h => ?_) (fun cdv A outer s H vs Q E hr h => ?_)
  · obtain ⟨v, d, rfl, _⟩ := h
    rfl
  · obtain ⟨v, d, rfl, j, k⟩ := h
    refine ⟨_, (pss_one (ps_ret (pe_and (pe_callB call_isi (by rfl) T.z_isinstance (by decide +kernel) (pa_cons (pv 0) (pa_cons (pe_bltn (v := .ty "int") (u := .type "int") (by rfl) T.z_int (by decide +kernel) rfl) pa_nil))) (pe_one (pe_not (pe_callB call_isi (by rfl) T.z_isinstance (by decide +kernel) (pa_cons (pv 0) (pa_cons (pe_bltn (v := .ty "bool") (u := .type "bool") (by rfl) T.z_bool (by decide +kernel) rfl) pa_nil)))))))), ?_⟩
    obtain ⟨t, t1, t2⟩ := j.tyInt
    obtain ⟨u, u1, u2⟩ := j.tyBool
    refine ⟨_, rfl, _, _, t, _, _, rfl, .ty "int", t1, t2, _, rfl, ?_⟩
    cases d <;> first
      | exact k
      | exact ⟨_, _, rfl, _, _, u, _, _, rfl, .ty "bool", u1, u2, rfl, k⟩
      | exact ⟨_, rfl, _, _, u, _, _, rfl, .ty "bool", u1, u2, _, rfl, k⟩
      | exact ⟨_, ⟨_, rfl, _, _, u, _, _, rfl, .ty "bool", u1, u2, rfl, k⟩⟩

end NB

namespace NB
open PySem PySem.Spec PyProof.Rows L2 LamX
/-! ### is_number_below -/
theorem sc_is_number_below : FnScope ["thing", "limit"] ["thing", "limit"] (defScope s_is_number_below) := ⟨rfl, rfl, rfl, by decide +kernel, rfl, by decide +kernel, by decide +kernel⟩
def sp_is_number_below (K : PySem.W.Frag) : Sp := fun vs H Q _ => ∃ v d n, vs = [v, .int n] ∧ Jp K H v d ∧ Q (.bl (belowD n d)) H
theorem ok_is_number_below {P : Program} {w : World} {K : PySem.W.Frag} {mg : Str → Option Value} {base : Heap} (T : Tx K mg)  : FnOk P w K mg base CX0 2 T.a_is_number_below T.d_is_number_below ["thing", "limit"] (sp_is_number_below K) := by
  refine T.F_is_number_below.ok sc_is_number_below (fun vs H Q E h => ?_) (fun cdv A outer s H vs Q E hr h => ?_)
  · obtain ⟨v, d, n, rfl, _⟩ := h
    rfl
  · obtain ⟨v, d, n, rfl, j, k⟩ := h
    refine ⟨_, (pss_one (ps_ret (pe_and (pe_call (ok_is_integer T) (hr.mono (by first | decide | omega)) rfl T.m_is_integer T.F_is_integer.kp T.b_is_integer .nil pass0 (pa_cons (pv 0) pa_nil)) (pe_one (pe_chain op_le op_lt pe_int (pv 0) (pv 1)))))), ?_⟩
    refine ⟨_, rfl, v, d, rfl, j, _, rfl, ?_⟩
    cases j with
    | int i =>
      refine ⟨_, rfl, _, _, rfl, rfl, _, rfl, ?_⟩
      have k : Q (.bl (decide (0 ≤ i) && decide (i < n))) H := k
      by_cases h0 : (0 : Int) ≤ i
      · rw [decide_eq_true h0] at k ⊢
        exact ⟨_, rfl, _, _, rfl, rfl, k⟩
      · rw [decide_eq_false h0] at k ⊢
        exact k
    | _ => exact k

/-! ### is_tuple_of -/
theorem sc_is_tuple_of : FnScope ["thing", "many"] ["thing", "many"] (defScope s_is_tuple_of) := ⟨rfl, rfl, rfl, by decide +kernel, rfl, by decide +kernel, by decide +kernel⟩
def sp_is_tuple_of (K : PySem.W.Frag) : Sp := fun vs H Q _ => ∃ v d n, vs = [v, .int n] ∧ Jp K H v d ∧ Q (.bl (isTupD d && decide (((itemsD d).length : Int) = n))) H
theorem ok_is_tuple_of {P : Program} {w : World} {K : PySem.W.Frag} {mg : Str → Option Value} {base : Heap} (T : Tx K mg)  : FnOk P w K mg base CX0 1 T.a_is_tuple_of T.d_is_tuple_of ["thing", "many"] (sp_is_tuple_of K) := by
  refine T.F_is_tuple_of.ok sc_is_tuple_of (fun vs H Q E h => ?_) (fun cdv A outer s H vs Q E hr h => ?_)
  · obtain ⟨v, d, n, rfl, _⟩ := h
    rfl
  · obtain ⟨v, d, n, rfl, j, k⟩ := h
    refine ⟨_, (pss_one (ps_ret (pe_and (pe_callB call_isi (by rfl) T.z_isinstance (by decide +kernel) (pa_cons (pv 0) (pa_cons (pe_bltn (v := .ty "tuple") (u := .type "tuple") (by rfl) T.z_tuple (by decide +kernel) rfl) pa_nil))) (pe_one (pe_cmpR op_eq (pe_callB call_len_seq (by rfl) T.z_len (by decide +kernel) (pa_cons (pv 0) pa_nil)) (pv 1) (nomark _)))))), ?_⟩
    obtain ⟨t, t1, t2⟩ := j.tyTup
    refine ⟨_, rfl, _, _, t, _, _, rfl, .ty "tuple", t1, t2, _, rfl, ?_⟩
    cases j with
    | @tup a xs ds hs ha =>
      refine ⟨_, rfl, a, xs, rfl, .inr hs, _, rfl, rfl, ?_⟩
      have e : decide (V.int ((xs.length : Nat) : Int) = V.int n) = decide ((ds.length : Int) = n) := by
        rw [← ha.len]
        exact decide_eq_decide.mpr ⟨V.int.inj, congrArg V.int⟩
      show Q (.bl (decide (V.int ((xs.length : Nat) : Int) = V.int n))) H
      rw [e]
      exact k
    | _ => exact k

end NB

namespace NB
open PySem PySem.Spec PyProof.Rows L2 LamX
/-! ### is_sign -/
theorem sc_is_sign : FnScope ["thing", "letter"] ["thing"] (defScope s_is_sign) := ⟨rfl, rfl, rfl, by decide +kernel, rfl, by decide +kernel, by decide +kernel⟩
def sp_is_sign (K : PySem.W.Frag) : Sp := fun vs H Q _ => ∃ v d, vs = [v] ∧ Jp K H v d ∧ shortD d = true ∧ ∀ H', Same H H' → Q (.bl (signD d)) H'
theorem ok_is_sign {P : Program} {w : World} {K : PySem.W.Frag} {mg : Str → Option Value} {base : Heap} (T : Tx K mg)  : FnOk P w K mg base CX0 1 T.a_is_sign T.d_is_sign ["thing"] (sp_is_sign K) := by
  refine T.F_is_sign.ok sc_is_sign (fun vs H Q E h => ?_) (fun cdv A outer s H vs Q E hr h => ?_)
  · obtain ⟨v, d, rfl, _⟩ := h
    rfl
  · obtain ⟨v, d, rfl, j, hz, k⟩ := h
    refine ⟨_, (pss_cons (ps_if (PW.pt (pw_or (pt_not (pt_val (pe_callB call_isi (by rfl) T.z_isinstance (by decide +kernel) (pa_cons (pv 0) (pa_cons (pe_bltn (v := .ty "str") (u := .type "str") (by rfl) T.z_str (by decide +kernel) rfl) pa_nil))))) (pw_or1 (pt_not (pt_chain op_le op_le pe_int (pe_callB call_len_str (by rfl) T.z_len (by decide +kernel) (pa_cons (pv 0) pa_nil)) (pe_glob rfl T.m_MOST_LETTERS T.r_MOST_LETTERS)))))) (pss_one (ps_ret pe_bl)) pss_nil) (pss_one (ps_ret (pe_callB (cr_all rfl) (by rfl) T.z_all (by decide +kernel) (pa_cons (pe_lc (own := [("letter", 1)]) rfl sc_is_sign.nd (pi_str (pv 0)) (blkOk_by (own := [("letter", 1)]) (N := ["thing", "letter"]) (sc := defScope s_is_sign) (by decide +kernel)) (fun _ _ _ _ _ => (pg_name (i := 1) sc_is_sign.nd rfl (by first | exact Or.inl rfl | exact Or.inr rfl))) (fun _ _ _ _ _ => pts_nil) (fun _ _ _ _ _ => (pe_cmpR op_in_sign (pv 1) (pe_glob rfl T.m_LETTERS T.r_LETTERS) (by rfl)))) pa_nil))))), ?_⟩
    obtain ⟨t, t1, t2⟩ := j.tyStr
    refine ⟨_, rfl, _, _, t, _, _, rfl, .ty "str", t1, t2, _, rfl, ?_⟩
    have k0 : signD d = false → Q (.bl false) H := fun e => e ▸ k H (Same.refl H)
    cases j with
    | str x =>
      have hx := shortD_str hz
      have hzl : 100000 < sizeLine := by decide
      refine ⟨_, rfl, x, rfl, by omega, _, _, rfl, rfl, _, rfl, ?_⟩
      have hn : (x.length : Int) = ((x.length : Nat) : Int) := rfl
      by_cases h1 : (1 : Int) ≤ (x.length : Int)
      · rw [decide_eq_true h1]
        refine ⟨_, _, rfl, rfl, _, rfl, ?_⟩
        by_cases h8 : (x.length : Int) ≤ 8
        · rw [decide_eq_true h8]
          refine ⟨_, rfl, x, rfl, fun D hD => lc_it (walk_str (z := x)) (fun i H' => Same H H' ∧ H' D = some (.lst ((x.cps.toList.take i).map fun c => V.bl (decide (c ∈ lettersZ.cps.toList)))))
            ⟨same_new hD, upd_same⟩ (fun _ _ _ _ => True.intro) (fun i y H1 H' hi q ⟨e, c, hc, ey⟩ => ?_) (fun H' q => ?_)⟩
          · subst e ey
            have hc' : x.cps.toList[i]? = some c := by rw [Array.getElem?_toList]; exact hc
            refine ⟨rfl, _, rfl, c, lettersZ, rfl, rfl, _, q.2, ?_, q.1.upd hD, ?_⟩
            · rw [List.length_map, List.length_take]
              have : x.cps.size = x.length := rfl
              omega
            · rw [upd_same, take_snoc hc', List.map_append]
              rfl
          · have e1 : x.cps.toList.take x.cps.size = x.cps.toList := by rw [← Array.length_toList, List.take_length]
            rw [e1] at q
            refine ⟨D, x.cps.toList.map fun c => decide (c ∈ lettersZ.cps.toList), rfl, .inl (.inl (by rw [q.2, List.map_map]; rfl)), ?_⟩
            rw [all_map]
            have e2 : signD (.str x) = x.cps.toList.all fun c => decide (c ∈ lettersZ.cps.toList) := by
              show (decide (1 ≤ x.length) && (decide (x.length ≤ 8) && _)) = _
              rw [decide_eq_true (by omega : 1 ≤ x.length), decide_eq_true (by omega : x.length ≤ 8)]
              rfl
            have z := k _ q.1
            rw [e2] at z
            exact z
        · rw [decide_eq_false h8]
          refine k0 ?_
          show (decide (1 ≤ x.length) && (decide (x.length ≤ 8) && _)) = _
          rw [decide_eq_false (by omega : ¬ x.length ≤ 8), Bool.false_and, Bool.and_false]
      · rw [decide_eq_false h1]
        refine ⟨_, rfl, k0 ?_⟩
        show (decide (1 ≤ x.length) && (decide (x.length ≤ 8) && _)) = _
        rw [decide_eq_false (by omega : ¬ 1 ≤ x.length), Bool.false_and]
    | _ => exact k0 rfl

end NB

namespace NB
open PySem PySem.Spec PyProof.Rows L2 LamX
/-! ### is_placed_sign -/
theorem sc_is_placed_sign : FnScope ["thing"] ["thing"] (defScope s_is_placed_sign) := ⟨rfl, rfl, rfl, by decide +kernel, rfl, by decide +kernel, by decide +kernel⟩
def sp_is_placed_sign (K : PySem.W.Frag) : Sp := fun vs H Q _ => ∃ v d, vs = [v] ∧ Jp K H v d ∧ shortD d = true ∧ ∀ H', Same H H' → Q (.bl (placedD d)) H'
theorem ok_is_placed_sign {P : Program} {w : World} {K : PySem.W.Frag} {mg : Str → Option Value} {base : Heap} (T : Tx K mg)  : FnOk P w K mg base CX0 3 T.a_is_placed_sign T.d_is_placed_sign ["thing"] (sp_is_placed_sign K) := by
  refine T.F_is_placed_sign.ok sc_is_placed_sign (fun vs H Q E h => ?_) (fun cdv A outer s H vs Q E hr h => ?_)
  · obtain ⟨v, d, rfl, _⟩ := h
    rfl
  · obtain ⟨v, d, rfl, j, hz, k⟩ := h
    refine ⟨_, (pss_one (ps_ret (pe_and (pe_call (ok_is_tuple_of T) (hr.mono (by first | decide | omega)) rfl T.m_is_tuple_of T.F_is_tuple_of.kp T.b_is_tuple_of .nil pass0 (pa_cons (pv 0) (pa_cons pe_int pa_nil))) (pe_and (pe_call (ok_is_sign T) (hr.mono (by first | decide | omega)) rfl T.m_is_sign T.F_is_sign.kp T.b_is_sign .nil pass0 (pa_cons (pe_ix ix_tup (pv 0) pe_int (fun _ _ => rfl)) pa_nil)) (pe_one (pe_call (ok_is_number_below T) (hr.mono (by first | decide | omega)) rfl T.m_is_number_below T.F_is_number_below.kp T.b_is_number_below .nil pass0 (pa_cons (pe_ix ix_tup (pv 0) pe_int (fun _ _ => rfl)) (pa_cons (pe_op op_add (pe_glob rfl T.m_MOST_PLACES T.r_MOST_PLACES) pe_int) pa_nil)))))))), ?_⟩
    refine ⟨_, rfl, v, d, 2, rfl, j, _, rfl, ?_⟩
    have k0 : placedD d = false → Q (.bl false) H := fun e => e ▸ k H (Same.refl H)
    cases j with
    | @tup a xs ds hs ha =>
      by_cases hl : ds.length = 2
      · obtain ⟨vs, vn, s, n, rfl, rfl, h1, h2⟩ := ha.two hl
        have q := (shortD_tup hz).2
        refine ⟨_, rfl, a, _, _, _, rfl, rfl, hs, atI_nat (j := 0) rfl, vs, s, rfl, h1, shortsD_get (i := 0) q rfl, fun H1 s1 => ⟨_, rfl, ?_⟩⟩
        have kk := k H1 s1
        have e : placedD (.tuple [s, n]) = (signD s && belowD 3 n) := rfl
        rw [e] at kk
        cases e1 : signD s with
        | false =>
          rw [e1] at kk
          exact kk
        | true =>
          rw [e1] at kk
          refine ⟨_, rfl, a, _, _, _, rfl, rfl, SqT.same hs s1, atI_nat (j := 1) rfl, _, _, rfl, rfl, vn, n, 3, rfl, Jp.same s1 _ _ h2, ?_⟩
          exact kk
      · have e1 : (isTupD (.tuple ds) && decide (((itemsD (.tuple ds)).length : Int) = 2)) = false := by
          show (true && decide ((ds.length : Int) = 2)) = false
          rw [decide_eq_false (by omega)]
          rfl
        rw [e1]
        exact k0 (placedD_ne hl)
    | _ => exact k0 rfl

end NB

namespace NB
open PySem PySem.Spec PyProof.Rows L2 LamX
/-! ### are_signs -/
theorem sc_are_signs : FnScope ["thing", "pair", "k", "_", "places"] ["thing"] (defScope s_are_signs) := ⟨rfl, rfl, rfl, by decide +kernel, rfl, by decide +kernel, by decide +kernel⟩
def sp_are_signs (K : PySem.W.Frag) : Sp := fun vs H Q _ => ∃ v d, vs = [v] ∧ Jp K H v d ∧ shortD d = true ∧ ∀ H', Same H H' → Q (.bl (signsD d)) H'
theorem ok_are_signs {P : Program} {w : World} {K : PySem.W.Frag} {mg : Str → Option Value} {base : Heap} (T : Tx K mg)  : FnOk P w K mg base CX0 4 T.a_are_signs T.d_are_signs ["thing"] (sp_are_signs K) := by
  refine T.F_are_signs.ok sc_are_signs (fun vs H Q E h => ?_) (fun cdv A outer s H vs Q E hr h => ?_)
  · obtain ⟨v, d, rfl, _⟩ := h
    rfl
  · obtain ⟨v, d, rfl, j, hz, k⟩ := h
    refine ⟨_, (pss_cons (ps_if (PW.pt (pw_or (pt_not (pt_val (pe_callB call_isi (by rfl) T.z_isinstance (by decide +kernel) (pa_cons (pv 0) (pa_cons (pe_bltn (v := .ty "tuple") (u := .type "tuple") (by rfl) T.z_tuple (by decide +kernel) rfl) pa_nil))))) (pw_or1 (pt_not (pt_chain op_le op_le pe_int (pe_callB call_len_seq (by rfl) T.z_len (by decide +kernel) (pa_cons (pv 0) pa_nil)) (pe_glob rfl T.m_MOST_SIGNS T.r_MOST_SIGNS)))))) (pss_one (ps_ret pe_bl)) pss_nil) (pss_cons (ps_if (pt_not (pt_val (pe_callB (cr_all rfl) (by rfl) T.z_all (by decide +kernel) (pa_cons (pe_lc (own := [("pair", 1)]) rfl sc_are_signs.nd (pi_tup (pv 0)) (blkOk_by (own := [("pair", 1)]) (N := ["thing", "pair", "k", "_", "places"]) (sc := defScope s_are_signs) (by decide +kernel)) (fun _ _ _ _ _ => (pg_name (i := 1) sc_are_signs.nd rfl (by first | exact Or.inl rfl | exact Or.inr rfl))) (fun _ _ _ _ _ => pts_nil) (fun _ _ _ _ _ => (pe_call (ok_is_placed_sign T) (hr.mono (by first | decide | omega)) rfl T.m_is_placed_sign T.F_is_placed_sign.kp T.b_is_placed_sign .nil pass0 (pa_cons (pv 1) pa_nil)))) pa_nil)))) (pss_one (ps_ret pe_bl)) pss_nil) (pss_cons (ps_if (pt_not (pt_val (pe_callB (cr_all rfl) (by rfl) T.z_all (by decide +kernel) (pa_cons (pe_lc (own := [("k", 2)]) rfl sc_are_signs.nd (pi_range1 (by rfl) T.z_range (pa_cons (pe_op op_sub (pe_callB call_len_seq (by rfl) T.z_len (by decide +kernel) (pa_cons (pv 0) pa_nil)) pe_int) pa_nil)) (blkOk_by (own := [("k", 2)]) (N := ["thing", "pair", "k", "_", "places"]) (sc := defScope s_are_signs) (by decide +kernel)) (fun _ _ _ _ _ => (pg_name (i := 2) sc_are_signs.nd rfl (by first | exact Or.inl rfl | exact Or.inr rfl))) (fun _ _ _ _ _ => pts_nil) (fun _ _ _ _ _ => (pe_cmpR op_lt_str (pe_ix (show IxR _ (rIxT K) from ix_tup) (pe_ix (show IxR _ (rIxT K) from ix_tup) (pv 0) (pv 2) (fun _ _ => rfl)) pe_int (fun _ _ => rfl)) (pe_ix (show IxR _ (rIxT K) from ix_tup) (pe_ix (show IxR _ (rIxT K) from ix_tup) (pv 0) (pe_op op_add (pv 2) pe_int) (fun _ _ => rfl)) pe_int (fun _ _ => rfl)) (nomark _)))) pa_nil)))) (pss_one (ps_ret pe_bl)) pss_nil) (pss_one (ps_ret (pe_callB (cr_any rfl) (by rfl) T.z_any (by decide +kernel) (pa_cons (pe_lc (own := [("_", 3), ("places", 4)]) rfl sc_are_signs.nd (pi_tup (pv 0)) (blkOk_by (own := [("_", 3), ("places", 4)]) (N := ["thing", "pair", "k", "_", "places"]) (sc := defScope s_are_signs) (by decide +kernel)) (fun _ _ _ _ _ => (show PG _ _ (gTup K 2 (gCons (gName 3) (gCons (gName 4) gNil))) from pg_tup rfl (pgs_cons (pg_name (i := 3) sc_are_signs.nd rfl (by first | exact Or.inl rfl | exact Or.inr rfl)) (pgs_cons (pg_name (i := 4) sc_are_signs.nd rfl (by first | exact Or.inl rfl | exact Or.inr rfl)) pgs_nil)))) (fun _ _ _ _ _ => pts_nil) (fun _ _ _ _ _ => (pe_cmpR op_eq (pv 4) pe_int (nomark _)))) pa_nil))))))), ?_⟩
    obtain ⟨t, t1, t2⟩ := j.tyTup
    refine ⟨_, rfl, _, _, t, _, _, rfl, .ty "tuple", t1, t2, _, rfl, ?_⟩
    have k0 : ∀ H', Same H H' → signsD d = false → Q (.bl false) H' := fun H' s' e => e ▸ k H' s'
    cases j with
    | @tup a xs ds hs ha =>
      have hzl : 100000 < sizeLine := by decide
      have hd := (shortD_tup hz).1
      have hlen := ha.len
      have ef : signsD (.tuple ds) = ((decide (1 ≤ ds.length) && decide (ds.length ≤ 12)) && (ds.all placedD && (ascS (ds.map sgD) && ds.any fun p => decide (plD p = 0)))) := rfl
      refine ⟨_, rfl, a, xs, rfl, .inr hs, _, _, rfl, rfl, _, rfl, ?_⟩
      by_cases h1 : (1 : Int) ≤ (xs.length : Int)
      · rw [decide_eq_true h1]
        refine ⟨_, _, rfl, rfl, _, rfl, ?_⟩
        by_cases h12 : (xs.length : Int) ≤ 12
        · rw [decide_eq_true h12]
          rw [decide_eq_true (by omega : 1 ≤ ds.length), decide_eq_true (by omega : ds.length ≤ 12)] at ef
          -- all are placed signs
          refine ⟨_, rfl, a, rfl, ⟨_, hs⟩, fun D hD => lc_tup (K := K) (a := a) (xs := xs) (fun i H' => Same H H' ∧ H' D = some (.lst ((ds.take i).map fun d => V.bl (placedD d))))
            ⟨same_new hD, upd_same⟩ (fun i H' _ q => SqT.same hs q.1) (fun i x H' hx q => ?_) (fun H1 q1 => ?_)⟩
          · obtain ⟨d, hd, jd⟩ := ha.get hx
            have hi : i < xs.length := (List.getElem?_eq_some_iff.mp hx).1
            refine ⟨rfl, _, rfl, x, d, rfl, Jp.same q.1 _ _ jd, shortsD_get (shortD_tup hz).2 hd, fun H2 s2 => ⟨_, s2 _ _ q.2, ?_, (q.1.trans s2).upd hD, ?_⟩⟩
            · rw [List.length_map, List.length_take]
              omega
            · rw [upd_same, take_snoc hd, List.map_append]
              rfl
          · rw [hlen, List.take_length] at q1
            refine ⟨D, ds.map placedD, rfl, .inl (.inl (by rw [q1.2, List.map_map]; rfl)), _, rfl, ?_⟩
            rw [all_map]
            cases ep : ds.all placedD with
            | false => exact k0 _ q1.1 (by rw [ef, ep]; rfl)
            | true =>
              rw [ep] at ef
              have g : ∀ i : Nat, i < ds.length → ∃ b, atI xs ((i : Nat) : Int) = some (.ref b) ∧ SqT K H b [.str ((ds.map sgD).getD i ""), .int ((ds.map plD).getD i 0)] := fun i hi => by
                obtain ⟨b, b1, b2⟩ := ha.placed ep hi
                exact ⟨b, atI_nat b1, b2⟩
              -- the signs ascend
              have en : ((xs.length : Int) - 1).toNat = (ds.map sgD).length - 1 := by rw [List.length_map]; omega
              have hsl : (ds.map sgD).length = ds.length := List.length_map _
              refine ⟨_, rfl, a, _, rfl, .inr (SqT.same hs q1.1), _, _, rfl, rfl, _, rfl, by omega, by omega, fun D2 hD2 => ?_⟩
              have hD20 : H D2 = none := q1.1.free hD2
              rw [en]
              refine lc_range (lo := 0) (n := (ds.map sgD).length - 1) (fun i H' => Same H H' ∧ H' D2 = some (.lst ((List.range i).map fun k => V.bl (strLt ((ds.map sgD).getD k "") ((ds.map sgD).getD (k + 1) "")))))
                ⟨q1.1.upd hD20, upd_same⟩ (fun i H' hi q => ?_) (fun H2 q2 => ?_)
              · obtain ⟨b, b1, b2⟩ := g i (by omega)
                obtain ⟨c, c1, c2⟩ := g (i + 1) (by omega)
                have e0 : (0 : Int) + (i : Int) = ((i : Nat) : Int) := by omega
                have e1 : (0 : Int) + (i : Int) + 1 = ((i + 1 : Nat) : Int) := by omega
                refine ⟨rfl, _, rfl, _, rfl, a, _, _, _, rfl, rfl, SqT.same hs q.1, (by rw [e0]; exact b1), b, _, _, _, rfl, rfl, SqT.same b2 q.1, atI_nat (j := 0) rfl,
                  _, rfl, _, rfl, _, _, rfl, rfl, a, _, _, _, rfl, rfl, SqT.same hs q.1, (by rw [e1]; exact c1), c, _, _, _, rfl, rfl, SqT.same c2 q.1, atI_nat (j := 0) rfl, _, _, rfl, rfl, _, q.2, ?_, q.1.upd hD20, ?_⟩
                · rw [List.length_map, List.length_range]
                  omega
                · rw [upd_same, List.range_succ, List.map_append]
                  rfl
              · refine ⟨D2, (List.range ((ds.map sgD).length - 1)).map fun k => strLt ((ds.map sgD).getD k "") ((ds.map sgD).getD (k + 1) ""), rfl, .inl (.inl (by rw [q2.2, List.map_map]; rfl)), _, rfl, ?_⟩
                rw [all_map]
                cases ea : ascS (ds.map sgD) with
                | false =>
                  have ea' := ea
                  unfold ascS at ea'
                  rw [ea']
                  exact k0 _ q2.1 (by rw [ef, ea]; rfl)
                | true =>
                  rw [ea] at ef
                  unfold ascS at ea
                  rw [ea]
                  -- one has no places
                  refine ⟨_, rfl, a, rfl, ⟨_, SqT.same hs q2.1⟩, fun D3 hD3 => ?_⟩
                  have hD30 : H D3 = none := q2.1.free hD3
                  refine lc_tup (K := K) (a := a) (xs := xs) (fun i H' => Same H H' ∧ H' D3 = some (.lst ((ds.take i).map fun d => V.bl (decide (plD d = 0)))))
                    ⟨q2.1.upd hD30, upd_same⟩ (fun i H' _ q => SqT.same hs q.1) (fun i x H' hx q => ?_) (fun H3 q3 => ?_)
                  · have hi : i < ds.length := by
                      have := (List.getElem?_eq_some_iff.mp hx).1
                      omega
                    obtain ⟨b, b1, b2⟩ := ha.placed ep hi
                    rw [hx] at b1
                    cases b1
                    have hdi : ds[i]? = some ds[i] := List.getElem?_eq_getElem hi
                    have epl : (ds.map plD).getD i 0 = plD ds[i] := by simp [hi]
                    rw [epl] at b2
                    have ey : decide (V.int (plD ds[i]) = V.int 0) = decide (plD ds[i] = 0) := decide_eq_decide.mpr ⟨V.int.inj, congrArg V.int⟩
                    refine ⟨b, _, rfl, SqT.same b2 q.1, rfl, _, _, rfl, _, _, rfl, rfl, rfl, _, rfl, rfl, _, q.2, ?_, q.1.upd hD30, ?_⟩
                    · rw [List.length_map, List.length_take]
                      omega
                    · rw [upd_same, take_snoc hdi, List.map_append, ey]
                      rfl
                  · rw [hlen, List.take_length] at q3
                    refine ⟨D3, ds.map fun d => decide (plD d = 0), rfl, .inl (.inl (by rw [q3.2, List.map_map]; rfl)), ?_⟩
                    rw [any_map]
                    have z := k _ q3.1
                    rw [ef] at z
                    exact z
        · rw [decide_eq_false h12]
          exact k0 _ (Same.refl H) (by rw [ef, decide_eq_false (by omega : ¬ ds.length ≤ 12), Bool.and_false, Bool.false_and])
      · rw [decide_eq_false h1]
        exact ⟨_, rfl, k0 _ (Same.refl H) (by rw [ef, decide_eq_false (by omega : ¬ 1 ≤ ds.length), Bool.false_and, Bool.false_and])⟩
    | _ => exact k0 _ (Same.refl H) rfl

end NB

namespace NB
open PySem PySem.Spec PyProof.Rows L2 LamX
/-! ### fits -/
theorem sc_fits : FnScope ["places", "thing", "left", "node", "sign"] ["places", "thing"] (defScope s_fits) := ⟨rfl, rfl, rfl, by decide +kernel, rfl, by decide +kernel, by decide +kernel⟩
def sp_fits (K : PySem.W.Frag) : Sp := fun vs H Q _ => ∃ pa v d pl, vs = [.ref pa, v] ∧ PlcAt H pa pl ∧ Jp K H v d ∧ shortD d = true ∧ cntD d ≤ 100000 ∧ ∀ H', Same H H' → Q (.bl (fitsD pl d)) H'
def fitsW (K : PySem.W.Frag) (pa : Addr) (v : V) (l : Addr) (pl : List (Str × Int)) (d : PyData) (H : Hp) (m : Nat) (σ : L2.St) (H' : Hp) : Prop :=
  ∃ zs es w1 w2, σ = [some (.ref pa), some v, some (.ref l), w1, w2] ∧ Same H H' ∧ H' l = some (.lst zs.reverse) ∧ JpAll K H zs es ∧ shortsD es = true ∧ m = cntsD es ∧ cntsD es ≤ 100000 ∧ fitsA pl es = fitsD pl d
theorem ok_fits {P : Program} {w : World} {K : PySem.W.Frag} {mg : Str → Option Value} {base : Heap} (T : Tx K mg)  : FnOk P w K mg base CX0 1 T.a_fits T.d_fits ["places", "thing"] (sp_fits K) := by
  refine T.F_fits.ok sc_fits (fun vs H Q E h => ?_) (fun cdv A outer s H vs Q E hr h => ?_)
  · obtain ⟨pa, v, d, pl, rfl, _⟩ := h
    rfl
  · obtain ⟨pa, v, d, pl, rfl, hp, j, hsh, hz, k⟩ := h
    have hu := hu_of hr
    have hzl : 100000 < sizeLine := by decide
    refine ⟨_, (pss_cons (ps_set (i := 2) sc_fits.nd rfl (by first | exact Or.inl rfl | exact Or.inr rfl) (pe_lst (pa_cons (pv 1) pa_nil))) (pss_cons (ps_while PassesOwn.never (pt_truth (pv 2) (by intro _; rfl)) (pss_cons (ps_set (i := 3) sc_fits.nd rfl (by first | exact Or.inl rfl | exact Or.inr rfl) (pe_bm0 PySem.F.plainAttrs_list PySem.F.slot_list_pop PySem.F.type_list_pop mt_pop (pv 2))) (pss_cons (ps_if (PW.pt (pw_or (pt_not (pt_val (pe_callB call_isi (by rfl) T.z_isinstance (by decide +kernel) (pa_cons (pv 3) (pa_cons (pe_bltn (v := .ty "tuple") (u := .type "tuple") (by rfl) T.z_tuple (by decide +kernel) rfl) pa_nil))))) (pw_or1 (pt_cmpR op_eq (pe_callB call_len_seq (by rfl) T.z_len (by decide +kernel) (pa_cons (pv 3) pa_nil)) pe_int (nomark _))))) (pss_one (ps_ret pe_bl)) pss_nil) (pss_cons (ps_set (i := 4) sc_fits.nd rfl (by first | exact Or.inl rfl | exact Or.inr rfl) (pe_ix ix_tup (pv 3) pe_int (fun _ _ => rfl))) (pss_cons (ps_if (PW.pt (pw_or (pt_not (pt_val (pe_callB call_isi (by rfl) T.z_isinstance (by decide +kernel) (pa_cons (pv 4) (pa_cons (pe_bltn (v := .ty "str") (u := .type "str") (by rfl) T.z_str (by decide +kernel) rfl) pa_nil))))) (pw_or (pt_cmp (pc_dnotin hu (pv 4) (pv 0)) (by rfl)) (pw_or1 (pt_cmpR op_ne (pe_callB call_len_seq (by rfl) T.z_len (by decide +kernel) (pa_cons (pv 3) pa_nil)) (pe_op op_add (pe_dget hu (pv 0) (pv 4) (fun _ _ => rfl)) pe_int) (nomark _)))))) (pss_one (ps_ret pe_bl)) pss_nil) (pss_one (ps_expr (pe_bm PySem.F.plainAttrs_list PySem.F.slot_list_extend PySem.F.type_list_extend mt_extendT (pv 2) (pa_cons (pe_slice sl_tupA (pv 3) (po_some pe_int) po_none) pa_nil))))))))) (pss_one (ps_ret pe_bl)))), ?_⟩
    refine ⟨_, rfl, (by show 1 ≤ sizeLine; decide), fun l hl => ?_⟩
    refine ⟨fitsW K pa v l pl d H, ⟨cntsD [d], [v], [d], none, none, rfl, same_new hl, upd_same, .cons j .nil, by rw [shortsD, hsh, shortsD]; rfl, rfl, by rw [cntsD, cntsD]; exact hz, by rw [fitsA, fitsA, Bool.and_true]⟩, ?_⟩
    rintro m σ H' ⟨zs, es, w1, w2, rfl, s1, h1, ja, hss, rfl, hc, hf⟩
    refine ⟨_, rfl, _, .inl ⟨zs.reverse, .inl (.inl h1), rfl⟩, ?_⟩
    cases ja with
    | nil =>
      refine k _ s1 |> fun z => ?_
      have e : fitsD pl d = true := hf.symm.trans (by rw [fitsA])
      rw [e] at z
      exact z
    | @cons y zs e es j1 ja =>
      have eb : (!((y :: zs).reverse.isEmpty)) = true := by rw [isEmpty_rev]; rfl
      rw [eb]
      refine ⟨fun σ' H' => ∃ m', m' < cntsD (e :: es) ∧ fitsW K pa v l pl d H m' σ' H', fun _ _ z => z, ?_⟩
      have k0 : fitsD pl e = false → ∀ H', Same H H' → Q (.bl false) H' := fun q H' s' => by
        have z := k H' s'
        rw [← hf, fitsA, q] at z
        exact z
      have hsh1 : shortD e = true ∧ shortsD es = true := Bool.and_eq_true_iff.mp (show (shortD e && shortsD es) = true from hss)
      refine ⟨_, rfl, .inl ⟨rfl, _, .inl (.inl h1)⟩, l, _, y, rfl, rfl, h1, last_rev y zs, ?_⟩
      rw [drop_rev]
      have s2 : Same H (upd H' l (.lst zs.reverse)) := s1.upd hl
      have j2 := Jp.same s2 _ _ j1
      obtain ⟨t, t1, t2⟩ := j2.tyTup
      refine ⟨_, rfl, _, _, t, _, _, rfl, .ty "tuple", t1, t2, _, rfl, ?_⟩
      cases j1 with
      | @tup a xs ds hs ha =>
        refine ⟨_, rfl, a, xs, rfl, .inr (SqT.same hs s2), rfl, _, rfl, ?_⟩
        cases ha with
        | nil => exact k0 (by unfold fitsD; rfl) _ s2
        | @cons y0 ys d0 ps j0 ha =>
          have e0 : decide (V.int (((y0 :: ys).length : Nat) : Int) = V.int 0) = false := decide_eq_false fun z => by
            have := V.int.inj z
            rw [List.length_cons] at this
            omega
          rw [e0]
          refine ⟨_, rfl, a, _, _, _, rfl, rfl, SqT.same hs s2, atI_nat (j := 0) rfl, ?_⟩
          obtain ⟨u, u1, u2⟩ := (Jp.same s2 _ _ j0).tyStr
          refine ⟨_, rfl, _, _, u, _, _, rfl, .ty "str", u1, u2, _, rfl, ?_⟩
          cases j0 with
          | str x =>
            obtain ⟨kvs, hk1, hk2⟩ := hp.same s2
            refine ⟨_, rfl, _, rfl, pa, _, rfl, DGet.k (k := Sum.inr x) hk1, _, rfl, ?_⟩
            rw [hk2]
            rw [fitsD_node] at k0
            cases e1 : lookS pl x with
            | none =>
              rw [e1] at k0
              exact k0 rfl _ s2
            | some n =>
              have hg : DGet (upd H' l (.lst zs.reverse)) pa (.str x) (some (.int n)) := by
                have g := DGet.k (k := Sum.inr x) hk1
                rw [hk2, e1] at g
                exact g
              refine ⟨_, rfl, a, _, rfl, .inr (SqT.same hs s2), _, rfl, _, rfl, pa, _, rfl, hg, _, _, rfl, rfl, rfl, _, rfl, ?_⟩
              rw [e1] at k0
              by_cases hn : (ps.length : Int) = n
              · have e2 : (!decide (V.int (((V.str x :: ys).length : Nat) : Int) = V.int (n + 1))) = false := by
                  have := ha.len
                  rw [decide_eq_true]
                  · rfl
                  · rw [List.length_cons, this, ← hn]
                    rfl
                show if (!decide (V.int (((V.str x :: ys).length : Nat) : Int) = V.int (n + 1))) = true then _ else _
                rw [e2]
                refine ⟨_, rfl, .inl ⟨rfl, _, .inl (.inl upd_same)⟩, _, rfl, 1, rfl, a, _, rfl, SqT.same hs s2, fun z => absurd z (whole_not ys.length none), fun _ p np => ?_⟩
                have nlp : l ≠ p := fun q => by
                  rw [q, upd_same] at np
                  cases np
                have hsz : cntsD (.tuple (.str x :: ps) :: es) = 1 + (1 + cntsD ps) + cntsD es := by rw [cntsD, cntD, cntsD, cntD_str]
                have hl1 := cntsD_len ps
                have hl2 := cntsD_len es
                have hl3 := ja.len
                have hl4 := ha.len
                rw [cutV_tail (α := V)]
                refine ⟨l, p, zs.reverse, ys, rfl, rfl, Eq.trans (upd_ne nlp) upd_same, .inl (.inl upd_same), ?_, ?_⟩
                · rw [List.length_reverse]
                  omega
                have hm : cntsD (ps.reverse ++ es) = cntsD ps + cntsD es := by rw [cntsD_app, cntsD_rev]
                refine ⟨cntsD (ps.reverse ++ es), by omega, ys.reverse ++ zs, ps.reverse ++ es, _, _, rfl, (s2.trans (same_new np)).upd hl, ?_, ha.rev.app ja, ?_, rfl, by omega, ?_⟩
                · rw [upd_same, rev_app]
                · have q := (shortD_tup hsh1.1).2
                  exact shortsD_mix (Bool.and_eq_true_iff.mp (show (shortD (.str x) && shortsD ps) = true from q)).2 hsh1.2
                · rw [← hf, fitsA_app, fitsA_rev, fitsA, fitsD_node, e1]
                  show _ = ((decide ((ps.length : Int) = n) && fitsA pl ps) && fitsA pl es)
                  rw [decide_eq_true hn, Bool.true_and]
              · have e2 : (!decide (V.int (((V.str x :: ys).length : Nat) : Int) = V.int (n + 1))) = true := by
                  have := ha.len
                  rw [decide_eq_false]
                  · rfl
                  · intro z
                    have z := V.int.inj z
                    rw [List.length_cons] at z
                    omega
                show if (!decide (V.int (((V.str x :: ys).length : Nat) : Int) = V.int (n + 1))) = true then _ else _
                rw [e2]
                refine k0 ?_ _ s2
                show (decide ((ps.length : Int) = n) && fitsA pl ps) = false
                rw [decide_eq_false hn, Bool.false_and]
          | _ => exact k0 (by unfold fitsD; rfl) _ s2
      | _ => exact k0 (by unfold fitsD; rfl) _ s2

end NB

namespace NB
open PySem PySem.Spec PyProof.Rows L2 LamX
/-! ### fits_line -/
theorem sc_fits_line : FnScope ["places", "thing"] ["places", "thing"] (defScope s_fits_line) := ⟨rfl, rfl, rfl, by decide +kernel, rfl, by decide +kernel, by decide +kernel⟩
def sp_fits_line (K : PySem.W.Frag) : Sp := fun vs H Q _ => ∃ pa v d pl, vs = [.ref pa, v] ∧ PlcAt H pa pl ∧ Jp K H v d ∧ shortD d = true ∧ cntD d ≤ 100000 ∧ ∀ H', Same H H' → Q (.bl (lineD pl d)) H'
theorem ok_fits_line {P : Program} {w : World} {K : PySem.W.Frag} {mg : Str → Option Value} {base : Heap} (T : Tx K mg)  : FnOk P w K mg base CX0 2 T.a_fits_line T.d_fits_line ["places", "thing"] (sp_fits_line K) := by
  refine T.F_fits_line.ok sc_fits_line (fun vs H Q E h => ?_) (fun cdv A outer s H vs Q E hr h => ?_)
  · obtain ⟨pa, v, d, pl, rfl, _⟩ := h
    rfl
  · obtain ⟨pa, v, d, pl, rfl, hp, j, hz, hc, k⟩ := h
    refine ⟨_, (pss_one (ps_ret (pe_and (pe_call (ok_is_tuple_of T) (hr.mono (by first | decide | omega)) rfl T.m_is_tuple_of T.F_is_tuple_of.kp T.b_is_tuple_of .nil pass0 (pa_cons (pv 1) (pa_cons pe_int pa_nil))) (pe_and (pe_call (ok_fits T) (hr.mono (by first | decide | omega)) rfl T.m_fits T.F_fits.kp T.b_fits .nil pass0 (pa_cons (pv 0) (pa_cons (pe_ix ix_tup (pv 1) pe_int (fun _ _ => rfl)) pa_nil))) (pe_one (pe_call (ok_fits T) (hr.mono (by first | decide | omega)) rfl T.m_fits T.F_fits.kp T.b_fits .nil pass0 (pa_cons (pv 0) (pa_cons (pe_ix ix_tup (pv 1) pe_int (fun _ _ => rfl)) pa_nil)))))))), ?_⟩
    refine ⟨_, rfl, v, d, 2, rfl, j, _, rfl, ?_⟩
    have k0 : lineD pl d = false → Q (.bl false) H := fun e => e ▸ k H (Same.refl H)
    cases j with
    | @tup a xs ds hs ha =>
      by_cases hl : ds.length = 2
      · obtain ⟨va, vb, s, n, rfl, rfl, h1, h2⟩ := ha.two hl
        have q := (shortD_tup hz).2
        have hc2 : 1 + (cntD s + (cntD n + 0)) ≤ 100000 := by
          rw [cntD, cntsD, cntsD, cntsD] at hc
          exact hc
        refine ⟨_, rfl, _, rfl, a, _, _, _, rfl, rfl, hs, atI_nat (j := 0) rfl, pa, va, s, pl, rfl, hp, h1, shortsD_get (i := 0) q rfl, by omega, fun H1 s1 => ⟨_, rfl, ?_⟩⟩
        have e : lineD pl (.tuple [s, n]) = (fitsD pl s && fitsD pl n) := rfl
        rw [e] at k
        cases e1 : fitsD pl s with
        | false =>
          have kk := k H1 s1
          rw [e1] at kk
          exact kk
        | true =>
          rw [e1] at k
          exact ⟨_, rfl, _, rfl, a, _, _, _, rfl, rfl, SqT.same hs s1, atI_nat (j := 1) rfl, pa, vb, n, pl, rfl, hp.same s1, Jp.same s1 _ _ h2, shortsD_get (i := 1) q rfl, by omega, fun H2 s2 => k H2 (s1.trans s2)⟩
      · have e1 : (isTupD (.tuple ds) && decide (((itemsD (.tuple ds)).length : Int) = 2)) = false := by
          show (true && decide ((ds.length : Int) = 2)) = false
          rw [decide_eq_false (by omega)]
          rfl
        rw [e1]
        exact k0 (lineD_ne hl)
    | _ => exact k0 rfl

end NB

namespace NB
open PySem PySem.Spec PyProof.Rows L2 LamX
/-! ### nodes -/
theorem sc_nodes : FnScope ["term", "found", "left", "node"] ["term"] (defScope s_nodes) := ⟨rfl, rfl, rfl, by decide +kernel, rfl, by decide +kernel, by decide +kernel⟩
def sp_nodes (K : PySem.W.Frag) : Sp := fun vs H Q _ => ∃ v t, vs = [v] ∧ Dp K H v (Tm.data t) ∧ (Tm.pre t).length ≤ 100000 ∧ ∀ H' p us, Same H H' → H p = none → H' p = some (.lst us) → DpAll K H us (Tm.datas (Tm.pre t)) → Q (.ref p) H'
def nodesW (K : PySem.W.Frag) (v : V) (fo l : Addr) (t : Tm) (H : Hp) (m : Nat) (σ : L2.St) (H' : Hp) : Prop :=
  ∃ zs ts us fs w, σ = [some v, some (.ref fo), some (.ref l), w] ∧ Same H H' ∧ H' fo = some (.lst us) ∧ H' l = some (.lst zs.reverse) ∧ DpAll K H zs (Tm.datas ts) ∧ DpAll K H us (Tm.datas fs) ∧ fs ++ Tm.pres ts = Tm.pre t ∧ m = (Tm.pres ts).length
theorem ok_nodes {P : Program} {w : World} {K : PySem.W.Frag} {mg : Str → Option Value} {base : Heap} (T : Tx K mg)  : FnOk P w K mg base CX0 1 T.a_nodes T.d_nodes ["term"] (sp_nodes K) := by
  refine T.F_nodes.ok sc_nodes (fun vs H Q E h => ?_) (fun cdv A outer s H vs Q E hr h => ?_)
  · obtain ⟨v, t, rfl, _⟩ := h
    rfl
  · obtain ⟨v, t, rfl, hd, hn, k⟩ := h
    have hzl : 100000 < sizeLine := by decide
    refine ⟨_, (pss_cons (ps_set (i := 1) sc_nodes.nd rfl (by first | exact Or.inl rfl | exact Or.inr rfl) (pe_lst pa_nil)) (pss_cons (ps_set (i := 2) sc_nodes.nd rfl (by first | exact Or.inl rfl | exact Or.inr rfl) (pe_lst (pa_cons (pv 0) pa_nil))) (pss_cons (ps_while PassesOwn.never (pt_truth (pv 2) (by intro _; rfl)) (pss_cons (ps_set (i := 3) sc_nodes.nd rfl (by first | exact Or.inl rfl | exact Or.inr rfl) (pe_bm0 PySem.F.plainAttrs_list PySem.F.slot_list_pop PySem.F.type_list_pop mt_pop (pv 2))) (pss_cons (ps_expr (pe_bm PySem.F.plainAttrs_list PySem.F.slot_list_append PySem.F.type_list_append mt_append (pv 1) (pa_cons (pv 3) pa_nil))) (pss_one (ps_expr (pe_bm PySem.F.plainAttrs_list PySem.F.slot_list_extend PySem.F.type_list_extend mt_extendT (pv 2) (pa_cons (pe_back1 (pv 3)) pa_nil))))))) (pss_one (ps_ret (pv 1)))))), ?_⟩
    refine ⟨Nat.zero_le _, fun fo nfo => ⟨_, rfl, (by show 1 ≤ sizeLine; decide), fun l nl => ?_⟩⟩
    obtain ⟨nfl, nl0⟩ := none_ne nl
    refine ⟨nodesW K v fo l t H, ⟨(Tm.pres [t]).length, [v], [t], [], [], none, rfl, (same_new nfo).upd nl0, by rw [upd_ne nfl, upd_same], upd_same, .cons hd .nil, .nil, by rw [Tm.pres, Tm.pres, List.append_nil]; rfl, rfl⟩, ?_⟩
    rintro m σ H' ⟨zs, ts, us, fs, w1, rfl, s1, h1, h2, dz, du, he, rfl⟩
    refine ⟨_, rfl, _, .inl ⟨zs.reverse, .inl (.inl h2), rfl⟩, ?_⟩
    match ts, zs, dz, he with
    | [], zs, dz, he =>
      have ez := DpAll.nilD dz
      subst ez
      refine ⟨_, rfl, k _ fo us s1 nfo h1 ?_⟩
      rw [← he, Tm.pres, List.append_nil]
      exact du
    | t1 :: ts, zs, dz, he =>
      obtain ⟨y, zs, rfl, d1, dz2⟩ := DpAll.consD (by rw [Tm.datas] at dz; exact dz)
      have eb : (!((y :: zs).reverse.isEmpty)) = true := by rw [isEmpty_rev]; rfl
      rw [eb]
      refine ⟨fun σ' H' => ∃ m', m' < (Tm.pres (t1 :: ts)).length ∧ nodesW K v fo l t H m' σ' H', fun _ _ z => z, ?_⟩
      obtain ⟨a, ys, rfl, hsq, hys⟩ := DpAll.ref d1
      obtain ⟨sg, ps⟩ := t1
      have hp : Tm.pres (.mk sg ps :: ts) = .mk sg ps :: Tm.pres (ps ++ ts) := Tm.pres_step sg ps ts
      have hlen : fs.length + (1 + (Tm.pres (ps ++ ts)).length) ≤ 100000 := by
        have := congrArg List.length he
        rw [hp, List.length_append, List.length_cons] at this
        omega
      have hus : us.length = fs.length := by rw [du.len, Tm.datas_len]
      have hzs : zs.length = ts.length := by rw [dz2.len, Tm.datas_len]
      have hyl : ys.length = ps.length := by rw [hys.len, Tm.datas_len]; rfl
      have hpl := Tm.pres_len (ps ++ ts)
      rw [List.length_append] at hpl
      refine ⟨_, rfl, .inl ⟨rfl, _, .inl (.inl h2)⟩, l, _, _, rfl, rfl, h2, last_rev (.ref a) zs, ?_⟩
      rw [drop_rev]
      have s2 : Same H (upd H' l (.lst zs.reverse)) := s1.upd nl0
      have h1' : upd H' l (.lst zs.reverse) fo = some (.lst us) := by rw [upd_ne nfl]; exact h1
      refine ⟨_, rfl, .inl ⟨rfl, _, .inl (.inl h1')⟩, _, rfl, fo, _, _, rfl, rfl, h1', by omega, ?_⟩
      have s3 := s2.upd (o := .lst (us ++ [.ref a])) nfo
      have h2' : upd (upd H' l (.lst zs.reverse)) fo (.lst (us ++ [.ref a])) l = some (.lst zs.reverse) := by rw [upd_ne nfl.symm, upd_same]
      refine ⟨_, rfl, .inl ⟨rfl, _, .inl (.inl h2')⟩, _, rfl, a, _, rfl, SqT.same hsq s3, by rw [List.length_cons]; omega, fun p np => ?_⟩
      have nlp : l ≠ p := ne_of_none h2' np
      have nfp : fo ≠ p := ne_of_none upd_same np
      refine ⟨l, p, zs.reverse, ys.reverse, rfl, rfl, Eq.trans (upd_ne nlp) h2', .inl (.inl upd_same), ?_, ?_⟩
      · rw [List.length_reverse, List.length_reverse]
        omega
      refine ⟨(Tm.pres (ps ++ ts)).length, by rw [hp, List.length_cons]; omega, ys ++ zs, ps ++ ts, us ++ [.ref a], fs ++ [.mk sg ps], _, rfl, (s3.trans (same_new np)).upd nl0, ?_, ?_, ?_, ?_, ?_, rfl⟩
      · rw [upd_ne nfl, upd_ne nfp, upd_same]
      · rw [upd_same, rev_app']
      · rw [Tm.datas_app]
        exact hys.app dz2
      · rw [Tm.datas_app]
        exact du.app (.cons d1 .nil)
      · rw [← he, hp, List.append_assoc]
        rfl

end NB

namespace NB
open PySem PySem.Spec PyProof.Rows L2 LamX
/-! ### words -/
theorem sc_words : FnScope ["term", "node"] ["term"] (defScope s_words) := ⟨rfl, rfl, rfl, by decide +kernel, rfl, by decide +kernel, by decide +kernel⟩
def sp_words (K : PySem.W.Frag) : Sp := fun vs H Q _ => ∃ v t, vs = [v] ∧ Dp K H v (Tm.data t) ∧ (Tm.pre t).length ≤ 100000 ∧ ∀ H' p, Same H H' → H p = none → H' p = some (.tup ((Tm.pre t).map fun x => V.str x.sg)) → Q (.ref p) H'
theorem ok_words {P : Program} {w : World} {K : PySem.W.Frag} {mg : Str → Option Value} {base : Heap} (T : Tx K mg)  : FnOk P w K mg base CX0 2 T.a_words T.d_words ["term"] (sp_words K) := by
  refine T.F_words.ok sc_words (fun vs H Q E h => ?_) (fun cdv A outer s H vs Q E hr h => ?_)
  · obtain ⟨v, t, rfl, _⟩ := h
    rfl
  · obtain ⟨v, t, rfl, hd, hn, k⟩ := h
    have hzl : 100000 < sizeLine := by decide
    refine ⟨_, (pss_one (ps_ret (pe_callTy call_tuple_of (by rfl) T.z_tuple (by decide +kernel) (pa_cons (pe_lc (own := [("node", 1)]) rfl sc_words.nd (pi_list (pe_call (ok_nodes T) (hr.mono (by first | decide | omega)) rfl T.m_nodes T.F_nodes.kp T.b_nodes .nil pass0 (pa_cons (pv 0) pa_nil))) (blkOk_by (own := [("node", 1)]) (N := ["term", "node"]) (sc := defScope s_words) (by decide +kernel)) (fun _ _ _ _ _ => (pg_name (i := 1) sc_words.nd rfl (by first | exact Or.inl rfl | exact Or.inr rfl))) (fun _ _ _ _ _ => pts_nil) (fun _ _ _ _ _ => (pe_ix (show IxR _ (rIxT K) from ix_tup) (pv 1) pe_int (fun _ _ => rfl)))) pa_nil)))), ?_⟩
    refine ⟨_, rfl, v, t, rfl, hd, hn, fun H1 p us s1 np hp du => ⟨p, rfl, ⟨_, .inl (.inl hp)⟩, fun D hD => ?_⟩⟩
    have hD0 : H D = none := s1.free hD
    have npD : p ≠ D := ne_of_none hp hD
    refine lc_list (K := K) (a := p) (xs := us) (fun i H' => Same H H' ∧ H' p = some (.lst us) ∧ H' D = some (.lst (((Tm.pre t).take i).map fun x => V.str x.sg)))
      ⟨s1.upd hD0, by rw [upd_ne npD]; exact hp, upd_same⟩ (fun i H' _ q => .inl (.inl q.2.1)) (fun i x H' hx q => ?_) (fun H2 q => ?_)
    · have hi : i < us.length := (List.getElem?_eq_some_iff.mp hx).1
      have hul : us.length = (Tm.pre t).length := by rw [du.len, Tm.datas_len]
      have hti : (Tm.pre t)[i]? = some (Tm.pre t)[i] := List.getElem?_eq_getElem (by omega)
      have hdi : (Tm.datas (Tm.pre t))[i]? = some (Tm.pre t)[i].data := by rw [Tm.datas_map, List.getElem?_map, hti]; rfl
      obtain ⟨a, ys, rfl, hsq, _⟩ := DpAll.ref (du.get hx hdi)
      refine ⟨rfl, _, rfl, a, _, _, _, rfl, rfl, SqT.same hsq q.1, atI_nat (j := 0) rfl, _, q.2.2, ?_, q.1.upd hD0, by rw [upd_ne npD]; exact q.2.1, ?_⟩
      · rw [List.length_map, List.length_take]
        omega
      · rw [upd_same, take_snoc hti, List.map_append]
        rfl
    · have hul : us.length = (Tm.pre t).length := by rw [du.len, Tm.datas_len]
      rw [hul, List.take_length] at q
      refine ⟨D, _, rfl, .inl ⟨.inl (.inl q.2.2), fun r nr => ?_⟩⟩
      exact k _ r (q.1.upd (q.1.free nr)) (q.1.free nr) upd_same

end NB

namespace NB
open PySem PySem.Spec PyProof.Rows L2 LamX
/-! ### from_within -/
theorem sc_from_within : FnScope ["term", "maker", "made", "node", "parts", "_"] ["term", "maker"] (defScope s_from_within) := ⟨rfl, rfl, rfl, by decide +kernel, rfl, by decide +kernel, by decide +kernel⟩
def fwW (K : PySem.W.Frag) (Tt : List (Addr × Str)) (v : V) (f mo p : Addr) (t : Tm) {α : Type} (S : List Addr) (J : α → Hp → Prop) (R : α → Tm → V → Prop) (st : α → Tm → α) (a0 : α) (H : Hp) (us : List V) (i : Nat) (σ : L2.St) (H' : Hp) : Prop :=
  ∃ zs w1 w2 w3, σ = [some v, some (.ref f), some (.ref mo), w1, w2, w3] ∧ Fr Tt S H H' ∧ H' p = some (.lst us) ∧ H' mo = some (.lst zs.reverse) ∧ J (((Tm.pre t).reverse.take i).foldl st a0) H' ∧ Rels (R (((Tm.pre t).reverse.take i).foldl st a0)) (fore t ((Tm.pre t).length - i)) zs
theorem gives0_from_within {X : Cx} (T : Tx X.K X.mg) (cdg : Value) (hr0 : Room 2 X.A) (Tt : List (Addr × Str)) :
    GivesD X ["term", "maker", "made", "node", "parts", "_"] "from_within" (defScope s_from_within) T.a_from_within cdg (defBody s_from_within) "maker" (fwTT X.K Tt) := by
  intro f s H v Q msp MK h
  obtain ⟨t, α, S, J, R, st, a0, hd, hn, hJ, hS, hM, hst, hmo, hmake, k⟩ := h
  have hr : Room 1 (gcx X ["term", "maker", "made", "node", "parts", "_"] "from_within" (defScope s_from_within) T.a_from_within cdg s H).A := hr0.deeper _
  have hzl : 100000 < sizeLine := by decide
  refine ⟨_, (pss_cons (ps_set (i := 2) sc_from_within.nd rfl (by first | exact Or.inl rfl | exact Or.inr rfl) (pe_lst pa_nil)) (pss_cons (ps_for PassesOwn.never rfl (RT.pi_revA (by rfl) T.z_reversed (pe_call (ok_nodes T) (hr.mono (by first | decide | omega)) rfl T.m_nodes T.F_nodes.kp T.b_nodes .nil pass0 (pa_cons (pv 0) pa_nil))) (pg_name (i := 3) sc_from_within.nd rfl (by first | exact Or.inl rfl | exact Or.inr rfl)) (pss_cons (ps_set (i := 4) sc_from_within.nd rfl (by first | exact Or.inl rfl | exact Or.inr rfl) (pe_lst pa_nil)) (pss_cons (ps_for PassesOwn.never rfl (pi_range1 (by rfl) T.z_range (pa_cons (pe_op op_sub (pe_callB call_len_seq (by rfl) T.z_len (by decide +kernel) (pa_cons (pv 3) pa_nil)) pe_int) pa_nil)) (pg_name (i := 5) sc_from_within.nd rfl (by first | exact Or.inl rfl | exact Or.inr rfl)) (pss_one (ps_expr (pe_bm PySem.F.plainAttrs_list PySem.F.slot_list_append PySem.F.type_list_append mt_append (pv 4) (pa_cons (pe_bm0 PySem.F.plainAttrs_list PySem.F.slot_list_pop PySem.F.type_list_pop mt_pop (pv 2)) pa_nil))))) (pss_one (ps_expr (pe_bm PySem.F.plainAttrs_list PySem.F.slot_list_append PySem.F.type_list_append mt_append (pv 2) (pa_cons (MK _ _ _ _ _ (pa_cons (pe_ix ix_tup (pv 3) pe_int (fun _ _ => rfl)) (pa_cons (pe_callTy call_tuple_of (by rfl) T.z_tuple (by decide +kernel) (pa_cons (pv 4) pa_nil)) pa_nil)) rfl rfl) pa_nil))))))) (pss_one (ps_ret (pe_bm0 PySem.F.plainAttrs_list PySem.F.slot_list_pop PySem.F.type_list_pop mt_pop (pv 2)))))), ?_⟩
  refine ⟨Nat.zero_le _, fun mo nmo => ?_⟩
  have nS : mo ∉ S := fun z => hS _ _ hJ mo z nmo
  refine ⟨_, rfl, v, t, rfl, Dp.same (same_new nmo) _ _ hd, hn, fun H1 p us s1 np hp du => ⟨p, us, rfl, .inl ⟨.inl (.inl hp), ?_⟩⟩⟩
  obtain ⟨nmp, np0⟩ := none_ne np
  have pS : p ∉ S := fun z => hS _ _ hJ p z np0
  have hul : us.length = (Tm.pre t).length := by rw [du.len, Tm.datas_len]
  have s01 : Same H H1 := fun b o e => s1 b o (same_new nmo b o e)
  have hmo1 : H1 mo = some (.lst []) := s1 _ _ upd_same
  refine RT.for_Itv (fwW X.K Tt v f mo p t S J R st a0 H us) ⟨[], none, none, none, rfl, Fr.same s01, hp, hmo1, hst _ _ _ hJ (Kv.same s01), ?_⟩ (fun i σ H' ⟨_, _, _, _, _, _, h, _⟩ => .inl (.inl h)) ?_ ?_
  · rw [Nat.sub_zero, fore_end]
    exact .nil
  · rintro i x σ H' hi hx ⟨zs, w1, w2, w3, rfl, fr, h1, h2, hj, hR⟩
    have hi' : i < (Tm.pre t).length := by omega
    obtain ⟨sg, ps, r, f1, f2, f3⟩ := fore_head (t := t) (j := (Tm.pre t).length - 1 - i) (by omega)
    have e1 : (Tm.pre t).length - i = (Tm.pre t).length - 1 - i + 1 := by omega
    rw [e1, f2] at hR
    obtain ⟨vp, vr, rfl, hp1, hr1⟩ := Paired.splitL hR
    rw [hul] at hx
    have hdi : (Tm.datas (Tm.pre t))[(Tm.pre t).length - 1 - i]? = some (Tm.data (.mk sg ps)) := by rw [Tm.datas_map, List.getElem?_map, f3]; rfl
    obtain ⟨b, ys, rfl, hsq, hys⟩ := DpAll.ref (du.get hx hdi)
    have hyl : ys.length = ps.length := by rw [hys.len, Tm.datas_len]; rfl
    have hvl : ps.length = vp.length := hp1.length
    have hpl := Tm.pres_len (ps ++ r)
    have hpn : (Tm.pres (ps ++ r)).length ≤ 100000 := by
      rw [← f2, ← fore_drop, List.length_drop]
      omega
    rw [List.length_append] at hpl
    have hsq0 : SqT X.K H b (.str sg :: ys) := Imm.sq Imm.back hsq
    have sq_ : ∀ {H2 : Hp}, Fr Tt S H H2 → SqT X.K H2 b (.str sg :: ys) := fun g => Imm.sq (g.kp.imm hM) hsq0
    have hrl : r.length = vr.length := hr1.length
    refine ⟨Nat.zero_le _, fun po npo => ?_⟩
    have nmo' : mo ≠ po := ne_of_none h2 npo
    have np' : p ≠ po := ne_of_none h1 npo
    have nmp' : mo ≠ p := nmp
    have poS : po ∉ S := fun z => hS _ _ hj po z npo
    have nw : Nw S [po, mo] H := Nw.cons fr npo (Nw.nil fun b hb => by rw [mem1 hb]; exact nmo)
    have ow : Ow H' [po, mo] := fun b hb => by
      rcases mem2 hb with z | z
      · rw [z]
        exact .inl npo
      · rw [z]
        exact .inr ⟨_, h2⟩
    have noS : ∀ b ∈ [po, mo], b ∉ S := fun b hb => by
      rcases mem2 hb with z | z
      · rw [z]
        exact poS
      · rw [z]
        exact nS
    have m1 : po ∈ [po, mo] := List.mem_cons_self ..
    have m2 : mo ∈ [po, mo] := List.mem_cons_of_mem _ (List.mem_cons_self ..)
    have en : ((((V.str sg :: ys).length : Nat) : Int) - 1).toNat = ps.length := by
      rw [List.length_cons]
      omega
    refine ⟨_, rfl, b, _, rfl, .inr (sq_ (fr.sm (Sm.upd m1) ow nw)), _, _, rfl, rfl, _, rfl, by omega, (by rw [List.length_cons]; omega), ?_⟩
    rw [en]
    refine for_range (lo := 0) (n := ps.length) (fun q σ H2 => ∃ w, σ = [some v, some (.ref f), some (.ref mo), some (.ref b), some (.ref po), w] ∧ Sm [po, mo] H' H2 ∧ H2 po = some (.lst (vp.take q)) ∧ H2 mo = some (.lst ((vp.drop q ++ vr).reverse)))
      ⟨_, rfl, Sm.upd m1, upd_same, by rw [upd_ne nmo']; exact h2⟩ ?_ ?_
    · rintro q σ H2 hq ⟨w, rfl, sm, k1, k2⟩
      have hvq : vp[q]? = some (vp.getD q .non) := getD_lt (by omega) _
      rw [getD_take hvq, List.cons_append] at k2
      refine ⟨_, rfl, .inl ⟨rfl, _, .inl (.inl k1)⟩, _, rfl, .inl ⟨rfl, _, .inl (.inl k2)⟩, mo, _, _, rfl, rfl, k2, last_rev _ _, ?_⟩
      rw [drop_rev]
      refine ⟨po, _, _, rfl, rfl, Eq.trans (upd_ne nmo'.symm) k1, ?_, ?_⟩
      · rw [List.length_take]
        omega
      refine ⟨_, rfl, (sm.trans (Sm.upd m2)).trans (Sm.upd m1), ?_, ?_⟩
      · rw [upd_same, take_snoc hvq]
      · rw [upd_ne nmo', upd_same]
    · rintro σ H2 ⟨w, rfl, sm, k1, k2⟩
      rw [hvl, List.take_length] at k1
      rw [hvl, List.drop_length, List.nil_append] at k2
      have fr2 : Fr Tt S H H2 := fr.sm sm ow nw
      have hj2 := hst _ _ _ hj (sm.kv ow noS)
      refine ⟨_, rfl, .inl ⟨rfl, _, .inl (.inl k2)⟩, rfl, _, rfl, b, _, _, _, rfl, rfl, sq_ fr2, atI_nat (j := 0) rfl, _, rfl, po, _, rfl, .inl ⟨.inl (.inl k1), fun pt npt => ?_⟩⟩
      have fr3 : Fr Tt S H (upd H2 pt (.tup vp)) := fr2.trans (Fr.same (same_new npt))
      have hj3 := hst _ _ _ hj2 (Kv.same (same_new (o := .tup vp) npt))
      have nmpt : mo ≠ pt := ne_of_none k2 npt
      have nppt : p ≠ pt := ne_of_none (sm _ _ h1 (fun z => by
        rcases mem2 z with z | z
        · exact np' z
        · exact nmp' z.symm)) npt
      have hrev : (Tm.pre t).reverse[i]? = some (.mk sg ps) := by
        rw [List.getElem?_reverse (by omega)]
        exact f3
      refine hmake i _ sg ps vp pt _ hrev rfl hj3 fr3 (.inl (.inl upd_same)) (by omega) hp1 _ fun val H4 hj4 hr4 fr4 => ?_
      have k4 : H4 mo = some (.lst vr.reverse) := fr4.kp mo _ (Eq.trans (upd_ne nmpt) k2) nS (fun _ z => nomatch z)
      have p4 : H4 p = some (.lst us) := fr4.kp p _ (Eq.trans (upd_ne nppt) (sm _ _ h1 (fun z => by
        rcases mem2 z with z | z
        · exact np' z
        · exact nmp' z.symm))) pS (fun _ z => nomatch z)
      refine ⟨mo, _, _, rfl, rfl, k4, by rw [List.length_reverse]; omega, ?_⟩
      have ow4 : Ow H4 [mo] := fun b hb => by
        rw [mem1 hb]
        exact .inr ⟨_, k4⟩
      have sm4 : Sm [mo] H4 (upd H4 mo (.lst (vr.reverse ++ [val]))) := Sm.upd (List.mem_singleton.mpr rfl)
      have ef : ((Tm.pre t).reverse.take (i + 1)).foldl st a0 = st (((Tm.pre t).reverse.take i).foldl st a0) (.mk sg ps) := by
        rw [take_snoc hrev, List.foldl_append]
        rfl
      refine ⟨val :: vr, _, _, _, rfl, (fr3.trans fr4).sm sm4 ow4 (Nw.nil fun b hb => by rw [mem1 hb]; exact nmo), ?_, ?_, ?_, ?_⟩
      · rw [upd_ne nmp.symm]
        exact p4
      · rw [upd_same, List.reverse_cons]
      · rw [ef]
        exact hst _ _ _ hj4 (sm4.kv ow4 fun b hb => by rw [mem1 hb]; exact nS)
      · have e2 : (Tm.pre t).length - (i + 1) = (Tm.pre t).length - 1 - i := by omega
        rw [ef, e2, f1]
        exact .cons hr4 (Paired.monoR (fun a b z => hmo _ _ _ _ z) hr1)
  · rintro σ H' ⟨zs, w1, w2, w3, rfl, fr, h1, h2, hj, hR⟩
    rw [hul, Nat.sub_self] at hR
    have e : (Tm.pre t).reverse.take us.length = (Tm.pre t).reverse := by rw [hul, ← List.length_reverse, List.take_length]
    rw [e] at hj
    rw [hul] at e
    rw [e] at hR
    obtain ⟨vr, rfl, r1⟩ : ∃ vr, zs = [vr] ∧ R ((Tm.pre t).reverse.foldl st a0) t vr := by
      rw [fore] at hR
      cases hR with
      | cons r1 r2 =>
        cases r2
        exact ⟨_, rfl, r1⟩
    refine ⟨_, rfl, .inl ⟨rfl, _, .inl (.inl h2)⟩, mo, _, _, rfl, rfl, h2, last_rev vr [], ?_⟩
    have ow : Ow H' [mo] := fun b hb => by
      rw [mem1 hb]
      exact .inr ⟨_, h2⟩
    have sm : Sm [mo] H' (upd H' mo (.lst [vr].reverse.dropLast)) := Sm.upd (List.mem_singleton.mpr rfl)
    exact k vr _ (fr.sm sm ow (Nw.nil fun b hb => by rw [mem1 hb]; exact nmo)) (hst _ _ _ hj (sm.kv ow fun b hb => by rw [mem1 hb]; exact nS)) r1
theorem gives_from_within {X : Cx} (T : Tx X.K X.mg) (cdg : Value) (hr0 : Room 2 X.A) (Tt : List (Addr × Str)) :
    GivesM X ["term", "maker", "made", "node", "parts", "_"] "from_within" (defScope s_from_within) T.a_from_within cdg (defBody s_from_within) "maker" (fwTT X.K Tt) := (gives0_from_within T cdg hr0 Tt).lam

end NB

namespace NB
open PySem PySem.Spec PyProof.Rows L2 LamX
/-! ### Bank.__init__ -/
theorem sc_Bank___init__ : FnScope ["self"] ["self"] (defScope s_Bank___init__) := ⟨rfl, rfl, rfl, by decide +kernel, rfl, by decide +kernel, by decide +kernel⟩
def sp_Bank___init__ (P : Program) (w : World) (K : PySem.W.Frag) (C : Addr) : Sp := fun vs H Q _ => ∃ p dx, vs = [.ref p] ∧ H p = some (.ins C dx []) ∧
  ∀ H' ta sh te, Sm [p] H H' → H ta = none → H sh = none → H te = none → BankAt P w K C p dx ta sh te [] H' → Q .non H'
theorem ok_Bank___init__ {P : Program} {w : World} {K : PySem.W.Frag} {mg : Str → Option Value} {base : Heap} (T : Tx K mg)  : FnOk P w K mg base CX0 1 T.a_Bank___init__ T.d_Bank___init__ ["self"] (sp_Bank___init__ P w K T.c_Bank) := by
  refine T.F_Bank___init__.ok sc_Bank___init__ (fun vs H Q E h => ?_) (fun cdv A outer s H vs Q E hr h => ?_)
  · obtain ⟨p, dx, rfl, _⟩ := h
    rfl
  · obtain ⟨p, dx, rfl, hp, k⟩ := h
    refine ⟨_, (pss_cons (ps_fld (pv 0) pe_nnew rfl) (pss_cons (ps_fld (pv 0) (pe_lst pa_nil) rfl) (pss_one (ps_fld (pv 0) (pe_lst pa_nil) rfl)))), ?_⟩
    intro ta nta
    have npa : p ≠ ta := ne_of_none hp nta
    refine ⟨_, rfl, p, T.c_Bank, dx, [], rfl, (by rw [upd_ne npa]; exact hp), T.cl_Bank, T.n_Bank_table, (by show 0 < 1000; decide), ?_⟩
    refine ⟨Nat.zero_le _, fun sh nsh => ?_⟩
    have nps : p ≠ sh := ne_of_none upd_same nsh
    have nas : ta ≠ sh := ne_of_none (Eq.trans (upd_ne npa.symm) upd_same) nsh
    refine ⟨_, rfl, p, T.c_Bank, dx, _, rfl, (by rw [upd_ne nps]; exact upd_same), T.cl_Bank, T.n_Bank_shapes, (by show 1 < 1000; decide), ?_⟩
    refine ⟨Nat.zero_le _, fun te nte => ?_⟩
    have npt : p ≠ te := ne_of_none upd_same nte
    have nst : sh ≠ te := ne_of_none (Eq.trans (upd_ne nps.symm) upd_same) nte
    have nat : ta ≠ te := ne_of_none (Eq.trans (upd_ne npa.symm) (Eq.trans (upd_ne nas) (Eq.trans (upd_ne npa.symm) upd_same))) nte
    refine ⟨_, rfl, p, T.c_Bank, dx, _, rfl, (by rw [upd_ne npt]; exact upd_same), T.cl_Bank, T.n_Bank_terms, (by show 2 < 1000; decide), ?_⟩
    rw [upd_ne nps.symm, upd_ne nas.symm] at nsh
    rw [upd_ne npt.symm, upd_ne nst.symm, upd_ne npt.symm, upd_ne nat.symm] at nte
    refine k _ ta sh te (fun b o e n => ?_) nta nsh nte ⟨upd_same, nst, [], [], [], ⟨?_, fun _ h => nomatch h⟩, ?_, ?_, .nil, .nil, BankOk.nil⟩
    · have nb : b ≠ p := fun z => n (List.mem_singleton.mpr z)
      rw [upd_ne nb, upd_ne (ne_of_none e nte), upd_ne nb, upd_ne (ne_of_none e nsh), upd_ne nb, upd_ne (ne_of_none e nta)]
      exact e
    · rw [upd_ne npa.symm, upd_ne nat, upd_ne npa.symm, upd_ne nas, upd_ne npa.symm, upd_same]
      rfl
    · rw [upd_ne nps.symm, upd_ne nst, upd_ne nps.symm, upd_same]
    · rw [upd_ne npt.symm, upd_same]

end NB

namespace NB
open PySem PySem.Spec PyProof.Rows L2 LamX
/-! ### Bank.number_of -/
theorem sc_Bank_number_of : FnScope ["self", "sign", "parts", "shape", "part"] ["self", "sign", "parts"] (defScope s_Bank_number_of) := ⟨rfl, rfl, rfl, by decide +kernel, rfl, by decide +kernel, by decide +kernel⟩
def sp_Bank_number_of (P : Program) (w : World) (K : PySem.W.Frag) (C : Addr) (Tt : List (Addr × Str)) : Sp := fun vs H Q _ => ∃ self dx ta sh te B s pt pvs ps, vs = [.ref self, .str s, .ref pt] ∧
  BankAt P w K C self dx ta sh te B H ∧ SqT K H pt pvs ∧ Rels (isAt B) ps pvs ∧ B.length ≤ 100000 ∧ pvs.length ≤ 100000 ∧
  ∀ H' v, BankAt P w K C self dx ta sh te (addNew B (.mk s ps)) H' → isAt (addNew B (.mk s ps)) (.mk s ps) v → Fr Tt (bS ta sh te) H H' → Q v H'
theorem ok_Bank_number_of {P : Program} {w : World} {K : PySem.W.Frag} {mg : Str → Option Value} {base : Heap} (T : Tx K mg) (Tt : List (Addr × Str)) : FnOk P w K mg base CX0 1 T.a_Bank_number_of T.d_Bank_number_of ["self", "sign", "parts"] (sp_Bank_number_of P w K T.c_Bank Tt) := by
  refine T.F_Bank_number_of.ok sc_Bank_number_of (fun vs H Q E h => ?_) (fun cdv A outer s H vs Q E hr h => ?_)
  · obtain ⟨self, dx, ta, sh, te, B, s, pt, pvs, ps, rfl, _⟩ := h
    rfl
  · obtain ⟨self, dx, ta, sh, te, B, s, pt, pvs, ps, rfl, hb, hs, hR, hB, hpl, k⟩ := h
    have hu16 := hu16_of hr
    refine ⟨_, (pss_cons (ps_set (i := 3) sc_Bank_number_of.nd rfl (by first | exact Or.inl rfl | exact Or.inr rfl) (pe_tup (pa_cons (pv 1) (pa_cons (pv 2) pa_nil)))) (pss_cons (ps_if (pt_cmp (pc_nnotin hu16 (pv 3) (pe_fld (pv 0) rfl)) (by rfl)) (pss_cons (ps_nput hu16 (pe_fld (pv 0) rfl) (pv 3) (pe_callB call_len_seq (by rfl) T.z_len (by decide +kernel) (pa_cons (pe_fld (pv 0) rfl) pa_nil)) rfl) (pss_cons (ps_expr (pe_bm PySem.F.plainAttrs_list PySem.F.slot_list_append PySem.F.type_list_append mt_append (pe_fld (pv 0) rfl) (pa_cons (pv 3) pa_nil))) (pss_one (ps_expr (pe_bm PySem.F.plainAttrs_list PySem.F.slot_list_append PySem.F.type_list_append mt_append (pe_fld (pv 0) rfl) (pa_cons (pe_op op_catA (pe_tup (pa_cons (pv 1) pa_nil)) (pe_callTy call_tuple_of (by rfl) T.z_tuple (by decide +kernel) (pa_cons (pe_lc (own := [("part", 4)]) rfl sc_Bank_number_of.nd (pi_tup (pv 2)) (blkOk_by (own := [("part", 4)]) (N := ["self", "sign", "parts", "shape", "part"]) (sc := defScope s_Bank_number_of) (by decide +kernel)) (fun _ _ _ _ _ => (pg_name (i := 4) sc_Bank_number_of.nd rfl (by first | exact Or.inl rfl | exact Or.inr rfl))) (fun _ _ _ _ _ => pts_nil) (fun _ _ _ _ _ => (pe_ix (show IxR _ (rIxL K) from ix_list) (show PE _ _ (tFld K (tVar 0) "terms") from pe_fld (pv 0) rfl) (pv 4) (fun _ _ => rfl)))) pa_nil))) pa_nil)))))) pss_nil) (pss_one (ps_ret (pe_nget hu16 (pe_fld (pv 0) rfl) (pv 3) (fun _ _ => rfl)))))), ?_⟩
    obtain ⟨hself, nse, kvs, vsh, vte, hnd, hsh, hte, hsp, hdt, ok⟩ := id hb
    have hvl := hsp.len
    obtain ⟨ix, rfl, hix⟩ := isAt.all hR
    have hzl : 100000 < sizeLine := by decide
    refine ⟨_, rfl, _, rfl, (by show 2 ≤ sizeLine; decide), fun b nb => ?_⟩
    have s1 : Same H (upd H b (.tup [.str s, .ref pt])) := same_new nb
    have nk1 : NKey K (upd H b (.tup [.str s, .ref pt])) b (nkey s ix) := nkey_at (.inl (.inl upd_same)) (SqT.same hs s1)
    refine ⟨_, rfl, _, rfl, self, T.c_Bank, dx, _, _, rfl, s1 _ _ hself, T.cl_Bank, T.n_Bank_table, bf_table _ _ _, ta, b, kvs, nkey s ix, rfl, rfl, hnd.kv (Kv.same (S := []) s1), nk1, _, rfl, ?_⟩
    rcases ok.val s ix ps hix with ⟨i, a1, a2⟩ | ⟨a1, a2⟩
    · rw [a2]
      refine ⟨_, rfl, self, T.c_Bank, dx, _, _, rfl, s1 _ _ hself, T.cl_Bank, T.n_Bank_table, bf_table _ _ _, _, rfl, ta, b, kvs, nkey s ix, _, rfl, rfl, hnd.kv (Kv.same (S := []) s1), nk1, a2, ?_⟩
      have eB : addNew B (.mk s ps) = B := addNew_old (List.mem_of_getElem? a1)
      rw [eB] at k
      exact k _ _ (hb.kv (Kv.same s1)) ⟨i, rfl, a1⟩ (Fr.same s1)
    · rw [a2]
      have kl : kvs.length < sizeLine := by have := ok.len; omega
      have nst : self ≠ ta := ne_of hself hnd.at_ (by intro z; unfold DN at z; cases z)
      have nht : sh ≠ ta := ne_of hsh hnd.at_ (by intro z; unfold DN at z; cases z)
      have net : te ≠ ta := ne_of hte hnd.at_ (by intro z; unfold DN at z; cases z)
      have nsh : self ≠ sh := ne_of hself hsh (by intro z; cases z)
      have nte : self ≠ te := ne_of hself hte (by intro z; cases z)
      refine ⟨_, rfl, self, T.c_Bank, dx, _, _, rfl, s1 _ _ hself, T.cl_Bank, T.n_Bank_shapes, bf_shapes _ _ _, sh, vsh, rfl, .inl (.inl (.inl (s1 _ _ hsh))),
        _, rfl, self, T.c_Bank, dx, _, _, rfl, s1 _ _ hself, T.cl_Bank, T.n_Bank_table, bf_table _ _ _, _, rfl, ta, b, kvs, nkey s ix, rfl, rfl, hnd.kv (Kv.same (S := []) s1), nk1, kl, ?_⟩
      obtain ⟨H2, e2⟩ : ∃ H2, H2 = upd (upd H b (.tup [.str s, .ref pt])) ta (DN P w ta (putN kvs (nkey s ix) b (.int (vsh.length : Int)))) := ⟨_, rfl⟩
      have at2 : ∀ x o, H x = some o → x ≠ ta → H2 x = some o := fun x o h n => by
        rw [e2, upd_ne n]
        exact s1 _ _ h
      have h2self := at2 _ _ hself nst
      have h2sh := at2 _ _ hsh nht
      have h2te := at2 _ _ hte net
      have i1 : Imm H (upd H b (.tup [.str s, .ref pt])) := Imm.of s1
      have h1ta : upd H b (.tup [.str s, .ref pt]) ta = some (DN P w ta kvs) := s1 _ _ hnd.at_
      have i2 : Imm (upd H b (.tup [.str s, .ref pt])) H2 := by
        rw [e2]
        exact Imm.upd ⟨fun _ => by rw [h1ta]; exact DN_tup, fun _ _ => by rw [h1ta]; exact DN_frz⟩
      have f2 : Fr Tt (bS ta sh te) H H2 := (Fr.same s1).trans (by rw [e2]; exact Fr.putN h1ta (by simp [bS]))
      have h2ta : H2 ta = some (DN P w ta (putN kvs (nkey s ix) b (.int (vsh.length : Int)))) := by rw [e2, upd_same]
      -- self.shapes.append(shape)
      obtain ⟨H3, e3⟩ : ∃ H3, H3 = upd H2 sh (.lst (vsh ++ [.ref b])) := ⟨_, rfl⟩
      have at3 : ∀ x o, H2 x = some o → x ≠ sh → H3 x = some o := fun x o h n => by
        rw [e3, upd_ne n]
        exact h
      have h3self := at3 _ _ h2self nsh
      have h3te := at3 _ _ h2te nse.symm
      have h3ta := at3 _ _ h2ta nht.symm
      have h3sh : H3 sh = some (.lst (vsh ++ [.ref b])) := by rw [e3, upd_same]
      have f3 : Fr Tt (bS ta sh te) H H3 := f2.trans (by rw [e3]; exact Fr.putL h2sh (by simp [bS]))
      have i3 : Imm H2 H3 := by rw [e3]; exact Imm.lst h2sh
      -- the term that is put in
      have fin : ∀ H7 tm, Same H3 H7 → SqT K H7 tm (.str s :: ix.map fun i : Nat => vte.getD i .non) → H7 te = some (.lst vte) ∧ upd H7 te (.lst (vte ++ [.ref tm])) self = some (.ins T.c_Bank dx (bf ta sh te)) ∧
          NDct P w K (upd H7 te (.lst (vte ++ [.ref tm]))) ta (putN kvs (nkey s ix) b (.int (vsh.length : Int))) ∧ NKey K (upd H7 te (.lst (vte ++ [.ref tm]))) b (nkey s ix) ∧
          valN (putN kvs (nkey s ix) b (.int (vsh.length : Int))) (nkey s ix) = some (.int (vsh.length : Int)) ∧ BankAt P w K T.c_Bank self dx ta sh te (addNew B (.mk s ps)) (upd H7 te (.lst (vte ++ [.ref tm]))) ∧ Fr Tt (bS ta sh te) H (upd H7 te (.lst (vte ++ [.ref tm]))) := by
        intro H7 tm s7 hq
        have h7te := s7 _ _ h3te
        have i7 : Imm H7 (upd H7 te (.lst (vte ++ [.ref tm]))) := Imm.lst h7te
        have iA : Imm (upd H b (.tup [.str s, .ref pt])) (upd H7 te (.lst (vte ++ [.ref tm]))) := i2.trans (i3.trans ((Imm.of s7).trans i7))
        have iH := i1.trans iA
        have hk8 := nk1.imm iA
        have h8self : upd H7 te (.lst (vte ++ [.ref tm])) self = some (.ins T.c_Bank dx (bf ta sh te)) := by rw [upd_ne nte]; exact s7 _ _ h3self
        have eput := putN_new (b := b) (v := .int (vsh.length : Int)) a2
        have hnd8 : NDct P w K (upd H7 te (.lst (vte ++ [.ref tm]))) ta (putN kvs (nkey s ix) b (.int (vsh.length : Int))) := by
          refine ⟨by rw [upd_ne net.symm]; exact s7 _ _ h3ta, fun e he => ?_⟩
          rw [eput] at he
          rcases List.mem_append.mp he with q | q
          · exact (hnd.keys e q).imm iH
          · rw [List.mem_singleton.mp q]
            exact hk8
        have ok8 : BankOk (putN kvs (nkey s ix) b (.int (vsh.length : Int))) (B ++ [.mk s ps]) := by
          rw [hvl]
          exact ok.add hix a1 a2
        refine ⟨h7te, h8self, hnd8, hk8, by rw [eput, valN_app a2, if_pos rfl], ?_, ?_⟩
        · rw [addNew_new a1]
          refine ⟨h8self, nse, _, _, _, hnd8, by rw [upd_ne nse]; exact s7 _ _ h3sh, upd_same, (hsp.imm iH).add (by rw [← nkey_data]; exact hk8.1) hix, ?_, ok8⟩
          rw [Tm.datas_app]
          refine (DpAll.imm iH _ _ (Tm.nl_datas B) hdt).app (.cons ?_ .nil)
          rw [Tm.data]
          exact .tup (i7.sq hq) (.cons (.str _) (DpAll.imm iH _ _ (Tm.nl_datas ps) (vals_of hdt hix)))
        · exact (f3.trans (Fr.same s7)).trans (Fr.putL h7te (by simp [bS]))
      have kfin : ∀ H8, BankAt P w K T.c_Bank self dx ta sh te (addNew B (.mk s ps)) H8 → Fr Tt (bS ta sh te) H H8 → Q (.int (vsh.length : Int)) H8 := fun H8 a b => k H8 _ a ⟨vsh.length, rfl, by rw [addNew_new a1, hvl]; simp⟩ b
      have i3H := i1.trans (i2.trans i3)
      subst e3
      subst e2
      refine ⟨_, rfl, self, T.c_Bank, dx, _, _, rfl, h2self, T.cl_Bank, T.n_Bank_shapes, bf_shapes _ _ _, .inl ⟨rfl, _, .inl (.inl h2sh)⟩, _, rfl, sh, _, _, rfl, rfl, h2sh, by omega, ?_⟩
      refine ⟨_, rfl, self, T.c_Bank, dx, _, _, rfl, h3self, T.cl_Bank, T.n_Bank_terms, bf_terms _ _ _, .inl ⟨rfl, _, .inl (.inl h3te)⟩, _, rfl, (by show 1 ≤ sizeLine; decide), fun q1 nq1 => ?_⟩
      have s4 := same_new (o := .tup [.str s]) nq1
      refine ⟨_, rfl, pt, rfl, ⟨_, SqT.same (i3H.sq hs) s4⟩, fun D nD => ?_⟩
      have hlv : (ix.map fun i : Nat => V.int (i : Int)).length = ix.length := List.length_map _
      have hvt : vte.length = B.length := by rw [hdt.len, Tm.datas_len]
      refine lc_tup (K := K) (a := pt) (xs := ix.map fun i : Nat => V.int (i : Int)) (fun i H' => Same (upd _ q1 (.tup [.str s])) H' ∧ H' D = some (.lst ((ix.take i).map fun j : Nat => vte.getD j .non)))
        ⟨same_new nD, upd_same⟩ (fun i H' _ q => SqT.same (SqT.same (i3H.sq hs) s4) q.1) (fun i x H' hx q => ?_) (fun H5 q5 => ?_)
      · have hi : i < ix.length := by
          have := (List.getElem?_eq_some_iff.mp hx).1
          omega
        have hxi : ix[i]? = some ix[i] := List.getElem?_eq_getElem hi
        rw [List.getElem?_map, hxi] at hx
        cases hx
        have hj : ix[i] < vte.length := by
          rw [hvt]
          exact ix_lt hix _ (List.getElem_mem hi)
        refine ⟨rfl, _, rfl, self, T.c_Bank, dx, _, _, rfl, q.1 _ _ (s4 _ _ h3self), T.cl_Bank, T.n_Bank_terms, bf_terms _ _ _, _, rfl, te, _, _, _, rfl, rfl, .inl (.inl (q.1 _ _ (s4 _ _ h3te))), atI_nat (getD_lt hj .non), _, q.2, ?_, q.1.upd nD, ?_⟩
        · rw [List.length_map, List.length_take]
          omega
        · rw [upd_same, take_snoc hxi, List.map_append]
          rfl
      · rw [hlv, List.take_length] at q5
        refine ⟨D, _, rfl, .inl ⟨.inl (.inl q5.2), fun q2 nq2 => ?_⟩⟩
        have h5q1 := q5.1 _ _ upd_same
        have n12 : q1 ≠ q2 := ne_of_none h5q1 nq2
        have s6 := (s4.trans q5.1).trans (same_new (o := .tup (ix.map fun i : Nat => vte.getD i .non)) nq2)
        have hvs : vte.length < sizeLine := by omega
        refine ⟨q1, q2, [.str s], _, rfl, rfl, .inl (.inl (Eq.trans (upd_ne n12) h5q1)), .inl (.inl upd_same), ?_, (fun z => nomatch z), fun _ hv => ?_, fun _ hv p np => ?_⟩
        · rw [List.length_map, List.length_singleton]
          rw [hlv] at hpl
          omega
        · obtain ⟨g1, g2, g3, g4, g5, g6, g7⟩ := fin _ q1 s6 (by rw [hv]; exact .inl (.inl (Eq.trans (upd_ne n12) h5q1)))
          exact ⟨te, _, _, rfl, rfl, g1, hvs, _, rfl, self, T.c_Bank, dx, _, _, rfl, g2, T.cl_Bank, T.n_Bank_table, bf_table _ _ _, _, rfl, ta, b, _, nkey s ix, _, rfl, rfl, g3, g4, g5, kfin _ g6 g7⟩
        · obtain ⟨g1, g2, g3, g4, g5, g6, g7⟩ := fin _ p (s6.trans (same_new np)) (.inl (.inl upd_same))
          exact ⟨te, _, _, rfl, rfl, g1, hvs, _, rfl, self, T.c_Bank, dx, _, _, rfl, g2, T.cl_Bank, T.n_Bank_table, bf_table _ _ _, _, rfl, ta, b, _, nkey s ix, _, rfl, rfl, g3, g4, g5, kfin _ g6 g7⟩

end NB

namespace NB
open PySem PySem.Spec PyProof.Rows L2 LamX
/-! ### Bank.take -/
theorem sc_Bank_take : FnScope ["self", "term"] ["self", "term"] (defScope s_Bank_take) := ⟨rfl, rfl, rfl, by decide +kernel, rfl, by decide +kernel, by decide +kernel⟩
def sp_Bank_take (P : Program) (w : World) (K : PySem.W.Frag) (C : Addr) (Tt : List (Addr × Str)) : Sp := fun vs H Q _ => ∃ self dx ta sh te B v t, vs = [.ref self, v] ∧
  BankAt P w K C self dx ta sh te B H ∧ Dp K H v (Tm.data t) ∧ B.length + (Tm.pre t).length ≤ 100000 ∧ Tabs Tt H ∧
  ∀ H' v', BankAt P w K C self dx ta sh te ((Tm.pre t).reverse.foldl addNew B) H' → isAt ((Tm.pre t).reverse.foldl addNew B) t v' → Fr Tt (bS ta sh te) H H' → Q v' H'
def lamTake : Str := "Bank.take.<locals>.<lambda>"
theorem ok_Bank_take {P : Program} {w : World} {K : PySem.W.Frag} {mg : Str → Option Value} {base : Heap} (T : Tx K mg) (Tt : List (Addr × Str)) (c Pt : Addr) (CF : CodeFun K "take" "Bank.take" s_Bank_take T.a_Bank_take T.d_Bank_take c) (TB : TabB base mg c Pt)
    (hmT : (Pt, lamTake) ∈ Tt) (hu : ∀ p ∈ Tt, p.1 = Pt → p.2 = lamTake) : FnOk P w K mg base CX0 4 T.a_Bank_take T.d_Bank_take ["self", "term"] (sp_Bank_take P w K T.c_Bank Tt) := by
  obtain ⟨oc, od, kV, doc, pm, an, ct, osl, efd, lk, hcd⟩ := CF.ex
  rw [efd] at lk ⊢
  refine fn_of (k := 3) lk hcd sc_Bank_take (fun vs H Q E h => ?_) (fun A outer s H vs Q E hr h => ?_)
  · obtain ⟨self, dx, ta, sh, te, B, v, t, rfl, _⟩ := h
    rfl
  · obtain ⟨self, dx, ta, sh, te, B, v, t, rfl, hb, hd, hn, hT, k⟩ := h
    obtain ⟨goc, god, gkV, gdoc, gpm, gan, gcdv, gct, gosl, gefd, glk, gcd⟩ := T.F_from_within.ex
    have gb := T.b_from_within
    rw [gefd] at glk gb
    let X : Cx := (cxOf CX0 P w K mg base ["self", "term"] "Bank.take" (defScope s_Bank_take) T.a_Bank_take (.ref c) A outer s H E).nox
    have hrX : Room 3 X.A := hr
    have hG := gives_from_within (X := X) T gcdv (hrX.mono (by decide)) Tt
    suffices hh : ∃ t, PSs X (defBody s_Bank_take) t ∧ t { nx := fun _ H' => Q .non H', rt := Q } (L2.start ["self", "term"] [.ref self, v]) H by
      obtain ⟨t, h1, h2⟩ := hh
      exact ⟨t, h1.nox, h2⟩
    refine ⟨_, pss_one (ps_ret (pe_lamP (X := X) (T := Tt) (TT := fwTT K Tt) (x := "from_within") (a := "maker") (ag := "term") (k := 1) (fr := ["self"]) (ps := ["sign", "parts"]) (N := ["sign", "parts", "self"]) (js := [0])
      (msp := fun ws vs H Q => ∃ self s pt dx, ws = [some (.ref self)] ∧ vs = [.str s, .ref pt] ∧ H self = some (.ins T.c_Bank dx (bf ta sh te)) ∧ sp_Bank_number_of P w K T.c_Bank Tt [.ref self, .str s, .ref pt] H Q E0)
      (by rfl) T.m_from_within T.F_from_within.kp glk gcd gb sc_from_within rfl (.inl rfl) hG TB rfl hmT hu (hrX.mono (by decide)) rfl (show NdefX.ndefB (defScope s_Bank_take) _ ["self"] = true from by decide +kernel) rfl (NdefX.nscope_by (by decide +kernel))
      ?hbind ?hsp ?hbody (pv 1))), ?_⟩
    case hbind =>
      intro q cl pm cv ct us hl
      match us, hl with
      | [_, _], _ => rfl
    case hsp =>
      rintro ws vs H Q ⟨self, s, pt, dx, _, rfl, _⟩
      rfl
    case hbody =>
      rintro A' outer' s' H' f' c' cl ws vs Q' hr' ⟨self, sg, pt, dx', rfl, rfl, hs, h⟩
      refine ⟨_, pe_meth (pv 2) T.cl_Bank T.h_Bank_number_of (ok_Bank_number_of T Tt) hr' T.b_Bank_number_of .nil pass0 (pa_cons (pv 0) (pa_cons (pv 1) pa_nil)), ?_⟩
      exact ⟨_, rfl, self, dx', _, rfl, hs, bf_no _ _ _ (by decide +kernel) (by decide +kernel) (by decide +kernel), _, rfl, _, rfl, h⟩
    refine ⟨_, rfl, hT, fun H2 c' eN T2 hc => ?_⟩
    have kv2 : Kv (bS ta sh te) H H2 := fun b o h t _ => eN b o h t
    have hb2 := hb.kv kv2
    have hcS : c' ∉ bS ta sh te := fun z => by
      obtain ⟨_, _, kvs, vsh, vte, h3, h4, h5, _⟩ := hb2
      rcases mem_bS z with z | z | z
      · subst z
        exact DN_code (h3.at_.symm.trans hc)
      · subst z
        exact codeO_lst (h4.symm.trans hc)
      · subst z
        exact codeO_lst (h5.symm.trans hc)
    refine ⟨t, List Tm, bS ta sh te, fun B H => BankAt P w K T.c_Bank self dx ta sh te B H, isAt, addNew, B, Dp.imm (Imm.extN eN) _ _ (Tm.nl_data t) hd, by omega, hb2, fun a H1 h => h.ex, hb2.mut, fun a H1 H2 h e => h.kv e, fun a x y v h => h.mono, ?_,
      fun v' H' fr hj hr => k H' v' hj hr ((Fr.mk (Kp.extN eN) (fun _ => T2)).trans fr)⟩
    rintro i a sg ps vs pt H1 hi ea hj fr hs hl hR Q' q
    refine ⟨fr.kp c' _ hc hcS (fun ps z => codeO_ne ps z), self, sg, pt, dx, rfl, rfl, hj.1, self, dx, ta, sh, te, a, sg, pt, vs, ps, rfl, hj, hs, hR, ?_, ?_, fun H' v' b1 b2 b3 => q v' H' b1 b2 b3⟩
    · rw [ea]
      have := addAll_len ((Tm.pre t).reverse.take i) B
      rw [List.length_take, List.length_reverse] at this
      omega
    · have e : ps.length = vs.length := hR.length
      have hm : Tm.mk sg ps ∈ Tm.pre t := List.mem_reverse.mp (List.mem_of_getElem? hi)
      have := parts_le hm
      omega

end NB

namespace NB
open PySem PySem.Spec PyProof.Rows L2 LamX
/-! ### Bank.take_lines -/
theorem sc_Bank_take_lines : FnScope ["self", "lines", "one", "other"] ["self", "lines"] (defScope s_Bank_take_lines) := ⟨rfl, rfl, rfl, by decide +kernel, rfl, by decide +kernel, by decide +kernel⟩
/-- the numbers of the sides of lines -/
def PairsOf (B : List Tm) (ls : List Ln) (ps : List (Nat × Nat)) : Prop := ps.length = ls.length ∧ ∀ (k : Nat) l p, ls[k]? = some l → ps[k]? = some p → B[p.1]? = some l.1 ∧ B[p.2]? = some l.2
/-- a pair of numbers as data -/
def prD (p : Nat × Nat) : PyData := .tuple [.int (p.1 : Int), .int (p.2 : Int)]
theorem nl_prD (p : Nat × Nat) : nl (prD p) = true := rfl
theorem nls_prDs : ∀ ps : List (Nat × Nat), nls (ps.map prD) = true
  | [] => rfl
  | p :: ps => by rw [List.map_cons, nls, nl_prD, nls_prDs ps]; rfl
theorem isAt.monos {t : Tm} {v : V} : ∀ (l : List Tm) {B : List Tm}, isAt B t v → isAt (l.foldl addNew B) t v
  | [], _, h => h
  | x :: l, _, h => isAt.monos l h.mono
theorem PairsOf.more {B : List Tm} {ls : List Ln} {ps : List (Nat × Nat)} (h : PairsOf B ls ps) (l : List Tm) : PairsOf (l.foldl addNew B) ls ps := ⟨h.1, fun k x p hx hp => by
  obtain ⟨a, b⟩ := h.2 k x p hx hp
  obtain ⟨i, e, a2⟩ := isAt.monos l (⟨p.1, rfl, a⟩ : isAt B x.1 (.int (p.1 : Int)))
  obtain ⟨j, f, b2⟩ := isAt.monos l (⟨p.2, rfl, b⟩ : isAt B x.2 (.int (p.2 : Int)))
  have e1 : i = p.1 := by have := V.int.inj e; omega
  have e2 : j = p.2 := by have := V.int.inj f; omega
  rw [e1] at a2
  rw [e2] at b2
  exact ⟨a2, b2⟩⟩
theorem PairsOf.snoc {B : List Tm} {ls : List Ln} {ps : List (Nat × Nat)} (h : PairsOf B ls ps) {l : Ln} {p : Nat × Nat} (a : B[p.1]? = some l.1) (b : B[p.2]? = some l.2) : PairsOf B (ls ++ [l]) (ps ++ [p]) := ⟨by rw [List.length_append, List.length_append, h.1]; rfl, fun k x q hx hq => by
  by_cases hk : k < ls.length
  · rw [List.getElem?_append_left hk] at hx
    rw [List.getElem?_append_left (by rw [h.1]; exact hk)] at hq
    exact h.2 k x q hx hq
  · have e : k = ls.length := by
      have := (List.getElem?_eq_some_iff.mp hx).1
      rw [List.length_append] at this
      have : ([l] : List Ln).length = 1 := rfl
      omega
    subst e
    rw [List.getElem?_append_right (Nat.le_refl _), Nat.sub_self] at hx
    rw [List.getElem?_append_right (by rw [h.1]; exact Nat.le_refl _), h.1, Nat.sub_self] at hq
    cases hx
    cases hq
    exact ⟨a, b⟩⟩
def sp_Bank_take_lines (P : Program) (w : World) (K : PySem.W.Frag) (C : Addr) (Tt : List (Addr × Str)) : Sp := fun vs H Q _ => ∃ self dx ta sh te B v ls, vs = [.ref self, v] ∧
  BankAt P w K C self dx ta sh te B H ∧ Dp K H v (lnsD ls) ∧ B.length + cntL ls ≤ 100000 ∧ ls.length ≤ 100000 ∧ Tabs Tt H ∧
  ∀ H' l us ps, BankAt P w K C self dx ta sh te (ls.foldl addL B) H' → Fr Tt (bS ta sh te) H H' → H l = none → H' l = some (.lst us) → DpAll K H' us (ps.map prD) → PairsOf (ls.foldl addL B) ls ps → Q (.ref l) H'
theorem ok_Bank_take_lines {P : Program} {w : World} {K : PySem.W.Frag} {mg : Str → Option Value} {base : Heap} (T : Tx K mg) (Tt : List (Addr × Str)) (GT : FnOk P w K mg base CX0 4 T.a_Bank_take T.d_Bank_take ["self", "term"] (sp_Bank_take P w K T.c_Bank Tt)) : FnOk P w K mg base CX0 5 T.a_Bank_take_lines T.d_Bank_take_lines ["self", "lines"] (sp_Bank_take_lines P w K T.c_Bank Tt) := by
  refine T.F_Bank_take_lines.ok sc_Bank_take_lines (fun vs H Q E h => ?_) (fun cdv A outer s H vs Q E hr h => ?_)
  · obtain ⟨self, dx, ta, sh, te, B, v, ls, rfl, _⟩ := h
    rfl
  · obtain ⟨self, dx, ta, sh, te, B, v, ls, rfl, hb, hd, hn, hll, hT, k⟩ := h
    have hzl : 100000 < sizeLine := by decide
    obtain ⟨a, xs, rfl, hs, ha⟩ := lnsAt hd
    have hxl : xs.length = ls.length := by rw [ha.len, List.length_map]
    refine ⟨_, (pss_one (ps_ret (pe_lc (own := [("one", 2), ("other", 3)]) rfl sc_Bank_take_lines.nd (pi_tup (pv 1)) (blkOk_by (own := [("one", 2), ("other", 3)]) (N := ["self", "lines", "one", "other"]) (sc := defScope s_Bank_take_lines) (by decide +kernel)) (fun _ _ _ _ _ => (show PG _ _ (gTup K 2 (gCons (gName 2) (gCons (gName 3) gNil))) from pg_tup rfl (pgs_cons (pg_name (i := 2) sc_Bank_take_lines.nd rfl (by first | exact Or.inl rfl | exact Or.inr rfl)) (pgs_cons (pg_name (i := 3) sc_Bank_take_lines.nd rfl (by first | exact Or.inl rfl | exact Or.inr rfl)) pgs_nil)))) (fun _ _ _ _ _ => pts_nil) (fun _ _ _ _ _ => (pe_tup (pa_cons (pe_meth (pv 0) T.cl_Bank T.h_Bank_take GT (hr.mono (by first | decide | omega)) T.b_Bank_take .nil pass0 (pa_cons (pv 2) pa_nil)) (pa_cons (pe_meth (pv 0) T.cl_Bank T.h_Bank_take GT (hr.mono (by first | decide | omega)) T.b_Bank_take .nil pass0 (pa_cons (pv 3) pa_nil)) pa_nil))))))), ?_⟩
    refine ⟨_, rfl, a, rfl, ⟨_, hs⟩, fun D nD => ?_⟩
    have nDS : D ∉ bS ta sh te := fun z => hb.ex D z nD
    have im : ∀ {H'}, Fr Tt (bS ta sh te) H H' → Imm H H' := fun f => f.kp.imm hb.mut
    refine lc_tup (K := K) (a := a) (xs := xs) (fun i H' => BankAt P w K T.c_Bank self dx ta sh te ((ls.take i).foldl addL B) H' ∧ Fr Tt (bS ta sh te) H H' ∧ ∃ us ps, H' D = some (.lst us) ∧ us.length = i ∧ DpAll K H' us (ps.map prD) ∧ PairsOf ((ls.take i).foldl addL B) (ls.take i) ps)
      ⟨hb.kv (Kv.same (same_new nD)), Fr.same (same_new nD), [], [], upd_same, rfl, .nil, ⟨rfl, fun k l p h => nomatch h⟩⟩ (fun i H' _ q => Imm.sq (im q.2.1) hs) (fun i x H' hx q => ?_) (fun H' q => ?_)
    · have hi : i < ls.length := by
        have := (List.getElem?_eq_some_iff.mp hx).1
        omega
      have hli : ls[i]? = some ls[i] := List.getElem?_eq_getElem hi
      have hdi : (ls.map lnD)[i]? = some (lnD ls[i]) := by rw [List.getElem?_map, hli]; rfl
      obtain ⟨b, x1, x2, rfl, hsb, d1, d2⟩ := lnAt (ha.get hx hdi)
      obtain ⟨qb, qf, us, ps, qd, ql, qp, qo⟩ := q
      refine ⟨b, _, rfl, Imm.sq (im qf) hsb, rfl, _, _, rfl, _, _, rfl, rfl, rfl, ?_⟩
      have hcl := cntL_get hli
      have hBi := addLs_len (ls.take i) B
      have hB1 := addT_len ((ls.take i).foldl addL B) ls[i].1
      have hno : (bf ta sh te).lookup ("take" : Str) = none := bf_no _ _ _ (by decide +kernel) (by decide +kernel) (by decide +kernel)
      refine ⟨_, rfl, self, dx, _, rfl, qb.1, hno, _, rfl, self, dx, ta, sh, te, _, x1, ls[i].1, rfl, qb, Dp.imm (im qf) _ _ (Tm.nl_data _) d1, by omega, qf.tb hT, fun H1 v1 b1 at1 f1 => ?_⟩
      have g1 := qf.trans f1
      refine ⟨_, rfl, self, dx, _, rfl, b1.1, hno, _, rfl, self, dx, ta, sh, te, _, x2, ls[i].2, rfl, b1, Dp.imm (im g1) _ _ (Tm.nl_data _) d2, ?_, g1.tb hT, fun H2 v2 b2 at2 f2 => ?_⟩
      · show (addT ((ls.take i).foldl addL B) ls[i].1).length + _ ≤ _
        omega
      have g2 := g1.trans f2
      refine ⟨(by show 2 ≤ sizeLine; decide), fun q nq => ?_⟩
      have d2' : H2 D = some (.lst us) := f2.kp D _ (f1.kp D _ qd nDS (fun _ z => nomatch z)) nDS (fun _ z => nomatch z)
      have nDq : D ≠ q := ne_of_none d2' nq
      have d3 : upd H2 q (.tup [v1, v2]) D = some (.lst us) := (upd_ne nDq).trans d2'
      have b3 := b2.kv (Kv.same (same_new (o := .tup [v1, v2]) nq))
      have g3 := g2.trans (Fr.same (same_new (o := .tup [v1, v2]) nq))
      have ow : Ow (upd H2 q (.tup [v1, v2])) [D] := fun b hb => by
        rw [mem1 hb]
        exact .inr ⟨_, d3⟩
      have sm : Sm [D] (upd H2 q (.tup [v1, v2])) (upd (upd H2 q (.tup [v1, v2])) D (.lst (us ++ [.ref q]))) := Sm.upd (List.mem_singleton.mpr rfl)
      have ef : (ls.take (i + 1)).foldl addL B = addT (addT ((ls.take i).foldl addL B) ls[i].1) ls[i].2 := by
        rw [take_snoc hli, List.foldl_append]
        rfl
      obtain ⟨n1, rfl, m1⟩ := isAt.monos (Tm.pre ls[i].2).reverse at1
      obtain ⟨n2, rfl, m2⟩ := at2
      have i12 : Imm H' H2 := (f1.kp.imm qb.mut).trans (f2.kp.imm b1.mut)
      have i4 := (i12.trans (Imm.of (same_new (o := .tup [V.int (n1 : Int), .int (n2 : Int)]) nq))).trans (sm.imm ow)
      have dq : Dp K (upd (upd H2 q (.tup [V.int (n1 : Int), .int (n2 : Int)])) D (.lst (us ++ [.ref q]))) (.ref q) (prD (n1, n2)) := .tup (.inl (.inl ((upd_ne nDq.symm).trans upd_same))) (.cons (.int _) (.cons (.int _) .nil))
      refine ⟨us, d3, by omega, ?_, g3.sm sm ow (Nw.nil fun b hb => by rw [mem1 hb]; exact nD), _, ps ++ [(n1, n2)], upd_same, by rw [List.length_append, ql]; rfl, ?_, ?_⟩
      · rw [ef]
        exact b3.kv (Kv.updL d3 nDS)
      · rw [List.map_append]
        exact (DpAll.imm i4 _ _ (nls_prDs ps) qp).app (.cons dq .nil)
      · rw [ef, take_snoc hli]
        exact ((qo.more (Tm.pre ls[i].1).reverse).more (Tm.pre ls[i].2).reverse).snoc m1 m2
    · rw [hxl, List.take_length] at q
      obtain ⟨q1, q2, us, ps, q3, q4, q5, q6⟩ := q
      exact k _ D us ps q1 q2 nD q3 q5 q6

end NB

namespace NB
open PySem PySem.Spec PyProof.Rows L2 LamX
/-! ### bank_of_told -/
theorem sc_bank_of_told : FnScope ["lines", "bank"] ["lines"] (defScope s_bank_of_told) := ⟨rfl, rfl, rfl, by decide +kernel, rfl, by decide +kernel, by decide +kernel⟩
noncomputable def toldB (ls : List Ln) : List Tm := ls.foldl addL []
def sp_bank_of_told (P : Program) (w : World) (K : PySem.W.Frag) (C : Addr) (Tt : List (Addr × Str)) : Sp := fun vs H Q _ => ∃ v ls, vs = [v] ∧ Dp K H v (lnsD ls) ∧ cntL ls ≤ 100000 ∧ ls.length ≤ 100000 ∧ Tabs Tt H ∧
  ∀ H' p dx ta sh te, Fr Tt [] H H' → H p = none → H ta = none → H sh = none → H te = none → BankAt P w K C p dx ta sh te (toldB ls) H' → Q (.ref p) H'
theorem ok_bank_of_told {P : Program} {w : World} {K : PySem.W.Frag} {mg : Str → Option Value} {base : Heap} (T : Tx K mg) (Tt : List (Addr × Str)) (GT : FnOk P w K mg base CX0 4 T.a_Bank_take T.d_Bank_take ["self", "term"] (sp_Bank_take P w K T.c_Bank Tt)) : FnOk P w K mg base CX0 6 T.a_bank_of_told T.d_bank_of_told ["lines"] (sp_bank_of_told P w K T.c_Bank Tt) := by
  refine T.F_bank_of_told.ok sc_bank_of_told (fun vs H Q E h => ?_) (fun cdv A outer s H vs Q E hr h => ?_)
  · obtain ⟨v, ls, rfl, _⟩ := h
    rfl
  · obtain ⟨v, ls, rfl, hd, hn, hll, hT, k⟩ := h
    refine ⟨_, (pss_cons (ps_set (i := 1) sc_bank_of_told.nd rfl (by first | exact Or.inl rfl | exact Or.inr rfl) (pe_make0 T.mk_Bank (ok_Bank___init__ T) (hr.mono (by first | decide | omega)) rfl T.m_Bank T.b_Bank___init__ .nil pass0)) (pss_cons (ps_expr (pe_meth (pv 1) T.cl_Bank T.h_Bank_take_lines (ok_Bank_take_lines (P := P) (w := w) T Tt GT) (hr.mono (by first | decide | omega)) T.b_Bank_take_lines .nil pass0 (pa_cons (pv 0) pa_nil))) (pss_one (ps_ret (pv 1))))), ?_⟩
    intro p dx np ndp nex
    have s0 : Same H (upd (upd H dx (.own p)) p (.ins T.c_Bank dx [])) := fun b o e => by
      rw [upd_ne (ne_of_none e np), upd_ne (ne_of_none e ndp)]
      exact e
    refine ⟨p, dx, rfl, upd_same, fun H1 ta sh te sm nta nsh nte hb => ?_⟩
    have n0 : ∀ x, upd (upd H dx (.own p)) p (.ins T.c_Bank dx []) x = none → H x = none := fun x z => s0.free z
    have k1 : Same H H1 := fun b o e => sm b o (s0 b o e) (fun z => by rw [mem1 z, np] at e; cases e)
    have hno : (bf ta sh te).lookup ("take_lines" : Str) = none := bf_no _ _ _ (by decide +kernel) (by decide +kernel) (by decide +kernel)
    refine ⟨rfl, _, rfl, p, dx, _, rfl, hb.1, hno, _, rfl, p, dx, ta, sh, te, [], v, ls, rfl, hb, Dp.same k1 _ _ hd, by rw [List.length_nil]; omega, hll, hT.ext k1, fun H2 l2 us2 ps2 hb2 f2 _ _ _ _ => ?_⟩
    refine ⟨_, rfl, k _ p dx ta sh te ?_ np (n0 _ nta) (n0 _ nsh) (n0 _ nte) hb2⟩
    refine ((Fr.same k1).trans f2).drop fun b hb => .inr ?_
    rcases mem_bS hb with z | z | z
    · rw [z]
      exact n0 _ nta
    · rw [z]
      exact n0 _ nsh
    · rw [z]
      exact n0 _ nte

/-! ### told_in -/
theorem sc_told_in : FnScope ["lines"] ["lines"] (defScope s_told_in) := ⟨rfl, rfl, rfl, by decide +kernel, rfl, by decide +kernel, by decide +kernel⟩
def sp_told_in (P : Program) (w : World) (K : PySem.W.Frag) (C : Addr) (Tt : List (Addr × Str)) : Sp := fun vs H Q _ => ∃ v ls, vs = [v] ∧ Dp K H v (lnsD ls) ∧ cntL ls ≤ 100000 ∧ ls.length ≤ 100000 ∧ Tabs Tt H ∧
  ∀ H' te us, Fr Tt [] H H' → H te = none → H' te = some (.lst us) → DpAll K H' us (Tm.datas (toldB ls)) → (toldB ls).Nodup → Q (.ref te) H'
theorem ok_told_in {P : Program} {w : World} {K : PySem.W.Frag} {mg : Str → Option Value} {base : Heap} (T : Tx K mg) (Tt : List (Addr × Str)) (GT : FnOk P w K mg base CX0 4 T.a_Bank_take T.d_Bank_take ["self", "term"] (sp_Bank_take P w K T.c_Bank Tt)) : FnOk P w K mg base CX0 7 T.a_told_in T.d_told_in ["lines"] (sp_told_in P w K T.c_Bank Tt) := by
  refine T.F_told_in.ok sc_told_in (fun vs H Q E h => ?_) (fun cdv A outer s H vs Q E hr h => ?_)
  · obtain ⟨v, ls, rfl, _⟩ := h
    rfl
  · obtain ⟨v, ls, rfl, hd, hn, hll, hT, k⟩ := h
    refine ⟨_, (pss_one (ps_ret (pe_fld (pe_call (ok_bank_of_told (P := P) (w := w) T Tt GT) (hr.mono (by first | decide | omega)) rfl T.m_bank_of_told T.F_bank_of_told.kp T.b_bank_of_told .nil pass0 (pa_cons (pv 0) pa_nil)) rfl))), ?_⟩
    refine ⟨_, rfl, v, ls, rfl, hd, hn, hll, hT, fun H1 p dx ta sh te f1 np nta nsh nte hb => ?_⟩
    obtain ⟨g1, g2, kvs, vsh, vte, g3, g4, g5, g6, g7, g8⟩ := hb
    exact ⟨p, T.c_Bank, dx, _, _, rfl, g1, T.cl_Bank, T.n_Bank_terms, bf_terms _ _ _, k _ te vte f1 nte g5 g7 g8.nd⟩

end NB

namespace NB
open PySem PySem.Spec PyProof.Rows L2 LamX
/-! ### flat -/
theorem sc_flat : FnScope ["lines", "one", "other"] ["lines"] (defScope s_flat) := ⟨rfl, rfl, rfl, by decide +kernel, rfl, by decide +kernel, by decide +kernel⟩
def wordsD (t : Tm) : PyData := .tuple ((Tm.pre t).map fun x => .str x.sg)
def flatD (ls : List Ln) : PyData := .list (ls.map fun l => .tuple [wordsD l.1, wordsD l.2])
theorem nls_strs : ∀ ts : List Tm, nls (ts.map fun x => PyData.str x.sg) = true
  | [] => rfl
  | t :: ts => by rw [List.map_cons, nls, nls_strs ts]; rfl
theorem nl_flat : ∀ ls : List Ln, nls (ls.map fun l => PyData.tuple [wordsD l.1, wordsD l.2]) = true
  | [] => rfl
  | l :: ls => by
    rw [List.map_cons, nls, nl_flat ls, nl, nls, nls, wordsD, wordsD, nl, nl, nls_strs, nls_strs]
    rfl
def sp_flat (K : PySem.W.Frag) : Sp := fun vs H Q _ => ∃ v ls, vs = [v] ∧ Dp K H v (lnsD ls) ∧ cntL ls ≤ 100000 ∧ ls.length ≤ 100000 ∧ ∀ H' p, Same H H' → H p = none → Dp K H' (.ref p) (flatD ls) → Q (.ref p) H'
theorem ok_flat {P : Program} {w : World} {K : PySem.W.Frag} {mg : Str → Option Value} {base : Heap} (T : Tx K mg)  : FnOk P w K mg base CX0 3 T.a_flat T.d_flat ["lines"] (sp_flat K) := by
  refine T.F_flat.ok sc_flat (fun vs H Q E h => ?_) (fun cdv A outer s H vs Q E hr h => ?_)
  · obtain ⟨v, ls, rfl, _⟩ := h
    rfl
  · obtain ⟨v, ls, rfl, hd, hn, hll, k⟩ := h
    have hzl : 100000 < sizeLine := by decide
    obtain ⟨a, xs, rfl, hs, ha⟩ := lnsAt hd
    have hxl : xs.length = ls.length := by rw [ha.len, List.length_map]
    refine ⟨_, (pss_one (ps_ret (pe_lc (own := [("one", 1), ("other", 2)]) rfl sc_flat.nd (pi_tup (pv 0)) (blkOk_by (own := [("one", 1), ("other", 2)]) (N := ["lines", "one", "other"]) (sc := defScope s_flat) (by decide +kernel)) (fun _ _ _ _ _ => (show PG _ _ (gTup K 2 (gCons (gName 1) (gCons (gName 2) gNil))) from pg_tup rfl (pgs_cons (pg_name (i := 1) sc_flat.nd rfl (by first | exact Or.inl rfl | exact Or.inr rfl)) (pgs_cons (pg_name (i := 2) sc_flat.nd rfl (by first | exact Or.inl rfl | exact Or.inr rfl)) pgs_nil)))) (fun _ _ _ _ _ => pts_nil) (fun _ _ _ _ _ => (pe_tup (pa_cons (pe_call (ok_words T) (hr.mono (by first | decide | omega)) rfl T.m_words T.F_words.kp T.b_words .nil pass0 (pa_cons (pv 1) pa_nil)) (pa_cons (pe_call (ok_words T) (hr.mono (by first | decide | omega)) rfl T.m_words T.F_words.kp T.b_words .nil pass0 (pa_cons (pv 2) pa_nil)) pa_nil))))))), ?_⟩
    refine ⟨_, rfl, a, rfl, ⟨_, hs⟩, fun D nD => ?_⟩
    refine lc_tup (K := K) (a := a) (xs := xs) (fun i H' => Same H H' ∧ ∃ us, H' D = some (.lst us) ∧ us.length = i ∧ DpAll K H' us ((ls.take i).map fun l => .tuple [wordsD l.1, wordsD l.2]))
      ⟨same_new nD, [], upd_same, rfl, .nil⟩ (fun i H' _ q => SqT.same hs q.1) (fun i x H' hx q => ?_) (fun H' q => ?_)
    · have hi : i < ls.length := by
        have := (List.getElem?_eq_some_iff.mp hx).1
        omega
      have hli : ls[i]? = some ls[i] := List.getElem?_eq_getElem hi
      have hdi : (ls.map lnD)[i]? = some (lnD ls[i]) := by rw [List.getElem?_map, hli]; rfl
      obtain ⟨b, x1, x2, rfl, hsb, d1, d2⟩ := lnAt (ha.get hx hdi)
      obtain ⟨qs, us, qd, ql, qa⟩ := q
      have hcl := cntL_get hli
      refine ⟨b, _, rfl, SqT.same hsb qs, rfl, _, _, rfl, _, _, rfl, rfl, rfl, ?_⟩
      refine ⟨_, rfl, x1, ls[i].1, rfl, Dp.same qs _ _ d1, by omega, fun H1 p1 s1 np1 hp1 => ⟨_, rfl, x2, ls[i].2, rfl, Dp.same (qs.trans s1) _ _ d2, by omega, fun H2 p2 s2 np2 hp2 => ⟨(by show 2 ≤ sizeLine; decide), fun q nq => ?_⟩⟩⟩
      have d2' : H2 D = some (.lst us) := s2 _ _ (s1 _ _ qd)
      have nDq : D ≠ q := ne_of_none d2' nq
      have d3 : upd H2 q (.tup [.ref p1, .ref p2]) D = some (.lst us) := (upd_ne nDq).trans d2'
      have sN : Same H' (upd H2 q (.tup [.ref p1, .ref p2])) := (s1.trans s2).trans (same_new nq)
      have iN : Imm (upd H2 q (.tup [.ref p1, .ref p2])) (upd (upd H2 q (.tup [.ref p1, .ref p2])) D (.lst (us ++ [.ref q]))) := Imm.lst d3
      have w1 : SqT K (upd (upd H2 q (.tup [.ref p1, .ref p2])) D (.lst (us ++ [.ref q]))) p1 ((Tm.pre ls[i].1).map fun x => V.str x.sg) := iN.sq (SqT.same (SqT.same (.inl (.inl hp1)) s2) (same_new nq))
      have w2 : SqT K (upd (upd H2 q (.tup [.ref p1, .ref p2])) D (.lst (us ++ [.ref q]))) p2 ((Tm.pre ls[i].2).map fun x => V.str x.sg) := iN.sq (SqT.same (.inl (.inl hp2)) (same_new nq))
      refine ⟨us, d3, by omega, (qs.trans sN).upd nD, us ++ [.ref q], upd_same, by rw [List.length_append, ql]; rfl, ?_⟩
      rw [take_snoc hli, List.map_append]
      refine (DpAll.imm ((Imm.of sN).trans iN) _ _ (nl_flat _) qa).app (.cons (.tup (iN.sq (.inl (.inl upd_same))) (.cons (.tup w1 (DpAll.strs _ _)) (.cons (.tup w2 (DpAll.strs _ _)) .nil))) .nil)
    · rw [hxl, List.take_length] at q
      obtain ⟨qs, us, qd, ql, qa⟩ := q
      exact k _ _ qs nD (.lst (.inl (.inl qd)) qa)

end NB

namespace NB
open PySem PySem.Spec PyProof.Rows L2 LamX
/-! ### Lore.__init__ -/
theorem sc_Lore___init__ : FnScope ["self", "signs", "lines", "places", "number", "line"] ["self", "signs", "lines"] (defScope s_Lore___init__) := ⟨rfl, rfl, rfl, by decide +kernel, rfl, by decide +kernel, by decide +kernel⟩
def sp_Lore___init__ (K : PySem.W.Frag) (C : Addr) (Tt : List (Addr × Str)) : Sp := fun vs H Q _ => ∃ p dx sa lv sg ls, vs = [.ref p, .ref sa, lv] ∧ H p = some (.ins C dx []) ∧
  SgsAt K H sa sg ∧ signsD (sgsD sg) = true ∧ shortD (sgsD sg) = true ∧ Dp K H lv (lnsD ls) ∧ ls.length ≤ 24 ∧ (∀ l ∈ ls, LnOk sg l) ∧ cntL ls ≤ 100000 ∧ (toldB ls).length ≤ 60 ∧ Tabs Tt H ∧
  ∀ H', Fr Tt [p] H H' → H' p = some (.ins C dx (lf (.ref sa) lv)) → Q .non H'
theorem ok_Lore___init__ {P : Program} {w : World} {K : PySem.W.Frag} {mg : Str → Option Value} {base : Heap} (T : Tx K mg) (Tt : List (Addr × Str)) (GT : FnOk P w K mg base CX0 4 T.a_Bank_take T.d_Bank_take ["self", "term"] (sp_Bank_take P w K T.c_Bank Tt)) : FnOk P w K mg base CX0 8 T.a_Lore___init__ T.d_Lore___init__ ["self", "signs", "lines"] (sp_Lore___init__ K T.c_Lore Tt) := by
  refine T.F_Lore___init__.ok sc_Lore___init__ (fun vs H Q E h => ?_) (fun cdv A outer s H vs Q E hr h => ?_)
  · obtain ⟨p, dx, sa, lv, sg, ls, rfl, _⟩ := h
    rfl
  · obtain ⟨p, dx, sa, lv, sg, ls, rfl, hp, hsg, hok, hsh, hl, hll, hln, hcn, hto, hT, k⟩ := h
    obtain ⟨la, xs, rfl, hs, ha⟩ := lnsAt hl
    have hxl : xs.length = ls.length := by rw [ha.len, List.length_map]
    refine ⟨_, (pss_cons (ps_if (pt_not (pt_val (pe_call (ok_are_signs T) (hr.mono (by first | decide | omega)) rfl T.m_are_signs T.F_are_signs.kp T.b_are_signs .nil pass0 (pa_cons (pv 1) pa_nil)))) (pss_one ps_never) pss_nil) (pss_cons (ps_if (PW.pt (pw_or (pt_not (pt_val (pe_callB call_isi (by rfl) T.z_isinstance (by decide +kernel) (pa_cons (pv 2) (pa_cons (pe_bltn (v := .ty "tuple") (u := .type "tuple") (by rfl) T.z_tuple (by decide +kernel) rfl) pa_nil))))) (pw_or1 (pt_cmpR op_gt (pe_callB call_len_seq (by rfl) T.z_len (by decide +kernel) (pa_cons (pv 2) pa_nil)) (pe_glob rfl T.m_MOST_LINES T.r_MOST_LINES) (nomark _))))) (pss_one ps_never) pss_nil) (pss_cons (ps_set (i := 3) sc_Lore___init__.nd rfl (by first | exact Or.inl rfl | exact Or.inr rfl) (pe_callTy (call_dictT rfl) (by rfl) T.z_dict (by decide +kernel) (pa_cons (pv 1) pa_nil))) (pss_cons (ps_for PassesOwn.never rfl (pi_enumT (by rfl) T.z_enumerate (pa_cons (pv 2) pa_nil)) (pg_tup rfl (pgs_cons (pg_name (i := 4) sc_Lore___init__.nd rfl (by first | exact Or.inl rfl | exact Or.inr rfl)) (pgs_cons (pg_name (i := 5) sc_Lore___init__.nd rfl (by first | exact Or.inl rfl | exact Or.inr rfl)) pgs_nil))) (pss_one (ps_if (pt_not (pt_val (pe_call (ok_fits_line T) (hr.mono (by first | decide | omega)) rfl T.m_fits_line T.F_fits_line.kp T.b_fits_line .nil pass0 (pa_cons (pv 3) (pa_cons (pv 5) pa_nil))))) (pss_one ps_never) pss_nil))) (pss_cons (ps_if (pt_cmpR op_gt (pe_callB call_len_seq (by rfl) T.z_len (by decide +kernel) (pa_cons (pe_call (ok_told_in (P := P) (w := w) T Tt GT) (hr.mono (by first | decide | omega)) rfl T.m_told_in T.F_told_in.kp T.b_told_in .nil pass0 (pa_cons (pv 2) pa_nil)) pa_nil)) (pe_glob rfl T.m_MOST_TOLD T.r_MOST_TOLD) (nomark _)) (pss_one ps_never) pss_nil) (pss_cons (ps_fld (pv 0) (pv 1) rfl) (pss_one (ps_fld (pv 0) (pv 2) rfl)))))))), ?_⟩
    refine ⟨_, rfl, .ref sa, sgsD sg, rfl, Dp.jp _ _ (by rw [sgsD, jd, jd_sgs]) hsg.dp, hsh, fun H1 s1 => ⟨_, rfl, ?_⟩⟩
    rw [hok]
    have kt : PySem.W.kitOne K (.type "tuple") (.type "tuple") = some true := kit_ty (by decide +kernel)
    refine ⟨_, rfl, _, _, _, _, _, rfl, .ty "tuple", sqT_ty (SqT.same hs s1), kt, _, rfl, ?_⟩
    refine ⟨_, rfl, la, xs, rfl, .inr (SqT.same hs s1), _, _, rfl, rfl, _, rfl, ?_⟩
    have e24 : decide (((xs.length : Nat) : Int) > 24) = false := decide_eq_false (by omega)
    rw [e24]
    obtain ⟨sxs, hpl, hds⟩ := hsg.imm (Imm.of s1)
    obtain ⟨ps, rfl, hps⟩ := sgs_refs hds
    refine ⟨_, rfl, sa, ps, sg.map kvS, rfl, hpl, hps, fun pl npl => ?_⟩
    have s2 : Same H (upd H1 pl (.dK (mergeK [] (sg.map kvS)))) := s1.trans (same_new npl)
    have hplc : PlcAt (upd H1 pl (.dK (mergeK [] (sg.map kvS)))) pl sg.reverse := plc_merge upd_same
    refine ⟨_, rfl, la, xs, rfl, SqT.same hs s2, ?_⟩
    refine for_it (walk_enumT (K := K) (a := la) (xs := xs)) (fun i σ H' => ∃ w1 w2, σ = [some (.ref p), some (.ref sa), some (.ref la), some (.ref pl), w1, w2] ∧ Same (upd H1 pl (.dK (mergeK [] (sg.map kvS)))) H')
      ⟨_, _, rfl, Same.refl _⟩ (fun i σ H' _ ⟨_, _, _, q⟩ => SqT.same hs (s2.trans q)) (fun i x σ H' H2 hi ⟨w1, w2, e1, q⟩ ⟨T1, x1, y1, e2, nT, e3, e4, e5⟩ => ?_) (fun σ H' ⟨w1, w2, e1, q⟩ => ?_)
    · subst e1 e2 e3
      cases e4
      have hil : i < ls.length := by omega
      have hli : ls[i]? = some ls[i] := List.getElem?_eq_getElem hil
      have hdi : (ls.map lnD)[i]? = some (lnD ls[i]) := by rw [List.getElem?_map, hli]; rfl
      have hd1 := ha.get e5 hdi
      have q2 := q.trans (same_new (o := .tup [.int (i : Nat), y1]) nT)
      have lo := hln ls[i] (List.getElem_mem hil)
      refine ⟨T1, _, rfl, .inl (.inl upd_same), rfl, _, _, rfl, _, _, rfl, rfl, ?_⟩
      refine ⟨_, rfl, _, rfl, pl, y1, lnD ls[i], sg.reverse, rfl, hplc.same q2, Dp.jp _ _ (jd_ln _) (Dp.same (s2.trans q2) _ _ hd1), lo.short, lo.cnt, fun H3 s3 => ⟨_, rfl, ?_⟩⟩
      rw [lo.fit]
      exact ⟨_, _, rfl, q2.trans s3⟩
    · subst e1
      have s3 := s2.trans q
      refine ⟨_, rfl, .ref la, ls, rfl, Dp.same s3 _ _ hl, hcn, by omega, hT.ext s3, fun H4 te us fr nte h4 dus nd => ?_⟩
      have hul : us.length = (toldB ls).length := by rw [dus.len, Tm.datas_len]
      refine ⟨te, us, rfl, .inl (.inl (.inl h4)), _, _, rfl, rfl, _, rfl, ?_⟩
      have e60 : decide (((us.length : Nat) : Int) > 60) = false := decide_eq_false (by omega)
      rw [e60]
      have f4 : Fr Tt [] H H4 := (Fr.same s3).trans fr
      have h4p : H4 p = some (.ins T.c_Lore dx []) := f4.kp p _ hp (fun z => nomatch z) (fun _ z => nomatch z)
      refine ⟨_, rfl, _, rfl, p, T.c_Lore, dx, [], rfl, h4p, T.cl_Lore, T.n_Lore_signs, (by show 0 < 1000; decide), ?_⟩
      refine ⟨_, rfl, _, rfl, p, T.c_Lore, dx, _, rfl, upd_same, T.cl_Lore, T.n_Lore_lines, (by show 1 < 1000; decide), ?_⟩
      refine k _ ?_ upd_same
      have m : p ∈ [p] := List.mem_cons_self ..
      exact ((f4.mono (fun b z => nomatch z)).trans (Fr.putI h4p m)).trans (Fr.putI upd_same m)

end NB

namespace NB
open PySem PySem.Spec PyProof.Rows L2 LamX
/-! ### is_term -/
theorem sc_is_term : FnScope ["lore", "thing"] ["lore", "thing"] (defScope s_is_term) := ⟨rfl, rfl, rfl, by decide +kernel, rfl, by decide +kernel, by decide +kernel⟩
def sp_is_term (K : PySem.W.Frag) (C : Addr) : Sp := fun vs H Q _ => ∃ p v d sg ls, vs = [.ref p, v] ∧ LoreAt K C H p sg ls ∧ Jp K H v d ∧ shortD d = true ∧ cntD d ≤ 100000 ∧ ∀ H', Same H H' → Q (.bl (fitsD sg.reverse d)) H'
theorem ok_is_term {P : Program} {w : World} {K : PySem.W.Frag} {mg : Str → Option Value} {base : Heap} (T : Tx K mg)  : FnOk P w K mg base CX0 2 T.a_is_term T.d_is_term ["lore", "thing"] (sp_is_term K T.c_Lore) := by
  refine T.F_is_term.ok sc_is_term (fun vs H Q E h => ?_) (fun cdv A outer s H vs Q E hr h => ?_)
  · obtain ⟨p, v, d, sg, ls, rfl, _⟩ := h
    rfl
  · obtain ⟨p, v, d, sg, ls, rfl, ⟨dx, sa, lv, hp, ⟨sxs, hpl, hds⟩, hl⟩, j, hsh, hc, k⟩ := h
    refine ⟨_, (pss_one (ps_ret (pe_call (ok_fits T) (hr.mono (by first | decide | omega)) rfl T.m_fits T.F_fits.kp T.b_fits .nil pass0 (pa_cons (pe_callTy (call_dictT rfl) (by rfl) T.z_dict (by decide +kernel) (pa_cons (pe_fld (pv 0) rfl) pa_nil)) (pa_cons (pv 1) pa_nil))))), ?_⟩
    obtain ⟨ps, rfl, hps⟩ := sgs_refs hds
    refine ⟨_, rfl, p, T.c_Lore, dx, _, _, rfl, hp, T.cl_Lore, T.n_Lore_signs, lf_signs _ _, sa, ps, sg.map kvS, rfl, hpl, hps, fun pl npl => ?_⟩
    have s1 := same_new (o := .dK (mergeK [] (sg.map kvS))) npl
    exact ⟨_, rfl, pl, v, d, sg.reverse, rfl, plc_merge upd_same, Jp.same s1 _ _ j, hsh, hc, fun H' s' => k H' (s1.trans s')⟩

end NB

namespace NB
open PySem PySem.Spec PyProof.Rows L2 LamX
/-! ### NoTerm.__init__ -/
theorem sc_NoTerm___init__ : FnScope ["self"] ["self"] (defScope s_NoTerm___init__) := ⟨rfl, rfl, rfl, by decide +kernel, rfl, by decide +kernel, by decide +kernel⟩
theorem del_upd {H : Hp} {a : Addr} {o : HO} (h : H a = none) : del (upd H a o) a = H := by
  funext b
  by_cases e : b = a
  · rw [e, del_same, h]
  · rw [del_ne e, upd_ne e]
def sp_xinit0 (K : PySem.W.Frag) : Sp := fun vs H Q _ => ∃ a C, vs = [.ref a] ∧ OexC K C ∧ H a = some (exo a C none) ∧ Q .non H
theorem ok_NoTerm___init__ {P : Program} {w : World} {K : PySem.W.Frag} {mg : Str → Option Value} {base : Heap} (T : Tx K mg)  : FnOk P w K mg base CX0 1 T.a_NoTerm___init__ T.d_NoTerm___init__ ["self"] (sp_xinit0 K) := by
  refine T.F_NoTerm___init__.ok sc_NoTerm___init__ (fun vs H Q E h => ?_) (fun cdv A outer s H vs Q E hr h => ?_)
  · obtain ⟨a, C, rfl, _⟩ := h
    rfl
  · obtain ⟨a, C, rfl, hC, ha, k⟩ := h
    refine ⟨_, (pss_one (ps_expr (pe_baseInit (by rfl) T.m_LoreError T.g_LoreError T.y_LoreError T.rd_LoreError T.v_LoreError (pa_cons (pv 0) (pa_cons pe_str pa_nil))))), ?_⟩
    exact ⟨_, rfl, a, C, _, rfl, by show 1 ≤ 1000; decide, hC, ha, k⟩

end NB

namespace NB
open PySem PySem.Spec PyProof.Rows L2 LamX
/-! ### need_term -/
theorem sc_need_term : FnScope ["lore", "thing"] ["lore", "thing"] (defScope s_need_term) := ⟨rfl, rfl, rfl, by decide +kernel, rfl, by decide +kernel, by decide +kernel⟩
def sp_need_term (K : PySem.W.Frag) (C N : Addr) : Sp := fun vs H Q E => ∃ p v d sg ls, vs = [.ref p, v] ∧ LoreAt K C H p sg ls ∧ Jp K H v d ∧ shortD d = true ∧ cntD d ≤ 100000 ∧ (fitsD sg.reverse d = true → ∀ H', Same H H' → Q .non H') ∧ (fitsD sg.reverse d = false → ∀ H', Same H H' → E (.ref N) none H')
theorem ok_need_term {P : Program} {w : World} {K : PySem.W.Frag} {mg : Str → Option Value} {base : Heap} (T : Tx K mg)  : FnOk P w K mg base (L2.CX P w) 3 T.a_need_term T.d_need_term ["lore", "thing"] (sp_need_term K T.c_Lore T.c_NoTerm) := by
  refine T.F_need_term.okX sc_need_term (fun vs H Q E h => ?_) (fun cdv A outer s H vs Q E hr h => ?_)
  · obtain ⟨p, v, d, sg, ls, rfl, _⟩ := h
    rfl
  · obtain ⟨p, v, d, sg, ls, rfl, hp, j, hsh, hc, k1, k2⟩ := h
    refine ⟨_, (pss_one (ps_if (pt_not (pt_val (pe_call (ok_is_term T) (hr.mono (by first | decide | omega)) rfl T.m_is_term T.F_is_term.kp T.b_is_term .nil pass0 (pa_cons (pv 0) (pa_cons (pv 1) pa_nil))))) (pss_one (ps_raise rfl (takes_of rfl rfl rfl rfl) (pmk_oexN T.o_NoTerm T.i_NoTerm T.t_NoTerm (ok_NoTerm___init__ T) (hr.mono (by first | decide | omega)) T.b_NoTerm___init__ pass0 (by rfl) T.m_NoTerm))) pss_nil)), ?_⟩
    refine ⟨_, rfl, _, rfl, p, v, d, sg, ls, rfl, hp, j, hsh, hc, fun H1 s1 => ⟨_, rfl, ?_⟩⟩
    cases e : fitsD sg.reverse d with
    | true => exact k1 e H1 s1
    | false => exact fun a na => ⟨a, T.c_NoTerm, rfl, T.o_NoTerm, upd_same, rfl, upd_same, by rw [del_upd na]; exact k2 e H1 s1⟩

end NB

namespace NB
open PySem PySem.Spec PyProof.Rows L2 LamX
/-! ### size -/
theorem sc_size : FnScope ["lore", "term"] ["lore", "term"] (defScope s_size) := ⟨rfl, rfl, rfl, by decide +kernel, rfl, by decide +kernel, by decide +kernel⟩
def sp_size (K : PySem.W.Frag) (C N : Addr) : Sp := fun vs H Q E => ∃ p v d sg ls, vs = [.ref p, v] ∧ LoreAt K C H p sg ls ∧ Jp K H v d ∧ shortD d = true ∧ cntD d ≤ 100000 ∧ (∀ t, d = Tm.data t → fitsD sg.reverse d = true → ∀ H', Same H H' → Q (.int ((Tm.pre t).length : Int)) H') ∧ (fitsD sg.reverse d = false → ∀ H', Same H H' → E (.ref N) none H')
theorem ok_size {P : Program} {w : World} {K : PySem.W.Frag} {mg : Str → Option Value} {base : Heap} (T : Tx K mg)  : FnOk P w K mg base (L2.CX P w) 4 T.a_size T.d_size ["lore", "term"] (sp_size K T.c_Lore T.c_NoTerm) := by
  refine T.F_size.okX sc_size (fun vs H Q E h => ?_) (fun cdv A outer s H vs Q E hr h => ?_)
  · obtain ⟨p, v, d, sg, ls, rfl, _⟩ := h
    rfl
  · obtain ⟨p, v, d, sg, ls, rfl, hp, j, hsh, hc, k1, k2⟩ := h
    refine ⟨_, (pss_cons (ps_expr (pe_callS (ok_need_term T) (hr.mono (by first | decide | omega)) rfl T.m_need_term T.F_need_term.kp T.b_need_term (fun σ => passAt (takes_of rfl rfl rfl rfl) σ) (pa_cons (pv 0) (pa_cons (pv 1) pa_nil)))) (pss_one (ps_ret (pe_callB call_len_seq (by rfl) T.z_len (by decide +kernel) (pa_cons (pe_call (ok_nodes T) (hr.mono (by first | decide | omega)) rfl T.m_nodes T.F_nodes.kp T.b_nodes .nil pass0 (pa_cons (pv 1) pa_nil)) pa_nil))))), ?_⟩
    refine ⟨_, rfl, _, rfl, p, v, d, sg, ls, rfl, hp, j, hsh, hc, fun hf H1 s1 => ?_, k2⟩
    obtain ⟨t, rfl⟩ := fits_tm _ _ hf
    have hcn := cnt_data t
    refine ⟨_, rfl, v, t, rfl, Dp.same s1 _ _ (Jp.dp t v j), by omega, fun H2 r us s2 nr hr dus => ?_⟩
    refine ⟨r, us, rfl, .inl (.inl (.inl hr)), ?_⟩
    rw [dus.len, Tm.datas_len]
    exact k1 t rfl hf H2 (s1.trans s2)

end NB

namespace NB
open PySem PySem.Spec PyProof.Rows L2 LamX
/-! ### ascending -/
theorem sc_ascending : FnScope ["bank", "sizes", "many", "_", "parts", "part", "size", "term", "keys"] ["bank"] (defScope s_ascending) := ⟨rfl, rfl, rfl, by decide +kernel, rfl, by decide +kernel, by decide +kernel⟩
def sp_ascending (P : Program) (w : World) (K : PySem.W.Frag) (C : Addr) (Tt : List (Addr × Str)) : Sp := fun vs H Q _ => ∃ p dx ta sh te B, vs = [.ref p] ∧ BankAt P w K C p dx ta sh te B H ∧ B.length ≤ 100000 ∧ (∀ t ∈ B, (Tm.pre t).length ≤ 100000) ∧ Tabs Tt H ∧
  ∀ H' r, Fr Tt [] H H' → (∀ o, H r = some o → ∃ ps, o = .tbl ps) → H' r = some (.lst ((ascL B).map fun i : Nat => V.int (i : Int))) → Q (.ref r) H'
def lamAsc : Str := "ascending.<locals>.<lambda>"
/-- what the lambda promises: the item of the keys with a number -/
def ascM (K : PySem.W.Frag) : List (Option V) → List V → Hp → VK → Prop := fun ws vs H Q => ∃ a xs i x, ws = [some (.ref a)] ∧ vs = [.int i] ∧ SqL K H a xs ∧ atI xs i = some x ∧ Q x H
theorem ok_ascending {P : Program} {w : World} {K : PySem.W.Frag} {mg : Str → Option Value} {base : Heap} (T : Tx K mg) (Tt : List (Addr × Str)) (c Pt : Addr) (CF : CodeFun K "ascending" "ascending" s_ascending T.a_ascending T.d_ascending c) (TB : TabB base mg c Pt)
    (hmT : (Pt, lamAsc) ∈ Tt) (huT : ∀ p ∈ Tt, p.1 = Pt → p.2 = lamAsc) : FnOk P w K mg base CX0 5 T.a_ascending T.d_ascending ["bank"] (sp_ascending P w K T.c_Bank Tt) := by
  obtain ⟨oc, od, kV, doc, pm, an, ct, osl, efd, lk, hcd⟩ := CF.ex
  rw [efd] at lk ⊢
  refine fn_of (k := 4) lk hcd sc_ascending (fun vs H Q E h => ?_) (fun A outer s H vs Q E hr h => ?_)
  · obtain ⟨p, dx, ta, sh, te, B, rfl, _⟩ := h
    rfl
  · obtain ⟨p, dx, ta, sh, te, B, rfl, hb, hBl, hpre, hT, k⟩ := h
    let X : Cx := (cxOf CX0 P w K mg base ["bank", "sizes", "many", "_", "parts", "part", "size", "term", "keys"] "ascending" (defScope s_ascending) T.a_ascending (.ref c) A outer s H E).nox
    have hrX : Room 4 X.A := hr
    have hu := hu_of hrX
    have hzl : 100000 < sizeLine := by decide
    suffices hh : ∃ t, PSs X (defBody s_ascending) t ∧ t { nx := fun _ H' => Q .non H', rt := Q } (L2.start ["bank", "sizes", "many", "_", "parts", "part", "size", "term", "keys"] [.ref p]) H by
      obtain ⟨t, h1, h2⟩ := hh
      exact ⟨t, h1.nox, h2⟩
    refine ⟨_, (pss_cons (ps_set (i := 1) sc_ascending.nd rfl (by first | exact Or.inl rfl | exact Or.inr rfl) (pe_lst pa_nil)) (pss_cons (ps_set (i := 2) sc_ascending.nd rfl (by first | exact Or.inl rfl | exact Or.inr rfl) pe_dnewK) (pss_cons (ps_for PassesOwn.never rfl (pi_list (pe_fld (pv 0) rfl)) (pg_tup rfl (pgs_cons (pg_name (i := 3) sc_ascending.nd rfl (by first | exact Or.inl rfl | exact Or.inr rfl)) (pgs_cons (pg_name (i := 4) sc_ascending.nd rfl (by first | exact Or.inl rfl | exact Or.inr rfl)) pgs_nil))) (pss_cons (ps_set (i := 6) sc_ascending.nd rfl (by first | exact Or.inl rfl | exact Or.inr rfl) (pe_op op_add pe_int (pe_callB (cr_sum rfl) (by rfl) T.z_sum (by decide +kernel) (pa_cons (pe_lc (own := [("part", 5)]) rfl sc_ascending.nd (pi_tup (pv 4)) (blkOk_by (own := [("part", 5)]) (N := ["bank", "sizes", "many", "_", "parts", "part", "size", "term", "keys"]) (sc := defScope s_ascending) (by decide +kernel)) (fun _ _ _ _ _ => (pg_name (i := 5) sc_ascending.nd rfl (by first | exact Or.inl rfl | exact Or.inr rfl))) (fun _ _ _ _ _ => pts_nil) (fun _ _ _ _ _ => (pe_ix (show IxR _ (rIxL K) from ix_list) (pv 1) (pv 5) (fun _ _ => rfl)))) pa_nil)))) (pss_cons (ps_expr (pe_bm PySem.F.plainAttrs_list PySem.F.slot_list_append PySem.F.type_list_append mt_append (pv 1) (pa_cons (pv 6) pa_nil))) (pss_one (ps_dput hu (pv 2) (pv 6) (pe_op op_add (pe_dget2 hu (pv 2) (pv 6) pe_int ⟨rfl, rfl, rfl, rfl⟩) pe_int) rfl))))) (pss_cons (ps_set (i := 8) sc_ascending.nd rfl (by first | exact Or.inl rfl | exact Or.inr rfl) (pe_lc (own := [("size", 6), ("term", 7)]) rfl sc_ascending.nd (pi_zip (by rfl) T.z_zip (pa_cons (pv 1) (pa_cons (pe_fld (pv 0) rfl) pa_nil))) (blkOk_by (own := [("size", 6), ("term", 7)]) (N := ["bank", "sizes", "many", "_", "parts", "part", "size", "term", "keys"]) (sc := defScope s_ascending) (by decide +kernel)) (fun _ _ _ _ _ => (show PG _ _ (gTup K 2 (gCons (gName 6) (gCons (gName 7) gNil))) from pg_tup rfl (pgs_cons (pg_name (i := 6) sc_ascending.nd rfl (by first | exact Or.inl rfl | exact Or.inr rfl)) (pgs_cons (pg_name (i := 7) sc_ascending.nd rfl (by first | exact Or.inl rfl | exact Or.inr rfl)) pgs_nil)))) (fun _ _ _ _ _ => pts_nil) (fun _ _ _ _ _ => (pe_tup (pa_cons (pv 6) (pa_cons (pe_ifExp (pt_cmpR op_gt (pe_dget hu (pv 2) (pv 6) (fun _ _ => rfl)) pe_int (nomark _)) (pe_call (ok_words T) (hr.mono (by first | decide | omega)) rfl T.m_words T.F_words.kp T.b_words .nil pass0 (pa_cons (pv 7) pa_nil)) (pe_tup pa_nil)) pa_nil)))))) (pss_one (ps_ret (pe_sortLam (X := X) (T := Tt) (k := 1) (fr := ["keys"]) (ps := ["number"]) (N := ["number", "keys"]) (js := [8]) (msp := ascM K) (by rfl) (by rfl) T.z_sorted (by decide +kernel) TB rfl hmT huT (hrX.mono (by decide)) rfl (show NdefX.ndefB (defScope s_ascending) _ ["keys"] = true from by decide +kernel) rfl (NdefX.nscope_by (by decide +kernel)) rfl ?hbind ?hbody (pe_callTy cr_range1 (by rfl) T.z_range (by decide +kernel) (pa_cons (pe_callB call_len_seq (by rfl) T.z_len (by decide +kernel) (pa_cons (pv 8) pa_nil)) pa_nil))))))))), ?_⟩
    case hbind =>
      intro q cl pm cv ct us hl
      match us, hl with
      | [_], _ => rfl
    case hbody =>
      rintro A' outer' s' H' f' c' cl ws vs Q' hr' ⟨a, xs, i, x, rfl, rfl, hs, hi, h⟩
      refine ⟨_, pe_ix ix_list (pv 1) (pv 0) (fun _ _ => rfl), ?_⟩
      exact ⟨_, rfl, _, rfl, a, xs, _, _, rfl, rfl, hs, hi, h⟩
    obtain ⟨g1, g2, kvs0, vsh, vte, g3, g4, g5, ⟨shs, dsh, oksh⟩, g7, g8⟩ := hb
    have hvl : vsh.length = B.length := by rw [dsh.len, List.length_map, oksh.len]
    have hvt : vte.length = B.length := by rw [g7.len, Tm.datas_len]
    refine ⟨Nat.zero_le _, fun zo nzo => fun mo nmo => ?_⟩
    obtain ⟨nzm, nmo0⟩ := none_ne nmo
    have s0 : Same H (upd (upd H zo (.lst [])) mo (.dK [])) := (same_new nzo).upd nmo0
    have hz0 : upd (upd H zo (.lst [])) mo (.dK []) zo = some (.lst []) := by rw [upd_ne nzm, upd_same]
    have hm0 : upd (upd H zo (.lst [])) mo (.dK []) mo = some (.dK []) := upd_same
    generalize upd (upd H zo (.lst [])) mo (.dK []) = H0 at s0 hz0 hm0 ⊢
    refine ⟨_, rfl, p, T.c_Bank, dx, _, _, rfl, s0 _ _ g1, T.cl_Bank, T.n_Bank_shapes, bf_shapes _ _ _, sh, rfl, ⟨_, .inl (.inl (s0 _ _ g4))⟩, ?_⟩
    refine for_list (K := K) (a := sh) (xs := vsh) (fun i σ H' => ∃ w3 w4 w5 w6 kvs, σ = [some (.ref p), some (.ref zo), some (.ref mo), w3, w4, w5, w6, none, none] ∧ Same H H' ∧ H' zo = some (.lst (((B.take i).map fun t => (szT t : Int)).map V.int)) ∧ H' mo = some (.dK kvs) ∧ CntOf kvs ((B.take i).map szT))
      ⟨_, _, _, _, [], rfl, s0, hz0, hm0, CntOf.nil⟩ (fun i σ H' _ ⟨_, _, _, _, _, _, s, _⟩ => .inl (.inl (s _ _ g4))) ?_ ?_
    · rintro i x σ H' hx ⟨w3, w4, w5, w6, kvs, rfl, s1, h1, h2, hc⟩
      have hi : i < B.length := by
        have := (List.getElem?_eq_some_iff.mp hx).1
        omega
      obtain ⟨⟨sg, ix⟩, hsi⟩ : ∃ e, shs[i]? = some e := ⟨_, List.getElem?_eq_getElem (by rw [oksh.len]; exact hi)⟩
      obtain ⟨ps, e1, e2, e3⟩ := oksh.get i sg ix hsi
      have dx1 := Dp.same s1 _ _ (dsh.get hx (show (shs.map shD)[i]? = some (shD (sg, ix)) by rw [List.getElem?_map, hsi]; rfl))
      obtain ⟨b, pt, rfl, hsb, hpt⟩ := shp_open dx1
      have hixl : ix.length = ps.length := by
        have := congrArg List.length e2
        simpa using this
      have hbm : Tm.mk sg ps ∈ B := List.mem_of_getElem? e1
      have hps : ps.length ≤ 100000 := by
        have h1 := hpre _ hbm
        have h2 := Tm.pres_len ps
        rw [Tm.pre, List.length_cons] at h1
        omega
      refine ⟨b, _, rfl, hsb, rfl, _, _, rfl, _, _, rfl, rfl, ?_⟩
      refine ⟨_, rfl, pt, rfl, ⟨_, hpt⟩, fun D nD => ?_⟩
      refine lc_tup (K := K) (a := pt) (xs := ix.map fun j : Nat => V.int (j : Int)) (fun j H2 => Same H' H2 ∧ H2 D = some (.lst (((ps.take j).map fun t => (szT t : Int)).map V.int)))
        ⟨same_new nD, upd_same⟩ (fun j H2 _ q => SqT.same hpt q.1) (fun j y H2 hy q => ?_) (fun H2 q => ?_)
      · have hj : j < ix.length := by
          have := (List.getElem?_eq_some_iff.mp hy).1
          rw [List.length_map] at this
          exact this
        have hji : ix[j]? = some ix[j] := List.getElem?_eq_getElem hj
        rw [List.getElem?_map, hji] at hy
        cases hy
        obtain ⟨t, f1, f2⟩ := ix_get e2 hji
        have hlt := e3 _ (List.getElem_mem hj)
        have hzt : (((B.take i).map fun t => (szT t : Int)).map V.int)[ix[j]]? = some (V.int (szT t : Int)) := by
          rw [List.getElem?_map, List.getElem?_map, List.getElem?_take_of_lt hlt, f2]
          rfl
        refine ⟨rfl, _, rfl, _, rfl, zo, _, _, _, rfl, rfl, .inl (.inl (q.1 _ _ h1)), atI_nat hzt, _, q.2, ?_, q.1.upd nD, ?_⟩
        · rw [List.length_map, List.length_map, List.length_take]
          omega
        · rw [upd_same, take_snoc f1, List.map_append, List.map_append]
          rfl
      · rw [List.length_map, hixl, List.take_length] at q
        have ez := szT_mk sg ps
        have nzD : zo ≠ D := ne_of_none h1 nD
        have h1' := q.1 _ _ h1
        refine ⟨D, _, rfl, .inl (.inl q.2), _, _, rfl, rfl, ?_⟩
        have hzl2 : (((B.take i).map fun t => (szT t : Int)).map V.int).length = i := by
          rw [List.length_map, List.length_map, List.length_take]
          omega
        have ef : szT (.mk sg ps) = szT (.mk sg ps) := rfl
        obtain ⟨N, eN⟩ : ∃ N, N = szT (.mk sg ps) := ⟨_, rfl⟩
        rw [← eN] at ez
        refine ⟨_, rfl, .inl ⟨rfl, _, .inl (.inl h1')⟩, _, rfl, zo, _, _, rfl, rfl, h1', by omega, ?_⟩
        have nzm2 : mo ≠ zo := fun z => by
          rw [z, h1] at h2
          cases h2
        have s2 : ∀ o, Same H (upd H2 zo o) := fun o => (s1.trans q.1).upd nzo
        have h2' : ∀ o, upd H2 zo o mo = some (.dK kvs) := fun o => by
          rw [upd_ne nzm2]
          exact q.1 _ _ h2
        have h1'' : (((B.take i).map fun t => (szT t : Int)).map V.int ++ [V.int (1 + (ps.map fun t => (szT t : Int)).sum)]) = (((B.take (i + 1)).map fun t => (szT t : Int)).map V.int) := by
          rw [← ez, eN, take_snoc e1, List.map_append, List.map_append]
          rfl
        refine ⟨_, rfl, mo, rfl, (.inl ⟨kvs, .inl (h2' _)⟩), _, rfl, _, DGet.k (k := Sum.inl (1 + (ps.map fun t => (szT t : Int)).sum)) (h2' _), _, _, (by rw [← ez]; exact hc.get N), rfl, ?_⟩
        have hk1 : kvs.length < sizeLine := by
          have := hc.1
          rw [List.length_map, List.length_take] at this
          omega
        refine ⟨_, rfl, _, rfl, mo, _, rfl, DPut.k (k := Sum.inl (1 + (ps.map fun t => (szT t : Int)).sum)) (h2' _) hk1, ?_⟩
        refine ⟨_, _, _, _, _, rfl, (s2 _).upd nmo0, ?_, upd_same, ?_⟩
        · rw [upd_ne nzm2.symm, upd_same]
          exact congrArg (fun l => some (HO.lst l)) h1''
        · have := hc.put N
          rw [ez, eN] at this
          rw [take_snoc e1, List.map_append]
          rw [eN]
          exact this
    · rintro σ H1 ⟨w3, w4, w5, w6, kvs, rfl, s1, h1, h2, hc⟩
      rw [hvl, List.take_length] at h1 hc
      have hzl3 : ((B.map fun t => (szT t : Int)).map V.int).length = B.length := by rw [List.length_map, List.length_map]
      refine ⟨_, rfl, _, rfl, p, T.c_Bank, dx, _, _, rfl, s1 _ _ g1, T.cl_Bank, T.n_Bank_terms, bf_terms _ _ _, zo, te, _, _, rfl, .inl (.inl h1), .inl (.inl (s1 _ _ g5)), fun D nD => ?_⟩
      have nD0 : H D = none := s1.free nD
      have nzD : zo ≠ D := ne_of_none h1 nD
      have nmD : mo ≠ D := ne_of_none h2 nD
      have hvm : vte.length = ((B.map fun t => (szT t : Int)).map V.int).length := by rw [hzl3, hvt]
      refine lc_it (walk_zip (K := K) (a := zo) (b := te) (xs := (B.map fun t => (szT t : Int)).map V.int) (ys := vte) (n := B.length) (by rw [hzl3, hvt, Nat.min_self]))
        (fun i H' => Same H H' ∧ H' zo = some (.lst ((B.map fun t => (szT t : Int)).map V.int)) ∧ H' mo = some (.dK kvs) ∧ ∃ us, H' D = some (.lst us) ∧ DpAll K H' us ((B.take i).map (keyA B)))
        ⟨s1.upd nD0, by rw [upd_ne nzD]; exact h1, by rw [upd_ne nmD]; exact h2, [], upd_same, .nil⟩ (fun i H' _ ⟨s, z, _⟩ => ⟨.inl (.inl z), .inl (.inl (s _ _ g5))⟩) (fun i x H2 H3 hi ⟨s2, z2, m2, us, d2, du⟩ ⟨T1, x1, y1, ex, nT, e3, e4, e5⟩ => ?_) (fun H2 ⟨s2, z2, m2, us, d2, du⟩ => ?_)
      · subst ex e3
        obtain ⟨t, ht⟩ : ∃ t, B[i]? = some t := ⟨_, List.getElem?_eq_getElem hi⟩
        replace e4 : ((B.map fun t => (szT t : Int)).map V.int)[i]? = some x1 := e4
        rw [List.getElem?_map, List.getElem?_map, ht] at e4
        cases e4
        have hmt : t ∈ B := List.mem_of_getElem? ht
        have dt := g7.get e5 (show (Tm.datas B)[i]? = some (Tm.data t) by rw [Tm.datas_map, List.getElem?_map, ht]; rfl)
        have n2 := same_new (o := .tup [.int (szT t : Int), y1]) nT
        have hul : us.length = i := by rw [du.len, List.length_map, List.length_take]; omega
        have hT1 : upd H2 T1 (.tup [.int (szT t : Int), y1]) T1 = some (.tup [.int (szT t : Int), y1]) := upd_same
        generalize upd H2 T1 (.tup [.int (szT t : Int), y1]) = H3 at n2 hT1 ⊢
        have s3 := s2.trans n2
        have fin : ∀ H4 r ds, Same H3 H4 → H4 r = some (.tup ds) → DpAll K H4 ds (if tieB B t then (Tm.pre t).map (fun x => PyData.str x.sg) else []) → ∀ q, H4 q = none → ∃ acc, upd H4 q (.tup [.int (szT t : Int), .ref r]) D = some (.lst acc) ∧ acc.length < sizeLine ∧
            (Same H (upd (upd H4 q (.tup [.int (szT t : Int), .ref r])) D (.lst (acc ++ [.ref q]))) ∧ upd (upd H4 q (.tup [.int (szT t : Int), .ref r])) D (.lst (acc ++ [.ref q])) zo = some (.lst ((B.map fun t => (szT t : Int)).map V.int)) ∧ upd (upd H4 q (.tup [.int (szT t : Int), .ref r])) D (.lst (acc ++ [.ref q])) mo = some (.dK kvs) ∧
              ∃ us, upd (upd H4 q (.tup [.int (szT t : Int), .ref r])) D (.lst (acc ++ [.ref q])) D = some (.lst us) ∧ DpAll K (upd (upd H4 q (.tup [.int (szT t : Int), .ref r])) D (.lst (acc ++ [.ref q]))) us ((B.take (i + 1)).map (keyA B))) := by
          intro H4 r ds s4 hr dd q nq
          have s5 := s4.trans (same_new (o := .tup [.int (szT t : Int), .ref r]) nq)
          have s6 := n2.trans s5
          refine ⟨us, s6 _ _ d2, by omega, (s2.trans s6).upd nD0, by rw [upd_ne nzD]; exact s6 _ _ z2, by rw [upd_ne nmD]; exact s6 _ _ m2, _, upd_same, ?_⟩
          have im : Imm (upd H4 q (.tup [.int (szT t : Int), .ref r])) (upd (upd H4 q (.tup [.int (szT t : Int), .ref r])) D (.lst (us ++ [.ref q]))) := Imm.lst (s6 _ _ d2)
          rw [take_snoc ht, List.map_append]
          refine (DpAll.imm ((Imm.of s6).trans im) _ _ (nls_keyA B _) du).app (.cons ?_ .nil)
          refine Dp.imm im _ _ (nl_keyA B t) ?_
          unfold keyA
          exact .tup (.inl (.inl upd_same)) (.cons (.int _) (.cons (.tup (.inl (.inl (same_new nq _ _ hr))) (DpAll.same (same_new nq) _ _ dd)) .nil))
        have hcn : szT t ∈ B.map szT := List.mem_map.mpr ⟨t, hmt, rfl⟩
        have hcv := hc.2 (szT t)
        rw [if_pos hcn] at hcv
        refine ⟨T1, _, rfl, .inl (.inl hT1), rfl, _, _, rfl, _, _, rfl, rfl, rfl, ?_⟩
        have hg : DGet H3 mo (V.int (szT t : Int)) (some (.int ((B.map szT).count (szT t) : Int))) := by
          rw [← hcv]
          exact DGet.k (k := Sum.inl (szT t : Int)) (n2 _ _ m2)
        refine ⟨_, rfl, _, rfl, _, rfl, mo, _, rfl, hg, _, _, rfl, rfl, _, rfl, ?_⟩
        cases eT : tieB B t with
        | true =>
          have e1 : decide ((1 : Int) < ((B.map szT).count (szT t) : Int)) = true := by
            have := of_decide_eq_true (show decide (1 < (B.map szT).count (szT t)) = true from eT)
            exact decide_eq_true (by omega)
          rw [e1]
          refine ⟨_, rfl, y1, t, rfl, Dp.same s3 _ _ dt, hpre t hmt, fun H4 r s4 nr hr => ?_⟩
          refine ⟨(by show 2 ≤ sizeLine; decide), fun q nq => fin H4 r _ s4 hr ?_ q nq⟩
          rw [eT]
          exact DpAll.strs _ _
        | false =>
          have e1 : decide ((1 : Int) < ((B.map szT).count (szT t) : Int)) = false := by
            have := of_decide_eq_false (show decide (1 < (B.map szT).count (szT t)) = false from eT)
            exact decide_eq_false (by omega)
          rw [e1]
          refine ⟨Nat.zero_le _, fun r nr => ⟨(by show 2 ≤ sizeLine; decide), fun q nq => fin _ r [] (same_new nr) upd_same ?_ q nq⟩⟩
          rw [eT]
          exact .nil
      · rw [List.take_length] at du
        have hul : us.length = B.length := by rw [du.len, List.length_map]
        refine ⟨_, rfl, D, us, rfl, .inl (.inl (.inl d2)), _, rfl, fun r nr => ?_⟩
        have n3 := same_new (o := .rng 0 ((us.length : Nat) : Int)) nr
        have hr0 : upd H2 r (.rng 0 ((us.length : Nat) : Int)) r = some (.rng 0 ((us.length : Nat) : Int)) := upd_same
        have hlr : (rgV 0 ((us.length : Nat) : Int)).length = B.length := by
          rw [rgV_length]
          omega
        refine ⟨hT.ext (s2.trans n3), r, rgV 0 ((us.length : Nat) : Int), B.map (keyA B), rfl, .inr ⟨0, _, hr0, RgOk.of_le (by omega) (by omega) (by omega) (by omega), rfl⟩, by rw [hlr, List.length_map], fun d hd e he => ?_, .inl (fun d hd => ?_), fun d hd => ?_, fun H3 c' eN T3 hco => ⟨fun i x d hx hd H4 s4 => ?_, fun q H4 s4 nq => ?_⟩⟩
        · obtain ⟨a, _, rfl⟩ := List.mem_map.mp hd
          obtain ⟨b, _, rfl⟩ := List.mem_map.mp he
          exact alike_keyA B a b
        · obtain ⟨a, _, rfl⟩ := List.mem_map.mp hd
          exact ⟨_, _, rfl⟩
        · obtain ⟨a, _, rfl⟩ := List.mem_map.mp hd
          exact Nat.le_trans (depth_keyA B a) (by decide)
        · have hi : i < B.length := by
            have := (List.getElem?_eq_some_iff.mp hx).1
            omega
          have ex : x = V.int (i : Int) := by
            have hir : i < ((us.length : Nat) : Int).toNat := by omega
            unfold rgV at hx
            rw [List.getElem?_map, Int.sub_zero, List.getElem?_range hir] at hx
            have := Option.some.inj hx
            exact this.symm.trans (congrArg V.int (Int.zero_add _))
          subst ex
          obtain ⟨y, hy⟩ : ∃ y, us[i]? = some y := ⟨_, List.getElem?_eq_getElem (by omega)⟩
          have d4 : H4 D = some (.lst us) := s4 _ _ (eN _ _ (n3 _ _ d2) (fun _ z => nomatch z))
          refine ⟨D, us, (i : Int), y, rfl, rfl, .inl (.inl d4), atI_nat hy, Same.refl _, ?_⟩
          exact Dp.same s4 _ _ (Dp.imm ((Imm.of n3).trans (Imm.extN eN)) _ _ (by obtain ⟨a, _, rfl⟩ := List.mem_map.mp (List.mem_of_getElem? hd); exact nl_keyA B a) (du.get hy hd))
        · have es : srt (rgV 0 ((us.length : Nat) : Int)) (B.map (keyA B)) = (ascL B).map fun i : Nat => V.int (i : Int) := by
            rw [hul]
            exact srt_rg g8.nd
          rw [es]
          have f0 : Fr Tt [] H H2 := Fr.same s2
          have f4 := ((f0.trans (Fr.same n3)).trans (Fr.mk (Kp.extN eN) (fun _ => T3))).trans (Fr.same s4)
          refine k _ q (f4.trans (Fr.same (same_new nq))) (fun o e => Classical.byContradiction fun hne => ?_) upd_same
          have z := f4.kp q o e (fun z => nomatch z) (fun ps z => hne ⟨ps, z⟩)
          rw [nq] at z
          cases z

end NB

namespace NB
open PySem PySem.Spec PyProof.Rows L2 LamX
/-! ### Merger.__init__ -/
theorem sc_Merger___init__ : FnScope ["self", "many"] ["self", "many"] (defScope s_Merger___init__) := ⟨rfl, rfl, rfl, by decide +kernel, rfl, by decide +kernel, by decide +kernel⟩
/-- a merger's attributes -/
def mf (ha ea : Addr) : List (Str × V) := putF "edges" (.ref ea) (putF "homes" (.ref ha) [])
theorem mf_homes (ha ea : Addr) : (mf ha ea).lookup ("homes" : Str) = some (.ref ha) := by
  unfold mf
  rw [lookup_putF, if_neg (by decide +kernel), lookup_putF, if_pos rfl]
theorem mf_edges (ha ea : Addr) : (mf ha ea).lookup ("edges" : Str) = some (.ref ea) := by
  unfold mf
  rw [lookup_putF, if_pos rfl]
theorem mf_no (ha ea : Addr) {x : Str} (h1 : ¬ x = "edges") (h2 : ¬ x = "homes") : (mf ha ea).lookup x = none := by
  unfold mf
  rw [lookup_putF, if_neg h1, lookup_putF, if_neg h2]
  rfl
/-- at p: a merger of these homes, with so many edges -/
structure MgAt (C : Addr) (p dx ha ea : Addr) (hs : List Nat) (m : Nat) (H : Hp) : Prop where
  ins : H p = some (.ins C dx (mf ha ea))
  homes : H ha = some (.lst (hs.map fun i : Nat => V.int (i : Int)))
  edges : ∃ es : List V, H ea = some (.lst es) ∧ es.length = m
  ne : ha ≠ ea
def sp_Merger___init__ (C : Addr) : Sp := fun vs H Q _ => ∃ p dx, ∃ n : Nat, vs = [.ref p, .int (n : Int)] ∧ n ≤ 1000000 ∧ H p = some (.ins C dx []) ∧
  ∀ H' ha ea, Sm [p] H H' → H ha = none → H ea = none → MgAt C p dx ha ea (List.range n) 0 H' → Q .non H'
theorem ok_Merger___init__ {P : Program} {w : World} {K : PySem.W.Frag} {mg : Str → Option Value} {base : Heap} (T : Tx K mg)  : FnOk P w K mg base CX0 1 T.a_Merger___init__ T.d_Merger___init__ ["self", "many"] (sp_Merger___init__ T.c_Merger) := by
  refine T.F_Merger___init__.ok sc_Merger___init__ (fun vs H Q E h => ?_) (fun cdv A outer s H vs Q E hr h => ?_)
  · obtain ⟨p, dx, n, rfl, _⟩ := h
    rfl
  · obtain ⟨p, dx, n, rfl, hn, hp, k⟩ := h
    refine ⟨_, (pss_cons (ps_fld (pv 0) (pe_listRg rfl (by rfl) T.z_list (prg_1 (by rfl) T.z_range (pv 1))) rfl) (pss_one (ps_fld (pv 0) (pe_lst pa_nil) rfl))), ?_⟩
    have hzl : 100000 < sizeLine := by decide
    refine ⟨_, rfl, _, rfl, RgOk.of_le (by decide) (by omega) (by decide) (by omega), fun ha nha => ?_⟩
    have npa : p ≠ ha := ne_of_none hp nha
    refine ⟨_, rfl, p, T.c_Merger, dx, [], rfl, (by rw [upd_ne npa]; exact hp), T.cl_Merger, T.n_Merger_homes, (by show 0 < 1000; decide), ?_⟩
    refine ⟨Nat.zero_le _, fun ea nea => ?_⟩
    have npe : p ≠ ea := ne_of_none upd_same nea
    have nae : ha ≠ ea := ne_of_none (Eq.trans (upd_ne npa.symm) upd_same) nea
    refine ⟨_, rfl, p, T.c_Merger, dx, _, rfl, (by rw [upd_ne npe]; exact upd_same), T.cl_Merger, T.n_Merger_edges, (by show 1 < 1000; decide), ?_⟩
    have nea0 : H ea = none := by
      rw [upd_ne npe.symm, upd_ne nae.symm] at nea
      exact nea
    refine k _ ha ea (fun b o e nb => ?_) nha nea0 ⟨upd_same, ?_, ⟨[], ?_, rfl⟩, nae⟩
    · have nbp : b ≠ p := fun z => nb (List.mem_singleton.mpr z)
      rw [upd_ne nbp, upd_ne (ne_of_none e nea0), upd_ne nbp, upd_ne (ne_of_none e nha)]
      exact e
    · rw [upd_ne npa.symm, upd_ne nae, upd_ne npa.symm, upd_same]
      unfold rgV
      rw [show ((n : Int) - 0).toNat = n by omega]
      congr 2
      refine List.map_congr_left fun i _ => ?_
      rw [Int.zero_add]
    · rw [upd_ne npe.symm, upd_same]

end NB

namespace NB
open PySem PySem.Spec PyProof.Rows L2 LamX
/-! ### Merger.home -/
theorem sc_Merger_home : FnScope ["self", "number"] ["self", "number"] (defScope s_Merger_home) := ⟨rfl, rfl, rfl, by decide +kernel, rfl, by decide +kernel, by decide +kernel⟩
/-- the homes stand at ha; all other places are kept -/
def sp_Merger_home (C : Addr) : Sp := fun vs H Q _ => ∃ p dx ha ea hs m n f d, ∃ i : Nat, vs = [.ref p, .int (i : Int)] ∧ MgAt C p dx ha ea hs m H ∧ Forest n hs f d ∧ i < n ∧ n ≤ 1000000 ∧
  ∀ H' hs', Sm [ha] H H' → Forest n hs' f d → MgAt C p dx ha ea hs' m H' → Q (.int (f i : Int)) H'
theorem ixN_natN {n j : Nat} (hj : j < n) : ixN n (j : Int) = some j := by
  unfold ixN
  rw [if_pos (by omega), if_pos (by omega)]
  simp
theorem hm_at {n : Nat} {hs : List Nat} {f d : Nat → Nat} (F : Forest n hs f d) {j : Nat} (hj : j < n) : (hs.map fun i : Nat => V.int (i : Int))[j]? = some (V.int (hm hs j : Int)) := by
  rw [List.getElem?_map, get_hm (by rw [F.len]; exact hj)]
  rfl
theorem MgAt.kp {C p dx ha ea : Addr} {hs : List Nat} {m : Nat} {H H' : Hp} (h : MgAt C p dx ha ea hs m H) (h1 : ∀ b o, H b = some o → H' b = some o) : MgAt C p dx ha ea hs m H' := by
  obtain ⟨a, b, ⟨es, c, e⟩, f⟩ := h
  exact ⟨h1 _ _ a, h1 _ _ b, ⟨es, h1 _ _ c, e⟩, f⟩
theorem MgAt.set {C p dx ha ea : Addr} {hs : List Nat} {m : Nat} {H : Hp} (h : MgAt C p dx ha ea hs m H) (j x : Nat) : MgAt C p dx ha ea (hs.set j x) m (upd H ha (.lst ((hs.map fun i : Nat => V.int (i : Int)).set j (.int (x : Int))))) := by
  obtain ⟨a, b, ⟨es, c, e⟩, f⟩ := h
  have n1 : p ≠ ha := fun z => by
    rw [z, b] at a
    cases a
  refine ⟨by rw [upd_ne n1]; exact a, ?_, ⟨es, by rw [upd_ne f.symm]; exact c, e⟩, f⟩
  rw [upd_same, List.map_set]
theorem ok_Merger_home {P : Program} {w : World} {K : PySem.W.Frag} {mg : Str → Option Value} {base : Heap} (T : Tx K mg)  : FnOk P w K mg base CX0 1 T.a_Merger_home T.d_Merger_home ["self", "number"] (sp_Merger_home T.c_Merger) := by
  refine T.F_Merger_home.ok sc_Merger_home (fun vs H Q E h => ?_) (fun cdv A outer s H vs Q E hr h => ?_)
  · obtain ⟨p, dx, ha, ea, hs, m, n, f, d, i, rfl, _⟩ := h
    rfl
  · obtain ⟨p, dx, ha, ea, hs, m, n, f, d, i, rfl, hm0, F, hi, hn, k⟩ := h
    refine ⟨_, (pss_cons (ps_while PassesOwn.never (pt_cmpR op_ne (pe_ix ix_list (pe_fld (pv 0) rfl) (pv 1) (fun _ _ => rfl)) (pv 1) (nomark _)) (pss_cons (ps_asg (pe_ix ix_list (pe_fld (pv 0) rfl) (pe_ix ix_list (pe_fld (pv 0) rfl) (pv 1) (fun _ _ => rfl)) (fun _ _ => rfl)) (pg_sub (pe_fld (pv 0) rfl) (pv 1) set_list)) (pss_one (ps_set (i := 1) sc_Merger_home.nd rfl (by first | exact Or.inl rfl | exact Or.inr rfl) (pe_ix ix_list (pe_fld (pv 0) rfl) (pv 1) (fun _ _ => rfl)))))) (pss_one (ps_ret (pv 1)))), ?_⟩
    refine ⟨fun q σ' H' => ∃ j hs', σ' = [some (.ref p), some (.int ((j : Nat) : Int))] ∧ Sm [ha] H H' ∧ Forest n hs' f d ∧ MgAt T.c_Merger p dx ha ea hs' m H' ∧ j < n ∧ f j = f i ∧ q = d j, ⟨_, i, hs, rfl, Sm.same (Same.refl H), F, hm0, hi, rfl, rfl⟩, ?_⟩
    rintro q σ' H1 ⟨j, hs1, rfl, sm1, F1, hm1, hj, ej, rfl⟩
    refine ⟨_, rfl, p, T.c_Merger, dx, _, _, rfl, hm1.ins, T.cl_Merger, T.n_Merger_homes, mf_homes _ _, _, rfl, ha, _, _, _, rfl, rfl, .inl (.inl hm1.homes), atI_nat (hm_at F1 hj), _, rfl, ?_⟩
    refine ⟨rfl, _, rfl, ?_⟩
    by_cases e : hm hs1 j = j
    · rw [e, decide_eq_true (Eq.refl (V.int (j : Int)))]
      refine ⟨_, rfl, ?_⟩
      have := F1.root j hj e
      rw [← ej, this] at k
      exact k H1 hs1 sm1 F1 hm1
    · rw [decide_eq_false (fun z => e (by have := V.int.inj z; omega))]
      refine ⟨fun σ' H' => ∃ m', m' < d j ∧ ∃ j hs', σ' = [some (.ref p), some (.int ((j : Nat) : Int))] ∧ Sm [ha] H H' ∧ Forest n hs' f d ∧ MgAt T.c_Merger p dx ha ea hs' m H' ∧ j < n ∧ f j = f i ∧ m' = d j, fun _ _ z => z, ?_⟩
      have hl := F1.low j hj
      refine ⟨_, rfl, p, T.c_Merger, dx, _, _, rfl, hm1.ins, T.cl_Merger, T.n_Merger_homes, mf_homes _ _, _, rfl, p, T.c_Merger, dx, _, _, rfl, hm1.ins, T.cl_Merger, T.n_Merger_homes, mf_homes _ _, _, rfl, ha, _, _, _, rfl, rfl, .inl (.inl hm1.homes), atI_nat (hm_at F1 hj),
        ha, _, _, _, rfl, rfl, .inl (.inl hm1.homes), atI_nat (hm_at F1 hl), ?_⟩
      refine ⟨_, rfl, p, T.c_Merger, dx, _, _, rfl, hm1.ins, T.cl_Merger, T.n_Merger_homes, mf_homes _ _, _, rfl, ?_⟩
      have hjl : j < (hs1.map fun i : Nat => V.int (i : Int)).length := by rw [List.length_map, F1.len]; exact hj
      refine ⟨ha, _, _, j, rfl, rfl, hm1.homes, ixN_natN hjl, ?_⟩
      have F2 := F1.halve hj
      have hm2 := hm1.set j (hm hs1 (hm hs1 j))
      have e2 : hm (hs1.set j (hm hs1 (hm hs1 j))) j = hm hs1 (hm hs1 j) := by rw [hm_set (by rw [F1.len]; exact hj), if_pos rfl]
      have hl2 := F1.low _ hl
      have hne : hm (hs1.set j (hm hs1 (hm hs1 j))) j ≠ j := fun z => by
        rw [e2] at z
        by_cases q : hm hs1 (hm hs1 j) = hm hs1 j
        · rw [q] at z; exact e z
        · have h1 := F1.step j hj e
          have h2 := F1.step _ hl q
          rw [z] at h2
          omega
      refine ⟨_, rfl, p, T.c_Merger, dx, _, _, rfl, hm2.ins, T.cl_Merger, T.n_Merger_homes, mf_homes _ _, _, rfl, ha, _, _, _, rfl, rfl, .inl (.inl hm2.homes), atI_nat (hm_at F2 hj), ?_⟩
      exact ⟨_, (F2.step j hj hne).2, _, _, rfl, sm1.trans (Sm.upd (List.mem_cons_self ..)), F2, hm2, by rw [e2]; exact hl2, (F2.step j hj hne).1.trans ej, rfl⟩

end NB

namespace NB
open PySem PySem.Spec PyProof.Rows L2 LamX
/-! ### Merger.unite -/
theorem sc_Merger_unite : FnScope ["self", "one", "other", "line", "home"] ["self", "one", "other", "line"] (defScope s_Merger_unite) := ⟨rfl, rfl, rfl, by decide +kernel, rfl, by decide +kernel, by decide +kernel⟩
def sp_Merger_unite (C : Addr) : Sp := fun vs H Q _ => ∃ p dx ha ea hs m n f d y, ∃ i j : Nat, vs = [.ref p, .int (i : Int), .int (j : Int), y] ∧ MgAt C p dx ha ea hs m H ∧ Forest n hs f d ∧ i < n ∧ j < n ∧ n ≤ 1000000 ∧ m ≤ 1000000 ∧
  ∀ H' hs' m' f' d', Sm [ha, ea] H H' → Forest n hs' f' d' → MgAt C p dx ha ea hs' m' H' → ((f i = f j ∧ m' = m ∧ f' = f) ∨ (f i ≠ f j ∧ m' = m + 1 ∧ f' = joinF f (f i) (f j))) → Q .non H'
theorem MgAt.more {C p dx ha ea : Addr} {hs : List Nat} {m : Nat} {H : Hp} (h : MgAt C p dx ha ea hs m H) {es : List V} (he : H ea = some (.lst es)) (v : V) : MgAt C p dx ha ea hs (m + 1) (upd H ea (.lst (es ++ [v]))) := by
  obtain ⟨a, b, ⟨es', c, e⟩, f⟩ := h
  rw [he] at c
  cases c
  have n1 : p ≠ ea := fun z => by
    rw [z, he] at a
    cases a
  exact ⟨by rw [upd_ne n1]; exact a, by rw [upd_ne f]; exact b, ⟨_, upd_same, by rw [List.length_append, e]; rfl⟩, f⟩
theorem ok_Merger_unite {P : Program} {w : World} {K : PySem.W.Frag} {mg : Str → Option Value} {base : Heap} (T : Tx K mg)  : FnOk P w K mg base CX0 2 T.a_Merger_unite T.d_Merger_unite ["self", "one", "other", "line"] (sp_Merger_unite T.c_Merger) := by
  refine T.F_Merger_unite.ok sc_Merger_unite (fun vs H Q E h => ?_) (fun cdv A outer s H vs Q E hr h => ?_)
  · obtain ⟨p, dx, ha, ea, hs, m, n, f, d, y, i, j, rfl, _⟩ := h
    rfl
  · obtain ⟨p, dx, ha, ea, hs, m, n, f, d, y, i, j, rfl, hm0, F, hi, hj, hn, hmm, k⟩ := h
    refine ⟨_, (pss_cons (ps_set (i := 4) sc_Merger_unite.nd rfl (by first | exact Or.inl rfl | exact Or.inr rfl) (pe_meth (pv 0) T.cl_Merger T.h_Merger_home (ok_Merger_home T) (hr.mono (by first | decide | omega)) T.b_Merger_home .nil pass0 (pa_cons (pv 2) pa_nil))) (pss_one (ps_if (pt_cmpR op_ne (pv 4) (pe_meth (pv 0) T.cl_Merger T.h_Merger_home (ok_Merger_home T) (hr.mono (by first | decide | omega)) T.b_Merger_home .nil pass0 (pa_cons (pv 1) pa_nil)) (nomark _)) (pss_cons (ps_asg (pe_meth (pv 0) T.cl_Merger T.h_Merger_home (ok_Merger_home T) (hr.mono (by first | decide | omega)) T.b_Merger_home .nil pass0 (pa_cons (pv 1) pa_nil)) (pg_sub (pe_fld (pv 0) rfl) (pv 4) set_list)) (pss_one (ps_expr (pe_bm PySem.F.plainAttrs_list PySem.F.slot_list_append PySem.F.type_list_append mt_append (pe_fld (pv 0) rfl) (pa_cons (pe_tup (pa_cons (pv 1) (pa_cons (pv 2) (pa_cons (pv 3) pa_nil)))) pa_nil))))) pss_nil))), ?_⟩
    have hzl : 1000000 < sizeLine := by decide
    have hno : (mf ha ea).lookup ("home" : Str) = none := mf_no _ _ (by decide +kernel) (by decide +kernel)
    refine ⟨_, rfl, p, dx, _, rfl, hm0.ins, hno, _, rfl, p, dx, ha, ea, hs, m, n, f, d, j, rfl, hm0, F, hj, hn, fun H1 hs1 sm1 F1 hm1 => ?_⟩
    refine ⟨_, rfl, _, rfl, p, dx, _, rfl, hm1.ins, hno, _, rfl, p, dx, ha, ea, hs1, m, n, f, d, i, rfl, hm1, F1, hi, hn, fun H2 hs2 sm2 F2 hm2 => ⟨rfl, _, rfl, ?_⟩⟩
    have up : ∀ {H H' : Hp}, Sm [ha] H H' → Sm [ha, ea] H H' := fun s b o e n => s b o e fun m => n (by rw [mem1 m]; exact List.mem_cons_self ..)
    by_cases e : f j = f i
    · rw [e, decide_eq_true (Eq.refl (V.int (f i : Int)))]
      exact k H2 hs2 m f d (up (sm1.trans sm2)) F2 hm2 (.inl ⟨e.symm, rfl, rfl⟩)
    · rw [decide_eq_false (fun z => e (by have := V.int.inj z; omega))]
      refine ⟨_, rfl, p, dx, _, rfl, hm2.ins, hno, _, rfl, p, dx, ha, ea, hs2, m, n, f, d, i, rfl, hm2, F2, hi, hn, fun H3 hs3 sm3 F3 hm3 => ?_⟩
      have hl := F3.lt hj
      have hjl : f j < (hs3.map fun i : Nat => V.int (i : Int)).length := by rw [List.length_map, F3.len]; exact hl
      refine ⟨_, rfl, p, T.c_Merger, dx, _, _, rfl, hm3.ins, T.cl_Merger, T.n_Merger_homes, mf_homes _ _, _, rfl, ?_⟩
      refine ⟨ha, _, _, f j, rfl, rfl, hm3.homes, ixN_natN hjl, ?_⟩
      have F4 := F3.join (F3.lt hi) hl (F3.idem hi) (F3.idem hj) (fun z => e z.symm)
      have hm4 := hm3.set (f j) (f i)
      have s4 : Sm [ha] H3 _ := Sm.upd (o := .lst ((hs3.map fun i : Nat => V.int (i : Int)).set (f j) (.int (f i : Int)))) (List.mem_cons_self ..)
      generalize upd H3 ha (.lst ((hs3.map fun i : Nat => V.int (i : Int)).set (f j) (.int (f i : Int)))) = H4 at hm4 s4 ⊢
      obtain ⟨es, he, hel⟩ := hm4.edges
      refine ⟨_, rfl, p, T.c_Merger, dx, _, _, rfl, hm4.ins, T.cl_Merger, T.n_Merger_edges, mf_edges _ _, .inl ⟨rfl, _, .inl (.inl he)⟩, _, rfl, _, rfl, _, rfl, (by show 3 ≤ sizeLine; omega), fun tq ntq => ?_⟩
      have s5 := same_new (o := .tup [V.int (i : Int), .int (j : Int), y]) ntq
      have hm5 := hm4.kp (H' := upd H4 tq (.tup [V.int (i : Int), .int (j : Int), y])) s5
      have he5 := s5 _ _ he
      refine ⟨ea, es, _, rfl, rfl, he5, by omega, ?_⟩
      have s6 : Sm [ea] (upd H4 tq (.tup [V.int (i : Int), .int (j : Int), y])) _ := Sm.upd (o := .lst (es ++ [.ref tq])) (List.mem_cons_self ..)
      exact k _ _ _ _ _ (((up (((sm1.trans sm2).trans sm3).trans s4)).trans (Sm.same s5)).trans fun b o e n => s6 b o e fun m => n (by rw [mem1 m]; exact List.mem_cons_of_mem _ (List.mem_cons_self ..))) F4 (hm5.more he5 _) (.inr ⟨fun z => e z.symm, rfl, rfl⟩)

end NB

namespace NB
open PySem PySem.Spec PyProof.Rows L2 LamX
/-! ### Merger.unite_likes -/
theorem sc_Merger_unite_likes : FnScope ["self", "shapes", "ahead", "many", "number", "sign", "parts", "part", "way"] ["self", "shapes"] (defScope s_Merger_unite_likes) := ⟨rfl, rfl, rfl, by decide +kernel, rfl, by decide +kernel, by decide +kernel⟩
/-- the shapes stand in a list at sh -/
structure LkAt (K : PySem.W.Frag) (H : Hp) (sh : Addr) (vsh : List V) (shs : List (Str × List Nat)) : Prop where
  at_ : H sh = some (.lst vsh)
  dat : DpAll K H vsh (shs.map shD)
  low : ∀ (i : Nat) (s : Str) (xs : List Nat), shs[i]? = some (s, xs) → (∀ x ∈ xs, x < shs.length) ∧ xs.length ≤ 100000
/-- all likes have the same root -/
def Liked (shs : List (Str × List Nat)) (f : Nat → Nat) : Prop := ∀ (i j : Nat) (s : Str) (xs ys : List Nat), shs[i]? = some (s, xs) → shs[j]? = some (s, ys) → xs.map f = ys.map f → f i = f j
def sp_Merger_unite_likes (K : PySem.W.Frag) (C : Addr) : Sp := fun vs H Q _ => ∃ p dx ha ea hs m n f d sh vsh shs ps, vs = [.ref p, .ref sh] ∧ LkAt K H sh vsh shs ∧ sh ≠ ha ∧ sh ≠ ea ∧ n = shs.length ∧ MgAt C p dx ha ea hs m H ∧ Forest n hs f d ∧ Sound shs ps f ∧ m + roots n f ≤ 100000 ∧ n ≤ 100000 ∧
  ∀ H' hs' m' f' d', Sm [ha, ea] H H' → Forest n hs' f' d' → MgAt C p dx ha ea hs' m' H' → Sound shs ps f' → (∀ i j, f i = f j → f' i = f' j) → m' + roots n f' = m + roots n f → m ≤ m' → (m' = m → Liked shs f') → Q (.bl (decide (m < m'))) H'
/-- what the dict of likes ahead knows -/
structure AhOk (shs : List (Str × List Nat)) (f : Nat → Nat) (kvs : List NE) : Prop where
  of : ∀ (s : Str) (rs : List Nat) (v : V), valN kvs (nkey s rs) = some v → ∃ (q : Nat) (xs : List Nat), v = .int (q : Int) ∧ shs[q]? = some (s, xs) ∧ xs.map f = rs.map f
theorem AhOk.le {shs : List (Str × List Nat)} {f f' : Nat → Nat} {kvs : List NE} (h : AhOk shs f kvs) (le : ∀ i j, f i = f j → f' i = f' j) : AhOk shs f' kvs := ⟨fun s rs v e => by
  obtain ⟨q, xs, h1, h2, h3⟩ := h.of s rs v e
  refine ⟨q, xs, h1, h2, map_same (by have := congrArg List.length h3; simpa using this) fun k x y hx hy => le _ _ (map_ext h3 hx hy)⟩⟩
theorem AhOk.put {shs : List (Str × List Nat)} {f : Nat → Nat} {kvs : List NE} (h : AhOk shs f kvs) {s : Str} {xs rs : List Nat} {k : Nat} {b : Addr} (hk : shs[k]? = some (s, xs)) (e : xs.map f = rs.map f) (hn : valN kvs (nkey s rs) = none) : AhOk shs f (putN kvs (nkey s rs) b (.int (k : Int))) := ⟨fun s' rs' v g => by
  rw [putN_new hn, valN_app hn] at g
  by_cases z : nkey s rs = nkey s' rs'
  · rw [if_pos z] at g
    cases g
    obtain ⟨rfl, rfl⟩ := nkey_inj z
    exact ⟨k, xs, rfl, hk, e⟩
  · rw [if_neg z] at g
    exact h.of s' rs' v g⟩
theorem nl_ints : ∀ xs : List Nat, nls (xs.map fun i : Nat => PyData.int (i : Int)) = true
  | [] => by rw [List.map_nil, nls]
  | x :: xs => by rw [List.map_cons, nls, nl, nl_ints xs]; rfl
theorem nl_shD (e : Str × List Nat) : nl (shD e) = true := by
  unfold shD
  rw [nl, nls, nls, nls, nl, nl, nl_ints]
  rfl
theorem MgAt.upd' {C p dx ha ea ao : Addr} {hs : List Nat} {m : Nat} {H : Hp} {o : HO} (h : MgAt C p dx ha ea hs m H) (n1 : p ≠ ao) (n2 : ha ≠ ao) (n3 : ea ≠ ao) : MgAt C p dx ha ea hs m (upd H ao o) := by
  obtain ⟨a, b, ⟨es, c, e⟩, f⟩ := h
  exact ⟨by rw [upd_ne n1]; exact a, by rw [upd_ne n2]; exact b, ⟨es, by rw [upd_ne n3]; exact c, e⟩, f⟩
theorem MgAt.nn {C p dx ha ea l : Addr} {hs : List Nat} {m : Nat} {H : Hp} (h : MgAt C p dx ha ea hs m H) (n : H l = none) : p ≠ l ∧ ha ≠ l ∧ ea ≠ l := by
  obtain ⟨a, b, ⟨es, c, e⟩, f⟩ := h
  exact ⟨ne_of_none a n, ne_of_none b n, ne_of_none c n⟩
theorem MgAt.ow {C p dx ha ea : Addr} {hs : List Nat} {m : Nat} {H : Hp} (h : MgAt C p dx ha ea hs m H) : Ow H [ha, ea] := fun b hb => by
  obtain ⟨a, c, ⟨es, d, e⟩, f⟩ := h
  rcases mem2 hb with q | q
  · rw [q]
    exact .inr ⟨_, c⟩
  · rw [q]
    exact .inr ⟨_, d⟩
theorem Sm.one {ha ea : Addr} {H H' : Hp} (s : Sm [ha] H H') : Sm [ha, ea] H H' := fun b o e n => s b o e fun m => n (by rw [mem1 m]; exact List.mem_cons_self ..)
theorem ok_Merger_unite_likes {P : Program} {w : World} {K : PySem.W.Frag} {mg : Str → Option Value} {base : Heap} (T : Tx K mg)  : FnOk P w K mg base CX0 3 T.a_Merger_unite_likes T.d_Merger_unite_likes ["self", "shapes"] (sp_Merger_unite_likes K T.c_Merger) := by
  refine T.F_Merger_unite_likes.ok sc_Merger_unite_likes (fun vs H Q E h => ?_) (fun cdv A outer s H vs Q E hr h => ?_)
  · obtain ⟨p, dx, ha, ea, hs, m, n, f, d, sh, vsh, shs, ps, rfl, _⟩ := h
    rfl
  · obtain ⟨p, dx, ha, ea, hs, m, n, f, d, sh, vsh, shs, ps, rfl, hsh, nsh, nse, hn, hm0, F, S, hmr, hn1, k⟩ := h
    have hu16 := hu16_of hr
    refine ⟨_, (pss_cons (ps_set (i := 2) sc_Merger_unite_likes.nd rfl (by first | exact Or.inl rfl | exact Or.inr rfl) pe_nnew) (pss_cons (ps_set (i := 3) sc_Merger_unite_likes.nd rfl (by first | exact Or.inl rfl | exact Or.inr rfl) (pe_callB call_len_seq (by rfl) T.z_len (by decide +kernel) (pa_cons (pe_fld (pv 0) rfl) pa_nil))) (pss_cons (ps_for PassesOwn.never rfl (pi_enum (by rfl) T.z_enumerate (pa_cons (pv 1) pa_nil)) (pg_tup rfl (pgs_cons (pg_name (i := 4) sc_Merger_unite_likes.nd rfl (by first | exact Or.inl rfl | exact Or.inr rfl)) (pgs_cons (pg_tup rfl (pgs_cons (pg_name (i := 5) sc_Merger_unite_likes.nd rfl (by first | exact Or.inl rfl | exact Or.inr rfl)) (pgs_cons (pg_name (i := 6) sc_Merger_unite_likes.nd rfl (by first | exact Or.inl rfl | exact Or.inr rfl)) pgs_nil))) pgs_nil))) (pss_cons (ps_set (i := 8) sc_Merger_unite_likes.nd rfl (by first | exact Or.inl rfl | exact Or.inr rfl) (pe_tup (pa_cons (pv 5) (pa_cons (pe_callTy call_tuple_of (by rfl) T.z_tuple (by decide +kernel) (pa_cons (pe_lc (own := [("part", 7)]) rfl sc_Merger_unite_likes.nd (pi_tup (pv 6)) (blkOk_by (own := [("part", 7)]) (N := ["self", "shapes", "ahead", "many", "number", "sign", "parts", "part", "way"]) (sc := defScope s_Merger_unite_likes) (by decide +kernel)) (fun _ _ _ _ _ => (pg_name (i := 7) sc_Merger_unite_likes.nd rfl (by first | exact Or.inl rfl | exact Or.inr rfl))) (fun _ _ _ _ _ => pts_nil) (fun _ _ _ _ _ => (pe_meth (pv 0) T.cl_Merger T.h_Merger_home (ok_Merger_home T) (hr.mono (by first | decide | omega)) T.b_Merger_home .nil pass0 (pa_cons (pv 7) pa_nil)))) pa_nil)) pa_nil)))) (pss_one (ps_expr (pe_meth (pv 0) T.cl_Merger T.h_Merger_unite (ok_Merger_unite T) (hr.mono (by first | decide | omega)) T.b_Merger_unite .nil pass0 (pa_cons (pe_nsetd hu16 (pv 2) (pv 8) (pv 4) ⟨rfl, rfl, rfl, rfl⟩) (pa_cons (pv 4) (pa_cons pe_non pa_nil)))))))) (pss_one (ps_ret (pe_cmpR op_gt (pe_callB call_len_seq (by rfl) T.z_len (by decide +kernel) (pa_cons (pe_fld (pv 0) rfl) pa_nil)) (pv 3) (nomark _))))))), ?_⟩
    have hzl : 100000 < sizeLine := by decide
    have hno1 : (mf ha ea).lookup ("home" : Str) = none := mf_no _ _ (by decide +kernel) (by decide +kernel)
    have hno2 : (mf ha ea).lookup ("unite" : Str) = none := mf_no _ _ (by decide +kernel) (by decide +kernel)
    have hvl : vsh.length = shs.length := by rw [hsh.dat.len, List.length_map]
    have ow0 := hm0.ow
    refine fun ao nao => ?_
    obtain ⟨n1, n2, n3⟩ := hm0.nn nao
    have n4 : sh ≠ ao := ne_of_none hsh.at_ nao
    have nSh : sh ∉ [ha, ea] := fun z => by
      rcases mem2 z with q | q
      · exact nsh q
      · exact nse q
    have nAo : ao ∉ [ha, ea] := fun z => by
      rcases mem2 z with q | q
      · exact n2 q.symm
      · exact n3 q.symm
    have smA : Sm [ha, ea] H (upd H ao (DN P w ao [])) := (Sm.same (Same.refl H)).updN nao
    have hmA := hm0.upd' (o := DN P w ao []) n1 n2 n3
    have ndA : NDct P w K (upd H ao (DN P w ao [])) ao [] := ⟨upd_same, fun e m => nomatch m⟩
    have hshA : upd H ao (DN P w ao []) sh = some (.lst vsh) := by rw [upd_ne n4]; exact hsh.at_
    dsimp only [gName]
    obtain ⟨esA, heA, helA⟩ := hmA.edges
    refine ⟨_, rfl, p, T.c_Merger, dx, _, _, rfl, hmA.ins, T.cl_Merger, T.n_Merger_edges, mf_edges _ _, ea, esA, rfl, .inl (.inl (.inl heA)), ?_⟩
    rw [helA]
    dsimp only [gName]
    refine ⟨_, rfl, sh, vsh, rfl, .inl (.inl hshA), ?_⟩
    refine for_it (walk_enum (K := K) (a := sh) (xs := vsh)) (fun i σ H' => ∃ w4 w5 w6 w8 hs' m' f' d' kvs, σ = [some (.ref p), some (.ref sh), some (.ref ao), some (.int (m : Int)), w4, w5, w6, none, w8] ∧ Sm [ha, ea] H H' ∧ Forest n hs' f' d' ∧ MgAt T.c_Merger p dx ha ea hs' m' H' ∧ Sound shs ps f' ∧ (∀ i j, f i = f j → f' i = f' j) ∧ m' + roots n f' = m + roots n f ∧ m ≤ m' ∧ NDct P w K H' ao kvs ∧ kvs.length ≤ i ∧ AhOk shs f' kvs ∧
        (m' = m → f' = f ∧ ∀ j, j < i → ∀ s xs, shs[j]? = some (s, xs) → ∃ q : Nat, valN kvs (nkey s (xs.map f)) = some (.int (q : Int)) ∧ f q = f j))
      ⟨_, _, _, _, hs, m, f, d, [], rfl, smA, F, hmA, S, fun _ _ h => h, rfl, Nat.le_refl _, ndA, Nat.le_refl _, ⟨fun s rs v e => nomatch e⟩, fun _ => ⟨rfl, fun j hj => absurd hj (Nat.not_lt_zero _)⟩⟩
      (fun i σ H' _ ⟨_, _, _, _, _, _, _, _, _, _, s, _⟩ => .inl (.inl (s _ _ hsh.at_ nSh))) (fun i x σ H' H2 hi h y => ?_) (fun σ H' h => ?_)
    · obtain ⟨w4, w5, w6, w8, hs', m', f', d', kvs, rfl, sm1, F1, hm1, S1, le1, rt1, mm1, nd1, kl1, ah1, st1⟩ := h
      obtain ⟨T1, x1, y1, rfl, nT, rfl, e4, e5⟩ := y
      cases e4
      have hil : i < shs.length := by omega
      obtain ⟨⟨s, xs⟩, hsi⟩ : ∃ e, shs[i]? = some e := ⟨_, List.getElem?_eq_getElem hil⟩
      obtain ⟨low, xl⟩ := hsh.low i s xs hsi
      have i1 := sm1.imm ow0
      have s2 := same_new (o := .tup [.int (i : Nat), y1]) nT
      obtain ⟨b, pt, rfl, hsb, hpt⟩ := shp_open (Dp.same s2 _ _ (Dp.imm i1 _ _ (nl_shD _) (hsh.dat.get e5 (show (shs.map shD)[i]? = some (shD (s, xs)) by rw [List.getElem?_map, hsi]; rfl))))
      have hT1 : upd H' T1 (.tup [.int (i : Nat), .ref b]) T1 = some (.tup [.int (i : Nat), .ref b]) := upd_same
      have sm2 := sm1.trans (Sm.same s2)
      have hm2 := hm1.kp (H' := upd H' T1 (.tup [.int (i : Nat), .ref b])) s2
      have nd2 := nd1.kv (Kv.same (S := []) s2)
      generalize upd H' T1 (.tup [.int (i : Nat), .ref b]) = H2 at hT1 sm2 hm2 nd2 hsb hpt ⊢
      clear s2 nT hm1 nd1 sm1 i1
      refine ⟨T1, _, rfl, .inl (.inl hT1), rfl, _, _, rfl, _, _, rfl, b, _, rfl, hsb, rfl, _, _, rfl, _, _, rfl, rfl, rfl, ?_⟩
      show tSeq _ _ _ [some (.ref p), some (.ref sh), some (.ref ao), some (.int (m : Int)), some (.int (i : Int)), some (.str s), some (.ref pt), none, w8] _
      refine seq_asg ?_
      refine ⟨_, rfl, _, rfl, pt, rfl, ⟨_, hpt⟩, fun D nD => ?_⟩
      have ow2 := hm2.ow
      obtain ⟨d1, d2, d3⟩ := hm2.nn nD
      refine lc_tup (K := K) (a := pt) (xs := xs.map fun j : Nat => V.int (j : Int)) (fun j G => ∃ hs2, Sm [ha, ea] H2 G ∧ Forest n hs2 f' d' ∧ MgAt T.c_Merger p dx ha ea hs2 m' G ∧ G D = some (.lst ((xs.take j).map fun x => V.int (f' x : Int))))
        ⟨hs', Sm.same (same_new nD), F1, hm2.upd' d1 d2 d3, upd_same⟩ (fun j G _ ⟨_, q, _⟩ => (q.imm ow2).sq hpt) (fun j y G hy q => ?_) (fun G q => ?_)
      · obtain ⟨hs2, qs, qF, qm, qD⟩ := q
        have hj : j < xs.length := by
          have := (List.getElem?_eq_some_iff.mp hy).1
          rw [List.length_map] at this
          exact this
        obtain ⟨x, hx⟩ : ∃ x, xs[j]? = some x := ⟨_, List.getElem?_eq_getElem hj⟩
        rw [List.getElem?_map, hx] at hy
        cases hy
        have hxn : x < n := by
          rw [hn]
          exact low x (List.mem_of_getElem? hx)
        refine ⟨rfl, _, rfl, p, dx, _, rfl, qm.ins, hno1, _, rfl, p, dx, ha, ea, hs2, m', n, f', d', x, rfl, qm, qF, hxn, by omega, fun G3 hs3 sm3 F3 hm3 => ?_⟩
        have D3 := sm3 _ _ qD (fun z => d2 (mem1 z).symm)
        refine ⟨_, D3, ?_, hs3, (qs.trans (Sm.one sm3)).updN nD, F3, hm3.upd' d1 d2 d3, ?_⟩
        · rw [List.length_map, List.length_take]
          omega
        · rw [upd_same, take_snoc hx, List.map_append]
          rfl
      · rw [List.length_map, List.take_length] at q
        obtain ⟨hs2, qs, qF, qm, qD⟩ := q
        refine ⟨D, _, rfl, .inl ⟨.inl (.inl qD), fun u nu => ⟨(by show 2 ≤ sizeLine; decide), fun wy nwy => ?_⟩⟩⟩
        have z1 := same_new (o := .tup (xs.map fun x => V.int (f' x : Int))) nu
        have z2 := same_new (o := .tup [.str s, .ref u]) nwy
        have hu2 := z2 _ _ (upd_same (H := G) (a := u) (o := .tup (xs.map fun x => V.int (f' x : Int))))
        have hw2 := upd_same (H := upd G u (.tup (xs.map fun x => V.int (f' x : Int)))) (a := wy) (o := .tup [.str s, .ref u])
        have qm3 := (qm.kp (H' := upd G u (.tup (xs.map fun x => V.int (f' x : Int)))) z1).kp (H' := upd (upd G u (.tup (xs.map fun x => V.int (f' x : Int)))) wy (.tup [.str s, .ref u])) z2
        have qs3 := qs.trans (Sm.same (z1.trans z2))
        generalize upd (upd G u (.tup (xs.map fun x => V.int (f' x : Int)))) wy (.tup [.str s, .ref u]) = G3 at hu2 hw2 qm3 qs3 ⊢
        clear z1 z2 qm qs qD nu nwy
        have nd3 : NDct P w K G3 ao kvs := nd2.kv (qs3.kv ow2 (S := []) fun b _ z => nomatch z)
        have eu : (xs.map fun x => V.int (f' x : Int)) = ((xs.map f').map fun i : Nat => V.int (i : Int)) := by rw [List.map_map]; rfl
        rw [eu] at hu2
        have nk3 : NKey K G3 wy (nkey s (xs.map f')) := nkey_at (.inl (.inl hw2)) (.inl (.inl hu2))
        have sm3 := sm2.trans qs3
        have kln : kvs.length < sizeLine := by omega
        have hin : i < n := by omega
        have ex : (xs.map f').map f' = xs.map f' := by
          rw [List.map_map]
          refine List.map_congr_left fun x hx => ?_
          exact F1.idem (by rw [hn]; exact low x hx)
        dsimp only [gName]
        show tDrop _ _ [some (.ref p), some (.ref sh), some (.ref ao), some (.int (m : Int)), some (.int (i : Int)), some (.str s), some (.ref pt), none, some (.ref wy)] _
        refine ⟨_, rfl, p, dx, _, rfl, qm3.ins, hno2, _, rfl, ao, kvs, rfl, nd3, _, rfl, _, rfl, wy, kvs, nkey s (xs.map f'), rfl, nd3, nk3, kln, fun v hv => ?_, fun hv => ?_⟩
        · obtain ⟨q, ys, rfl, hq, eq⟩ := ah1.of s _ v hv
          rw [ex] at eq
          have hqn : q < n := by
            rw [hn]
            exact (List.getElem?_eq_some_iff.mp hq).1
          have lowq := (hsh.low q s ys hq).1
          have hlen : ys.length = xs.length := by
            have := congrArg List.length eq
            rw [List.length_map, List.length_map] at this
            exact this
          have cg : Cg shs ps q i := (Cg.is shs ps).like q i s ys xs hq hsi hlen fun k x y hx hy => S1.of x y (lowq x (List.mem_of_getElem? hx)) (low y (List.mem_of_getElem? hy)) (map_ext eq hx hy)
          refine ⟨_, rfl, p, dx, ha, ea, hs2, m', n, f', d', .non, q, i, rfl, qm3, qF, hqn, hin, by omega, by omega, fun H4 hs4 m4 f4 d4 sm4 F4 hm4 cas => ?_⟩
          have nd4 : NDct P w K H4 ao kvs := nd3.kv (sm4.kv qm3.ow (S := []) fun b _ z => nomatch z)
          rcases cas with ⟨ef, rfl, rfl⟩ | ⟨nf, rfl, rfl⟩
          · refine ⟨_, _, _, _, hs4, m4, f4, d4, kvs, rfl, sm3.trans sm4, F4, hm4, S1, le1, rt1, mm1, nd4, by omega, ah1, fun em => ?_⟩
            obtain ⟨rfl, st⟩ := st1 em
            refine ⟨rfl, fun j hj s' xs' hj' => ?_⟩
            by_cases hji : j < i
            · exact st j hji s' xs' hj'
            · have ej : j = i := by omega
              subst ej
              rw [hsi] at hj'
              cases hj'
              exact ⟨q, hv, ef⟩
          · have rj := F1.roots_join (F1.lt hqn) (F1.lt hin) (F1.idem hqn) (F1.idem hin) nf
            refine ⟨_, _, _, _, hs4, _, _, d4, kvs, rfl, sm3.trans sm4, F4, hm4, F1.sound_join hn S1 hqn hin cg, fun a b h => join_le (le1 a b h), by omega, by omega, nd4, by omega, ah1.le fun a b h => join_le h, fun em => absurd em (by omega)⟩
        · have hao3 := nd3.at_
          obtain ⟨p1, p2, p3⟩ := (⟨n1, n2, n3⟩ : p ≠ ao ∧ ha ≠ ao ∧ ea ≠ ao)
          have qm4 := qm3.upd' (o := DN P w ao (putN kvs (nkey s (xs.map f')) wy (.int (i : Int)))) n1 n2 n3
          have im4 : Imm G3 (upd G3 ao (DN P w ao (putN kvs (nkey s (xs.map f')) wy (.int (i : Int))))) := Imm.upd ⟨fun _ => by rw [hao3]; exact DN_tup, fun _ _ => by rw [hao3]; exact DN_frz⟩
          have nd4 : NDct P w K (upd G3 ao (DN P w ao (putN kvs (nkey s (xs.map f')) wy (.int (i : Int))))) ao (putN kvs (nkey s (xs.map f')) wy (.int (i : Int))) := by
            refine ⟨upd_same, fun e he => ?_⟩
            rw [putN_new hv] at he
            rcases List.mem_append.mp he with z | z
            · exact (nd3.keys e z).imm im4
            · rw [List.mem_singleton.mp z]
              exact nk3.imm im4
          have sm4 : Sm [ha, ea] H (upd G3 ao (DN P w ao (putN kvs (nkey s (xs.map f')) wy (.int (i : Int))))) := sm3.updN nao
          have kl4 : (putN kvs (nkey s (xs.map f')) wy (.int (i : Int))).length ≤ i + 1 := by
            rw [putN_new hv, List.length_append]
            show _ + 1 ≤ _
            omega
          refine ⟨_, rfl, p, dx, ha, ea, hs2, m', n, f', d', .non, i, i, rfl, qm4, qF, hin, hin, by omega, by omega, fun H4 hs4 m4 f4 d4 sm5 F4 hm4 cas => ?_⟩
          have nd5 := nd4.kv (sm5.kv qm4.ow (S := []) fun b _ z => nomatch z)
          rcases cas with ⟨_, rfl, rfl⟩ | ⟨nf, _⟩
          · refine ⟨_, _, _, _, hs4, m4, f4, d4, _, rfl, sm4.trans sm5, F4, hm4, S1, le1, rt1, mm1, nd5, kl4, ah1.put hsi ex.symm hv, fun em => ?_⟩
            obtain ⟨rfl, st⟩ := st1 em
            refine ⟨rfl, fun j hj s' xs' hj' => ?_⟩
            by_cases hji : j < i
            · obtain ⟨q, h1, h2⟩ := st j hji s' xs' hj'
              refine ⟨q, ?_, h2⟩
              rw [putN_new hv, valN_app hv]
              by_cases z : nkey s (xs.map f4) = nkey s' (xs'.map f4)
              · rw [← z, hv] at h1
                cases h1
              · rw [if_neg z]
                exact h1
            · have ej : j = i := by omega
              subst ej
              rw [hsi] at hj'
              cases hj'
              exact ⟨j, by rw [putN_new hv, valN_app hv, if_pos rfl], rfl⟩
          · exact absurd rfl nf
    · obtain ⟨w4, w5, w6, w8, hs', m', f', d', kvs, rfl, sm1, F1, hm1, S1, le1, rt1, mm1, nd1, kl1, ah1, st1⟩ := h
      obtain ⟨es1, he1, hel1⟩ := hm1.edges
      refine ⟨_, rfl, p, T.c_Merger, dx, _, _, rfl, hm1.ins, T.cl_Merger, T.n_Merger_edges, mf_edges _ _, ea, es1, rfl, .inl (.inl (.inl he1)), _, rfl, _, _, rfl, rfl, ?_⟩
      rw [hel1]
      have e : decide ((m : Int) < (m' : Int)) = decide (m < m') := decide_eq_decide.mpr ⟨fun h => by omega, fun h => by omega⟩
      show Q (V.bl (decide ((m : Int) < (m' : Int)))) H'
      rw [e]
      refine k H' hs' m' f' d' sm1 F1 hm1 S1 le1 rt1 mm1 fun em => ?_
      obtain ⟨rfl, st⟩ := st1 em
      intro i j s xs ys h1 h2 e2
      have a1 := (List.getElem?_eq_some_iff.mp h1).1
      have a2 := (List.getElem?_eq_some_iff.mp h2).1
      obtain ⟨q1, b1, c1⟩ := st i (by omega) s xs h1
      obtain ⟨q2, b2, c2⟩ := st j (by omega) s ys h2
      rw [e2, b2] at b1
      have := V.int.inj (Option.some.inj b1)
      have e3 : q1 = q2 := by omega
      rw [← c1, e3, c2]

end NB

namespace NB
open PySem PySem.Spec PyProof.Rows L2 LamX
/-! ### united -/
theorem sc_united : FnScope ["shapes", "pairs", "merger", "line", "one", "other"] ["shapes", "pairs"] (defScope s_united) := ⟨rfl, rfl, rfl, by decide +kernel, rfl, by decide +kernel, by decide +kernel⟩
theorem nls_shDs : ∀ ps : List (Str × List Nat), nls (ps.map shD) = true
  | [] => rfl
  | p :: ps => by rw [List.map_cons, nls, nl_shD, nls_shDs ps]; rfl
theorem prAt {K : PySem.W.Frag} {H : Hp} {v : V} {p : Nat × Nat} (h : Dp K H v (prD p)) : ∃ a, v = .ref a ∧ SqT K H a [.int (p.1 : Int), .int (p.2 : Int)] := by
  obtain ⟨a, ys, rfl, hs, ha⟩ := Dp.tupD h
  obtain ⟨x, zs, rfl, g1, ha⟩ := DpAll.consD ha
  obtain ⟨y, zs, rfl, g2, ha⟩ := DpAll.consD ha
  rw [DpAll.nilD ha, Dp.intD g1, Dp.intD g2] at hs
  exact ⟨a, rfl, hs⟩
def sp_united (K : PySem.W.Frag) (C : Addr) : Sp := fun vs H Q _ => ∃ sh vsh shs pa vps ps, vs = [.ref sh, .ref pa] ∧ LkAt K H sh vsh shs ∧ H pa = some (.lst vps) ∧ DpAll K H vps (ps.map prD) ∧ (∀ p ∈ ps, p.1 < shs.length ∧ p.2 < shs.length) ∧ shs.length ≤ 50000 ∧ ps.length ≤ 50000 ∧
  ∀ H' p dx ha ea hs m f d, Same H H' → H p = none → H ha = none → H ea = none → MgAt C p dx ha ea hs m H' → Forest shs.length hs f d → (∀ i j, i < shs.length → j < shs.length → (Cg shs ps i j ↔ f i = f j)) → Q (.ref p) H'
theorem ok_united {P : Program} {w : World} {K : PySem.W.Frag} {mg : Str → Option Value} {base : Heap} (T : Tx K mg)  : FnOk P w K mg base CX0 4 T.a_united T.d_united ["shapes", "pairs"] (sp_united K T.c_Merger) := by
  refine T.F_united.ok sc_united (fun vs H Q E h => ?_) (fun cdv A outer s H vs Q E hr h => ?_)
  · obtain ⟨sh, vsh, shs, pa, vps, ps, rfl, _⟩ := h
    rfl
  · obtain ⟨sh, vsh, shs, pa, vps, ps, rfl, hsh, hpa, hps, hlow, hn1, hn2, k⟩ := h
    refine ⟨_, (pss_cons (ps_set (i := 2) sc_united.nd rfl (by first | exact Or.inl rfl | exact Or.inr rfl) (pe_make T.mk_Merger (ok_Merger___init__ T) (hr.mono (by first | decide | omega)) rfl T.m_Merger T.b_Merger___init__ .nil pass0 (pa_cons (pe_callB call_len_seq (by rfl) T.z_len (by decide +kernel) (pa_cons (pv 0) pa_nil)) pa_nil))) (pss_cons (ps_for PassesOwn.never rfl (pi_enum (by rfl) T.z_enumerate (pa_cons (pv 1) pa_nil)) (pg_tup rfl (pgs_cons (pg_name (i := 3) sc_united.nd rfl (by first | exact Or.inl rfl | exact Or.inr rfl)) (pgs_cons (pg_tup rfl (pgs_cons (pg_name (i := 4) sc_united.nd rfl (by first | exact Or.inl rfl | exact Or.inr rfl)) (pgs_cons (pg_name (i := 5) sc_united.nd rfl (by first | exact Or.inl rfl | exact Or.inr rfl)) pgs_nil))) pgs_nil))) (pss_one (ps_expr (pe_meth (pv 2) T.cl_Merger T.h_Merger_unite (ok_Merger_unite T) (hr.mono (by first | decide | omega)) T.b_Merger_unite .nil pass0 (pa_cons (pv 4) (pa_cons (pv 5) (pa_cons (pv 3) pa_nil))))))) (pss_cons (ps_while PassesOwn.never (pt_val (pe_meth (pv 2) T.cl_Merger T.h_Merger_unite_likes (ok_Merger_unite_likes T) (hr.mono (by first | decide | omega)) T.b_Merger_unite_likes .nil pass0 (pa_cons (pv 0) pa_nil))) (pss_one ps_pass)) (pss_one (ps_ret (pv 2)))))), ?_⟩
    have hvl : vsh.length = shs.length := by rw [hsh.dat.len, List.length_map]
    have hpl : vps.length = ps.length := by rw [hps.len, List.length_map]
    have hno1 : ∀ ha ea, (mf ha ea).lookup ("unite" : Str) = none := fun ha ea => mf_no _ _ (by decide +kernel) (by decide +kernel)
    have hno2 : ∀ ha ea, (mf ha ea).lookup ("unite_likes" : Str) = none := fun ha ea => mf_no _ _ (by decide +kernel) (by decide +kernel)
    refine ⟨_, rfl, sh, vsh, rfl, .inl (.inl (.inl hsh.at_)), ?_⟩
    rw [hvl]
    intro p dx np ndp nex
    have s2 : Same H (upd (upd H dx (.own p)) p (.ins T.c_Merger dx [])) := fun b o e => by
      rw [upd_ne (ne_of_none e np), upd_ne (ne_of_none e ndp)]
      exact e
    refine ⟨p, dx, shs.length, rfl, by omega, upd_same, fun H1 ha ea sm nha nea hm1 => ⟨rfl, ?_⟩⟩
    have s1 : Same H H1 := fun b o e => sm b o (s2 b o e) (fun m => by rw [mem1 m, np] at e; cases e)
    have nha0 := s2.free nha
    have nea0 := s2.free nea
    have fin : ∀ {G : Hp}, Sm [ha, ea] H1 G → Same H G := fun sG b o e => sG b o (s1 b o e) fun z => by
      rcases mem2 z with q | q
      · rw [q, nha0] at e
        cases e
      · rw [q, nea0] at e
        cases e
    have hsh1 := s1 _ _ hsh.at_
    have hpa1 := s1 _ _ hpa
    have nsh : sh ≠ ha ∧ sh ≠ ea := ⟨(fun z => by have q := hsh.at_; rw [z, nha0] at q; cases q), (fun z => by have q := hsh.at_; rw [z, nea0] at q; cases q)⟩
    have npa : pa ∉ [ha, ea] := fun z => by
      rcases mem2 z with q | q
      · rw [q, nha0] at hpa
        cases hpa
      · rw [q, nea0] at hpa
        cases hpa
    have ow1 := hm1.ow
    have i01 := Imm.of s1
    have hps1 := DpAll.imm i01 _ _ (nls_prDs ps) hps
    have LK : ∀ {G : Hp}, Sm [ha, ea] H1 G → LkAt K G sh vsh shs := fun sG => ⟨fin sG _ _ hsh.at_, DpAll.imm (Imm.of (fin sG)) _ _ (nls_shDs shs) hsh.dat, hsh.low⟩
    have S0 : Sound shs ps id := ⟨fun i j _ _ e => by rw [show i = j from e]; exact (Cg.is shs ps).refl j⟩
    have r0 := roots_le shs.length id
    have F0 := forest0 shs.length
    clear s2 sm nha nea
    dsimp only [gName]
    show tSeq _ _ _ [some (.ref sh), some (.ref pa), some (.ref p), none, none, none] _
    refine ⟨_, rfl, pa, vps, rfl, .inl (.inl hpa1), ?_⟩
    refine for_it (walk_enum (K := K) (a := pa) (xs := vps)) (fun i σ H' => ∃ w3 w4 w5 hs' m' f' d', σ = [some (.ref sh), some (.ref pa), some (.ref p), w3, w4, w5] ∧ Sm [ha, ea] H1 H' ∧ Forest shs.length hs' f' d' ∧ MgAt T.c_Merger p dx ha ea hs' m' H' ∧ Sound shs ps f' ∧ m' + roots shs.length f' ≤ shs.length ∧ ∀ (j : Nat) q, j < i → ps[j]? = some q → f' q.1 = f' q.2)
      ⟨_, _, _, _, 0, id, _, rfl, Sm.same (Same.refl _), F0, hm1, S0, by omega, fun j q h => absurd h (Nat.not_lt_zero _)⟩ (fun i σ H' _ ⟨_, _, _, _, _, _, _, _, s, _⟩ => .inl (.inl (s _ _ hpa1 npa))) (fun i x σ H' H2 hi h y => ?_) (fun σ H' h => ?_)
    · obtain ⟨w3, w4, w5, hs', m', f', d', rfl, sm2, F2, hm2, S2, rt2, pr2⟩ := h
      obtain ⟨T1, x1, y1, rfl, nT, rfl, e4, e5⟩ := y
      cases e4
      obtain ⟨q, hq⟩ : ∃ q, ps[i]? = some q := ⟨_, List.getElem?_eq_getElem (by omega)⟩
      have hqm := List.mem_of_getElem? hq
      obtain ⟨l1, l2⟩ := hlow q hqm
      have s3 := same_new (o := .tup [.int (i : Nat), y1]) nT
      obtain ⟨b, rfl, hb⟩ := prAt (Dp.same s3 _ _ (Dp.imm (sm2.imm ow1) _ _ (nl_prD q) (hps1.get e5 (show (ps.map prD)[i]? = some (prD q) by rw [List.getElem?_map, hq]; rfl))))
      have hm3 := hm2.kp (H' := upd H' T1 (.tup [.int (i : Nat), .ref b])) s3
      refine ⟨T1, _, rfl, .inl (.inl upd_same), rfl, _, _, rfl, _, _, rfl, b, _, rfl, hb, rfl, _, _, rfl, _, _, rfl, rfl, rfl, ?_⟩
      show tDrop _ _ [some (.ref sh), some (.ref pa), some (.ref p), some (.int (i : Int)), some (.int (q.1 : Int)), some (.int (q.2 : Int))] _
      refine ⟨_, rfl, p, dx, _, rfl, hm3.ins, hno1 _ _, _, rfl, _, rfl, _, rfl, p, dx, ha, ea, hs', m', shs.length, f', d', _, q.1, q.2, rfl, hm3, F2, l1, l2, by omega, by omega, fun H4 hs4 m4 f4 d4 sm4 F4 hm4 cas => ?_⟩
      have sm5 := (sm2.trans (Sm.same s3)).trans sm4
      rcases cas with ⟨ef, rfl, rfl⟩ | ⟨nf, rfl, rfl⟩
      · refine ⟨_, _, _, hs4, m4, f4, d4, rfl, sm5, F4, hm4, S2, rt2, fun j q' hj hq' => ?_⟩
        by_cases hji : j < i
        · exact pr2 j q' hji hq'
        · have ej : j = i := by omega
          subst ej
          rw [hq] at hq'
          cases hq'
          exact ef
      · have rj := F2.roots_join (F2.lt l1) (F2.lt l2) (F2.idem l1) (F2.idem l2) nf
        have cg : Cg shs ps q.1 q.2 := (Cg.is shs ps).pair q hqm
        refine ⟨_, _, _, hs4, _, _, d4, rfl, sm5, F4, hm4, F2.sound_join rfl S2 l1 l2 cg, by omega, fun j q' hj hq' => ?_⟩
        by_cases hji : j < i
        · exact join_le (pr2 j q' hji hq')
        · have ej : j = i := by omega
          subst ej
          rw [hq] at hq'
          cases hq'
          unfold joinF
          rw [if_neg nf, if_pos rfl]
    · obtain ⟨w3, w4, w5, hs', m', f', d', rfl, sm2, F2, hm2, S2, rt2, pr2⟩ := h
      rw [hpl] at pr2
      have pr3 : ∀ q ∈ ps, f' q.1 = f' q.2 := fun q hq => by
        obtain ⟨j, hj⟩ := List.mem_iff_getElem?.mp hq
        exact pr2 j q (List.getElem?_eq_some_iff.mp hj).1 hj
      clear pr2
      refine ⟨fun z σ' G => ∃ hs3 m3 f3 d3, σ' = [some (.ref sh), some (.ref pa), some (.ref p), w3, w4, w5] ∧ Sm [ha, ea] H1 G ∧ Forest shs.length hs3 f3 d3 ∧ MgAt T.c_Merger p dx ha ea hs3 m3 G ∧ Sound shs ps f3 ∧ m3 + roots shs.length f3 ≤ shs.length ∧ (∀ q ∈ ps, f3 q.1 = f3 q.2) ∧ z = roots shs.length f3,
        ⟨_, hs', m', f', d', rfl, sm2, F2, hm2, S2, rt2, pr3, rfl⟩, ?_⟩
      rintro z σ' G ⟨hs3, m3, f3, d3, rfl, sm3, F3, hm3, S3, rt3, pr4, rfl⟩
      refine ⟨_, rfl, p, dx, _, rfl, hm3.ins, hno2 _ _, _, rfl, p, dx, ha, ea, hs3, m3, shs.length, f3, d3, sh, vsh, shs, ps, rfl, LK sm3, nsh.1, nsh.2, rfl, hm3, F3, S3, by omega, by omega, fun H4 hs4 m4 f4 d4 sm4 F4 hm4 S4 le4 rt4 mm4 lk4 => ?_⟩
      refine ⟨_, rfl, ?_⟩
      by_cases hlt : m3 < m4
      · rw [decide_eq_true hlt]
        refine ⟨fun σ' G => ∃ z, z < roots shs.length f3 ∧ ∃ hs3 m3 f3 d3, σ' = [some (.ref sh), some (.ref pa), some (.ref p), w3, w4, w5] ∧ Sm [ha, ea] H1 G ∧ Forest shs.length hs3 f3 d3 ∧ MgAt T.c_Merger p dx ha ea hs3 m3 G ∧ Sound shs ps f3 ∧ m3 + roots shs.length f3 ≤ shs.length ∧ (∀ q ∈ ps, f3 q.1 = f3 q.2) ∧ z = roots shs.length f3, fun _ _ z => z, ?_⟩
        exact ⟨_, by omega, hs4, m4, f4, d4, rfl, sm3.trans sm4, F4, hm4, S4, by omega, fun q hq => le4 _ _ (pr4 q hq), rfl⟩
      · rw [decide_eq_false hlt]
        have lk := lk4 (by omega)
        refine ⟨_, rfl, k _ p dx ha ea hs4 m4 f4 d4 (fin (sm3.trans sm4)) np nha0 nea0 hm4 F4 fun i j hi hj => ?_⟩
        exact cg_iff S4 (fun q hq => le4 _ _ (pr4 q hq)) lk hi hj

end NB

namespace NB
open PySem PySem.Spec PyProof.Rows L2 LamX
/-- a hall's attributes -/
def hlf (ca ta wa : Addr) : List (Str × V) := putF "ways" (.ref wa) (putF "table" (.ref ta) (putF "classes" (.ref ca) []))
theorem hlf_classes (ca ta wa : Addr) : (hlf ca ta wa).lookup ("classes" : Str) = some (.ref ca) := by
  unfold hlf
  rw [lookup_putF, if_neg (by decide +kernel), lookup_putF, if_neg (by decide +kernel), lookup_putF, if_pos rfl]
theorem hlf_table (ca ta wa : Addr) : (hlf ca ta wa).lookup ("table" : Str) = some (.ref ta) := by
  unfold hlf
  rw [lookup_putF, if_neg (by decide +kernel), lookup_putF, if_pos rfl]
theorem hlf_ways (ca ta wa : Addr) : (hlf ca ta wa).lookup ("ways" : Str) = some (.ref wa) := by
  unfold hlf
  rw [lookup_putF, if_pos rfl]
/-- the roots in the order of their first terms; the class of a number -/
noncomputable def hF (B : List Tm) (f : Nat → Nat) : List Nat := frs ((ascL B).map f)
noncomputable def hC (B : List Tm) (f : Nat → Nat) (i : Nat) : Nat := posN (hF B f) (f i)
noncomputable def hRows (B : List Tm) (f : Nat → Nat) : List (List Tm) := (hF B f).map fun x => ((ascL B).filter fun i => decide (f i = x)).map fun i => B.getD i tm0
noncomputable def hWays (k : Nat) (kvs : List NE) : List (List NE) := (List.range k).map fun q => (srtN kvs).filter fun e => decide (wq e = q)
/-- what a hall's dict and tuples tell of lines -/
structure HallOk (ls : List Ln) (shs : List (Str × List Nat)) (ps : List (Nat × Nat)) (f : Nat → Nat) (kvs : List NE) : Prop where
  sh : ShOk (toldB ls) shs
  pr : PairsOf (toldB ls) ls ps
  cg : ∀ i j, i < shs.length → j < shs.length → (Cg shs ps i j ↔ f i = f j)
  tb : TbOk shs (hC (toldB ls) f) shs.length kvs
def HallAt (P : Program) (w : World) (K : PySem.W.Frag) (C : Addr) (h : Addr) (ls : List Ln) (H : Hp) : Prop := ∃ dx ca ta wa shs ps f kvs, H h = some (.ins C dx (hlf ca ta wa)) ∧ HallOk ls shs ps f kvs ∧
  Dp K H (.ref ca) (.tuple ((hRows (toldB ls) f).map fun r => .tuple (Tm.datas r))) ∧ NDct P w K H ta kvs ∧ Dp K H (.ref wa) (.tuple ((hWays (hF (toldB ls) f).length kvs).map fun r => .tuple (r.map fun e => e.1.data)))
theorem map_set' {α β : Type} {l : List α} {q : Nat} {x : α} {g g' : α → β} (nd : l.Nodup) (h : l[q]? = some x) (e : ∀ y ∈ l, y ≠ x → g' y = g y) : (l.map g).set q (g' x) = l.map g' := by
  refine List.ext_getElem? fun j => ?_
  rw [List.getElem?_set, List.getElem?_map, List.getElem?_map, List.length_map]
  have hq := (List.getElem?_eq_some_iff.mp h).1
  by_cases z : q = j
  · subst z
    rw [if_pos rfl, if_pos hq, h]
    rfl
  · rw [if_neg z]
    cases hj : l[j]? with
    | none => rfl
    | some y =>
      have ne : y ≠ x := fun w => by
        rw [w] at hj
        exact z ((List.getElem?_inj hq nd).mp (h.trans hj.symm))
      show some (g y) = some (g' y)
      rw [e y (List.mem_of_getElem? hj) ne]
/-- the rows of the first t numbers -/
def rwL (A : List Nat) (f : Nat → Nat) (g : Nat → V) (t : Nat) : List (List V) := (frs ((A.take t).map f)).map fun x => ((A.take t).filter fun i => decide (f i = x)).map g
theorem frs_step {A : List Nat} {f : Nat → Nat} {t i : Nat} (h : A[t]? = some i) : frs ((A.take (t + 1)).map f) = addF (frs ((A.take t).map f)) (f i) := by
  rw [take_snoc h, List.map_append]
  exact frs_snoc _ _
theorem rwL_new {A : List Nat} {f : Nat → Nat} {g : Nat → V} {t i : Nat} (h : A[t]? = some i) (n : f i ∉ frs ((A.take t).map f)) : rwL A f g (t + 1) = rwL A f g t ++ [[g i]] := by
  unfold rwL
  rw [frs_step h]
  unfold addF
  rw [if_neg n, List.map_append]
  congr 1
  · refine List.map_congr_left fun x hx => ?_
    have ne : f i ≠ x := fun z => n (by rw [z]; exact hx)
    rw [filter_takeS h, decide_eq_false ne, List.map_append]
    simp
  · show [((A.take (t + 1)).filter fun j => decide (f j = f i)).map g] = [[g i]]
    rw [filter_takeS h, decide_eq_true rfl]
    have : (A.take t).filter (fun j => decide (f j = f i)) = [] := by
      rw [List.filter_eq_nil_iff]
      intro j hj z
      exact n (mem_frs.mpr (List.mem_map.mpr ⟨j, hj, of_decide_eq_true z⟩))
    rw [this]
    rfl
theorem rwL_old {A : List Nat} {f : Nat → Nat} {g : Nat → V} {t i : Nat} (h : A[t]? = some i) (m : f i ∈ frs ((A.take t).map f)) : ∃ us, (rwL A f g t)[posN (frs ((A.take t).map f)) (f i)]? = some us ∧ rwL A f g (t + 1) = (rwL A f g t).set (posN (frs ((A.take t).map f)) (f i)) (us ++ [g i]) := by
  have hp := posN_get m
  refine ⟨((A.take t).filter fun j => decide (f j = f i)).map g, ?_, ?_⟩
  · unfold rwL
    rw [List.getElem?_map, hp]
    rfl
  · unfold rwL
    rw [frs_step h]
    unfold addF
    rw [if_pos m]
    have e := map_set' (g := fun x => ((A.take t).filter fun j => decide (f j = x)).map g) (g' := fun x => ((A.take (t + 1)).filter fun j => decide (f j = x)).map g) (nodup_frs _) hp fun y hy ne => by
      show ((A.take (t + 1)).filter fun j => decide (f j = y)).map g = _
      rw [filter_takeS h, decide_eq_false (fun z => ne z.symm)]
      simp
    rw [← e]
    congr 1
    show ((A.take (t + 1)).filter fun j => decide (f j = f i)).map g = _
    rw [filter_takeS h, decide_eq_true rfl, List.map_append]
    rfl
theorem Sm.kp {O : List Addr} {H G : Hp} (e : Sm O H G) : Kp O H G := fun b o h n _ => e b o h n
theorem sm_tabs {O : List Addr} {H G : Hp} {T : List (Addr × Str)} (e : Sm O H G) (no : ∀ b ∈ O, (∀ ps, H b ≠ some (.tbl ps)) ∧ ∀ q, H b ≠ some (CodeO b q)) (t : Tabs T H) : Tabs T G := fun x hx => by
  obtain ⟨ps, a, b, c⟩ := t x hx
  refine ⟨ps, e _ _ a (fun m => (no _ m).1 ps a), b, fun pos cv hc => ?_⟩
  obtain ⟨d, e1, e2⟩ := c pos cv hc
  exact ⟨d, e1, e _ _ e2 fun m => (no _ m).2 _ e2⟩
theorem codeO_dK {c : Addr} {q : Str} {kvs : List (Key × V)} : some (HO.dK kvs) ≠ some (CodeO c q) := fun z => by
  unfold CodeO at z
  cases z
theorem codeO_ins {c C dx : Addr} {q : Str} {fs : List (Str × V)} : some (HO.ins C dx fs) ≠ some (CodeO c q) := fun z => by
  unfold CodeO at z
  cases z
theorem MgAt.fr {C p dx ha ea : Addr} {hs : List Nat} {m : Nat} {H H' : Hp} {Tt : List (Addr × Str)} (h : MgAt C p dx ha ea hs m H) (f : Fr Tt [] H H') : MgAt C p dx ha ea hs m H' := by
  obtain ⟨a, b, ⟨es, c, e⟩, g⟩ := h
  exact ⟨f.kp _ _ a (fun z => nomatch z) (fun _ z => nomatch z), f.kp _ _ b (fun z => nomatch z) (fun _ z => nomatch z), ⟨es, f.kp _ _ c (fun z => nomatch z) (fun _ z => nomatch z), e⟩, g⟩
theorem mem3 {a b c x : Addr} (h : x ∈ [a, b, c]) : x = a ∨ x = b ∨ x = c := by
  simpa using h
theorem rwL_len {A : List Nat} {f : Nat → Nat} {g : Nat → V} {t q : Nat} {us : List V} (h : (rwL A f g t)[q]? = some us) : us.length ≤ A.length := by
  unfold rwL at h
  rw [List.getElem?_map] at h
  obtain ⟨x, _, rfl⟩ := Option.map_eq_some_iff.mp h
  rw [List.length_map]
  refine Nat.le_trans (List.length_filter_le ..) ?_
  rw [List.length_take]
  exact Nat.min_le_right _ _
theorem dp_pick {K : PySem.W.Frag} {H : Hp} {vte : List V} {B : List Tm} (d : DpAll K H vte (Tm.datas B)) : ∀ L : List Nat, (∀ i ∈ L, i < B.length) → DpAll K H (L.map fun i => vte.getD i .non) (Tm.datas (L.map fun i => B.getD i tm0))
  | [], _ => by rw [List.map_nil, List.map_nil, Tm.datas]; exact .nil
  | i :: L, h => by
    have hi := h i (List.mem_cons_self ..)
    have hl : vte.length = B.length := by rw [d.len, Tm.datas_len]
    rw [List.map_cons, List.map_cons, Tm.datas]
    refine .cons ?_ (dp_pick d L fun j hj => h j (List.mem_cons_of_mem _ hj))
    have e1 : vte[i]? = some (vte.getD i .non) := getD_lt (by omega) _
    have e2 : (Tm.datas B)[i]? = some (Tm.data (B.getD i tm0)) := by
      rw [Tm.datas_map, List.getElem?_map, getD_lt hi tm0]
      rfl
    exact d.get e1 e2
theorem asc_all {B : List Tm} {i : Nat} (h : i < B.length) : i ∈ ascL B := (List.mergeSort_perm (List.range B.length) _).mem_iff.mpr (List.mem_range.mpr h)
theorem hF_mem {B : List Tm} {f : Nat → Nat} {i : Nat} (h : i < B.length) : f i ∈ hF B f := mem_frs.mpr (List.mem_map.mpr ⟨i, asc_all h, rfl⟩)
theorem hF_len (B : List Tm) (f : Nat → Nat) : (hF B f).length ≤ B.length := by
  have := len_frs ((ascL B).map f)
  rw [List.length_map, asc_len] at this
  exact this
theorem nls_tups : ∀ rs : List (List Tm), nls (rs.map fun r => PyData.tuple (Tm.datas r)) = true
  | [] => rfl
  | r :: rs => by rw [List.map_cons, nls, nl, Tm.nl_datas, nls_tups rs]; rfl
theorem Sm.mono {O O' : List Addr} {H G : Hp} (e : Sm O H G) (s : ∀ x ∈ O, x ∈ O') : Sm O' H G := fun b o h n => e b o h fun m => n (s b m)
/-- the number's place by a dict of places -/
theorem num_get {H : Hp} {nu : Addr} {kvs : List (Key × V)} {F : List Nat} (h : H nu = some (.dK kvs)) (n : NumOk kvs F) {x : Nat} (m : x ∈ F) : DGet H nu (.int (x : Int)) (some (.int (posN F x : Int))) := by
  have q := DGet.k (k := Sum.inl (x : Int)) h
  rw [n x, if_pos m] at q
  exact q
theorem NDct.put {P : Program} {w : World} {K : PySem.W.Frag} {G : Hp} {a b : Addr} {kvs : List NE} {k : NestedKey} (nd : NDct P w K G a kvs) (nk : NKey K G b k) (v : V) : NDct P w K (upd G a (DN P w a (putN kvs k b v))) a (putN kvs k b v) := by
  refine ⟨upd_same, fun e he => ?_⟩
  have im : Imm G (upd G a (DN P w a (putN kvs k b v))) := Imm.upd ⟨fun _ => by rw [nd.at_]; exact DN_tup, fun _ _ => by rw [nd.at_]; exact DN_frz⟩
  unfold putN at he
  split at he
  · obtain ⟨x, hx, rfl⟩ := List.mem_map.mp he
    unfold repN
    split
    · exact (nd.keys x hx).imm im
    · exact (nd.keys x hx).imm im
  · rcases List.mem_append.mp he with z | z
    · exact (nd.keys e z).imm im
    · rw [List.mem_singleton.mp z]
      exact nk.imm im
/-- the rows of ways that the first t of the sorted ones make -/
noncomputable def rwW (k : Nat) (es : List NE) (t : Nat) : List (List V) := (List.range k).map fun q => ((es.take t).filter fun e => decide (wq e = q)).map fun e => V.ref e.2.1
theorem rwW_zero (k : Nat) (es : List NE) : rwW k es 0 = List.replicate k [] := by
  unfold rwW
  rw [List.take_zero]
  refine List.ext_getElem? fun j => ?_
  rw [List.getElem?_map, List.getElem?_replicate]
  by_cases h : j < k
  · rw [List.getElem?_range h, if_pos h]
    rfl
  · rw [List.getElem?_eq_none (by rw [List.length_range]; omega), if_neg h]
    rfl
theorem rwW_step {k : Nat} {es : List NE} {t : Nat} {e : NE} (h : es[t]? = some e) (hq : wq e < k) : ∃ us, (rwW k es t)[wq e]? = some us ∧ us.length ≤ t ∧ rwW k es (t + 1) = (rwW k es t).set (wq e) (us ++ [V.ref e.2.1]) := by
  have hp : (List.range k)[wq e]? = some (wq e) := List.getElem?_range hq
  refine ⟨((es.take t).filter fun x => decide (wq x = wq e)).map fun e => V.ref e.2.1, ?_, ?_, ?_⟩
  · unfold rwW
    rw [List.getElem?_map, hp]
    rfl
  · rw [List.length_map]
    refine Nat.le_trans (List.length_filter_le ..) ?_
    rw [List.length_take]
    exact Nat.min_le_left _ _
  · unfold rwW
    have z := map_set' (g := fun q => ((es.take t).filter fun x => decide (wq x = q)).map fun e => V.ref e.2.1) (g' := fun q => ((es.take (t + 1)).filter fun x => decide (wq x = q)).map fun e => V.ref e.2.1) List.nodup_range hp fun y hy ne => by
      show ((es.take (t + 1)).filter fun x => decide (wq x = y)).map _ = _
      rw [filter_takeS h, decide_eq_false (fun z => ne z.symm)]
      simp
    rw [← z]
    congr 1
    show ((es.take (t + 1)).filter fun x => decide (wq x = wq e)).map _ = _
    rw [filter_takeS h, decide_eq_true rfl, List.map_append]
    rfl
theorem nls_keys : ∀ es : List NE, nls (es.map fun e => e.1.data) = true
  | [] => rfl
  | e :: es => by rw [List.map_cons, nls, nl_nested, nls_keys es]; rfl
theorem nls_waysD : ∀ rs : List (List NE), nls (rs.map fun r => PyData.tuple (r.map fun e => e.1.data)) = true
  | [] => rfl
  | r :: rs => by rw [List.map_cons, nls, nl, nls_keys, nls_waysD rs]; rfl
theorem dp_keys {K : PySem.W.Frag} {H : Hp} : ∀ es : List NE, (∀ e ∈ es, NKey K H e.2.1 e.1) → DpAll K H (es.map fun e => V.ref e.2.1) (es.map fun e => e.1.data)
  | [], _ => .nil
  | e :: es, h => .cons (h e (List.mem_cons_self ..)).1 (dp_keys es fun x hx => h x (List.mem_cons_of_mem _ hx))

end NB

namespace NB
open PySem PySem.Spec PyProof.Rows L2 LamX
/-! ### Hall.__init__ -/
theorem sc_Hall___init__ : FnScope ["self", "lore", "bank", "pairs", "merger", "numbers", "members", "told", "home", "row", "sign", "parts", "part", "way", "_", "rows"] ["self", "lore"] (defScope s_Hall___init__) := ⟨rfl, rfl, rfl, by decide +kernel, rfl, by decide +kernel, by decide +kernel⟩
def sp_Hall___init__ (P : Program) (w : World) (K : PySem.W.Frag) (C CL : Addr) (Tt : List (Addr × Str)) : Sp := fun vs H Q _ => ∃ h dx p sg ls, vs = [.ref h, .ref p] ∧ H h = some (.ins C dx []) ∧ LoreAt K CL H p sg ls ∧ cntL ls ≤ 50000 ∧ ls.length ≤ 50000 ∧ (∀ t ∈ toldB ls, (Tm.pre t).length ≤ 100000) ∧ Tabs Tt H ∧
  ∀ H', Fr Tt [h] H H' → HallAt P w K C h ls H' → Q .non H'
theorem ok_Hall___init__ {P : Program} {w : World} {K : PySem.W.Frag} {mg : Str → Option Value} {base : Heap} (T : Tx K mg) (Tt : List (Addr × Str)) (GT : FnOk P w K mg base CX0 4 T.a_Bank_take T.d_Bank_take ["self", "term"] (sp_Bank_take P w K T.c_Bank Tt)) (GAsc : FnOk P w K mg base CX0 5 T.a_ascending T.d_ascending ["bank"] (sp_ascending P w K T.c_Bank Tt)) : FnOk P w K mg base CX0 6 T.a_Hall___init__ T.d_Hall___init__ ["self", "lore"] (sp_Hall___init__ P w K T.c_Hall T.c_Lore Tt) := by
  refine T.F_Hall___init__.ok sc_Hall___init__ (fun vs H Q E h => ?_) (fun cdv A outer s H vs Q E hr h => ?_)
  · obtain ⟨h, dx, p, sg, ls, rfl, _⟩ := h
    rfl
  · obtain ⟨h, dx, p, sg, ls, rfl, hh, ⟨dxl, sa, lv, hlo, hsg, hl⟩, hcn, hll, hpre, hT, k⟩ := h
    have hu16 := hu16_of hr
    have hu := hu_of hr
    have hzl : 100000 < sizeLine := by decide
    refine ⟨_, (pss_cons (ps_set (i := 2) sc_Hall___init__.nd rfl (by first | exact Or.inl rfl | exact Or.inr rfl) (pe_make0 T.mk_Bank (ok_Bank___init__ T) (hr.mono (by first | decide | omega)) rfl T.m_Bank T.b_Bank___init__ .nil pass0)) (pss_cons (ps_set (i := 3) sc_Hall___init__.nd rfl (by first | exact Or.inl rfl | exact Or.inr rfl) (pe_meth (pv 2) T.cl_Bank T.h_Bank_take_lines (ok_Bank_take_lines (P := P) (w := w) T Tt GT) (hr.mono (by first | decide | omega)) T.b_Bank_take_lines .nil pass0 (pa_cons (pe_fld (pv 1) rfl) pa_nil))) (pss_cons (ps_set (i := 4) sc_Hall___init__.nd rfl (by first | exact Or.inl rfl | exact Or.inr rfl) (pe_call (ok_united T) (hr.mono (by first | decide | omega)) rfl T.m_united T.F_united.kp T.b_united .nil pass0 (pa_cons (pe_fld (pv 2) rfl) (pa_cons (pv 3) pa_nil)))) (pss_cons (ps_set (i := 5) sc_Hall___init__.nd rfl (by first | exact Or.inl rfl | exact Or.inr rfl) pe_dnewK) (pss_cons (ps_set (i := 6) sc_Hall___init__.nd rfl (by first | exact Or.inl rfl | exact Or.inr rfl) (pe_lst pa_nil)) (pss_cons (ps_for PassesOwn.never rfl (pi_list (pe_call GAsc (hr.mono (by first | decide | omega)) rfl T.m_ascending T.F_ascending.kp T.b_ascending .nil pass0 (pa_cons (pv 2) pa_nil))) (pg_name (i := 7) sc_Hall___init__.nd rfl (by first | exact Or.inl rfl | exact Or.inr rfl)) (pss_cons (ps_set (i := 8) sc_Hall___init__.nd rfl (by first | exact Or.inl rfl | exact Or.inr rfl) (pe_meth (pv 4) T.cl_Merger T.h_Merger_home (ok_Merger_home T) (hr.mono (by first | decide | omega)) T.b_Merger_home .nil pass0 (pa_cons (pv 7) pa_nil))) (pss_cons (ps_if (pt_cmp (pc_dnotin hu (pv 8) (pv 5)) (by rfl)) (pss_cons (ps_dput hu (pv 5) (pv 8) (pe_callB call_len_seq (by rfl) T.z_len (by decide +kernel) (pa_cons (pv 6) pa_nil)) rfl) (pss_one (ps_expr (pe_bm PySem.F.plainAttrs_list PySem.F.slot_list_append PySem.F.type_list_append mt_append (pv 6) (pa_cons (pe_lst pa_nil) pa_nil))))) pss_nil) (pss_one (ps_expr (pe_bm PySem.F.plainAttrs_list PySem.F.slot_list_append PySem.F.type_list_append mt_append (pe_ix ix_list (pv 6) (pe_dget hu (pv 5) (pv 8) (fun _ _ => rfl)) (fun _ _ => rfl)) (pa_cons (pe_ix ix_list (pe_fld (pv 2) rfl) (pv 7) (fun _ _ => rfl)) pa_nil))))))) (pss_cons (ps_fld (pv 0) (pe_callTy call_tuple_of (by rfl) T.z_tuple (by decide +kernel) (pa_cons (pe_lc (own := [("row", 9)]) rfl sc_Hall___init__.nd (pi_list (pv 6)) (blkOk_by (own := [("row", 9)]) (N := ["self", "lore", "bank", "pairs", "merger", "numbers", "members", "told", "home", "row", "sign", "parts", "part", "way", "_", "rows"]) (sc := defScope s_Hall___init__) (by decide +kernel)) (fun _ _ _ _ _ => (pg_name (i := 9) sc_Hall___init__.nd rfl (by first | exact Or.inl rfl | exact Or.inr rfl))) (fun _ _ _ _ _ => pts_nil) (fun _ _ _ _ _ => (pe_callTy (show CallR _ (.type "tuple") (NB.rTupleOf K) from NB.call_tuple_ofR) (by rfl) T.z_tuple (by decide +kernel) (pa_cons (pv 9) pa_nil)))) pa_nil)) rfl) (pss_cons (ps_fld (pv 0) pe_nnew rfl) (pss_cons (ps_for PassesOwn.never rfl (pi_enum (by rfl) T.z_enumerate (pa_cons (pe_fld (pv 2) rfl) pa_nil)) (pg_tup rfl (pgs_cons (pg_name (i := 7) sc_Hall___init__.nd rfl (by first | exact Or.inl rfl | exact Or.inr rfl)) (pgs_cons (pg_tup rfl (pgs_cons (pg_name (i := 10) sc_Hall___init__.nd rfl (by first | exact Or.inl rfl | exact Or.inr rfl)) (pgs_cons (pg_name (i := 11) sc_Hall___init__.nd rfl (by first | exact Or.inl rfl | exact Or.inr rfl)) pgs_nil))) pgs_nil))) (pss_cons (ps_set (i := 13) sc_Hall___init__.nd rfl (by first | exact Or.inl rfl | exact Or.inr rfl) (pe_tup (pa_cons (pv 10) (pa_cons (pe_callTy call_tuple_of (by rfl) T.z_tuple (by decide +kernel) (pa_cons (pe_lc (own := [("part", 12)]) rfl sc_Hall___init__.nd (pi_tup (pv 11)) (blkOk_by (own := [("part", 12)]) (N := ["self", "lore", "bank", "pairs", "merger", "numbers", "members", "told", "home", "row", "sign", "parts", "part", "way", "_", "rows"]) (sc := defScope s_Hall___init__) (by decide +kernel)) (fun _ _ _ _ _ => (pg_name (i := 12) sc_Hall___init__.nd rfl (by first | exact Or.inl rfl | exact Or.inr rfl))) (fun _ _ _ _ _ => pts_nil) (fun _ _ _ _ _ => (pe_dget hu (pv 5) (pe_meth (pv 4) T.cl_Merger T.h_Merger_home (ok_Merger_home T) (hr.mono (by first | decide | omega)) T.b_Merger_home .nil pass0 (pa_cons (pv 12) pa_nil)) (fun _ _ => rfl)))) pa_nil)) pa_nil)))) (pss_one (ps_nput hu16 (pe_fld (pv 0) rfl) (pv 13) (pe_dget hu (pv 5) (pe_meth (pv 4) T.cl_Merger T.h_Merger_home (ok_Merger_home T) (hr.mono (by first | decide | omega)) T.b_Merger_home .nil pass0 (pa_cons (pv 7) pa_nil)) (fun _ _ => rfl)) rfl)))) (pss_cons (ps_setLc (i := 15) (own := [("_", 14)]) rfl sc_Hall___init__.nd rfl rfl (sw_true rfl rfl rfl (by decide +kernel)) (pi_list (pv 6)) (blkOk_by (own := [("_", 14)]) (N := ["self", "lore", "bank", "pairs", "merger", "numbers", "members", "told", "home", "row", "sign", "parts", "part", "way", "_", "rows"]) (sc := defScope s_Hall___init__) (by decide +kernel)) (fun _ _ _ _ _ => (pg_name (i := 14) sc_Hall___init__.nd rfl (by first | exact Or.inl rfl | exact Or.inr rfl))) (fun _ _ _ _ _ => pts_nil) (fun _ _ _ _ _ => (pe_lst pa_nil))) (pss_cons (ps_for PassesOwn.never rfl (pi_list (pe_callB (call_sortN rfl hr.units) (by rfl) T.z_sorted (by decide +kernel) (pa_cons (pe_fld (pv 0) rfl) pa_nil))) (pg_name (i := 13) sc_Hall___init__.nd rfl (by first | exact Or.inl rfl | exact Or.inr rfl)) (pss_one (ps_expr (pe_bm PySem.F.plainAttrs_list PySem.F.slot_list_append PySem.F.type_list_append mt_append (pe_ix ix_list (pv 15) (pe_nget hu16 (pe_fld (pv 0) rfl) (pv 13) (fun _ _ => rfl)) (fun _ _ => rfl)) (pa_cons (pv 13) pa_nil))))) (pss_one (ps_fld (pv 0) (pe_callTy call_tuple_of (by rfl) T.z_tuple (by decide +kernel) (pa_cons (pe_lc (own := [("row", 9)]) rfl sc_Hall___init__.nd (pi_list (pv 15)) (blkOk_by (own := [("row", 9)]) (N := ["self", "lore", "bank", "pairs", "merger", "numbers", "members", "told", "home", "row", "sign", "parts", "part", "way", "_", "rows"]) (sc := defScope s_Hall___init__) (by decide +kernel)) (fun _ _ _ _ _ => (pg_name (i := 9) sc_Hall___init__.nd rfl (by first | exact Or.inl rfl | exact Or.inr rfl))) (fun _ _ _ _ _ => pts_nil) (fun _ _ _ _ _ => (pe_callTy (show CallR _ (.type "tuple") (NB.rTupleOf K) from NB.call_tuple_ofR) (by rfl) T.z_tuple (by decide +kernel) (pa_cons (pv 9) pa_nil)))) pa_nil)) rfl))))))))))))), ?_⟩
    have hBl : (toldB ls).length ≤ 50000 := by
      have := addLs_len ls []
      rw [List.length_nil] at this
      unfold toldB
      omega
    intro b bx nb nbx nex
    have s0 : Same H (upd (upd H bx (.own b)) b (.ins T.c_Bank bx [])) := fun x o e => by
      rw [upd_ne (ne_of_none e nb), upd_ne (ne_of_none e nbx)]
      exact e
    refine ⟨b, bx, rfl, upd_same, fun H1 ta sh te sm nta nsh nte hb => ⟨rfl, ?_⟩⟩
    have n0 : ∀ x, upd (upd H bx (.own b)) b (.ins T.c_Bank bx []) x = none → H x = none := fun x z => s0.free z
    have s1 : Same H H1 := fun x o e => sm x o (s0 x o e) (fun z => by rw [mem1 z, nb] at e; cases e)
    have nta0 := n0 _ nta
    have nsh0 := n0 _ nsh
    have nte0 := n0 _ nte
    clear s0 sm nta nsh nte n0
    dsimp only [gName]
    show tSeq _ _ _ [some (.ref h), some (.ref p), some (.ref b), none, none, none, none, none, none, none, none, none, none, none, none, none] _
    refine seq_asg ?_
    have hno : (bf ta sh te).lookup ("take_lines" : Str) = none := bf_no _ _ _ (by decide +kernel) (by decide +kernel) (by decide +kernel)
    refine ⟨_, rfl, b, bx, _, rfl, hb.1, hno, _, rfl, p, T.c_Lore, dxl, _, _, rfl, s1 _ _ hlo, T.cl_Lore, T.n_Lore_lines, lf_lines _ _, b, bx, ta, sh, te, [], lv, ls, rfl, hb, Dp.same s1 _ _ hl, by rw [List.length_nil]; omega, by omega, hT.ext s1, fun H2 pa us ps hb2 f2 npa hpa dps hpo => ?_⟩
    have f02 : Fr Tt [] H H2 := ((Fr.same s1).trans f2).drop fun x hx => .inr (by
      rcases mem_bS hx with z | z | z
      · rw [z]; exact nta0
      · rw [z]; exact nsh0
      · rw [z]; exact nte0)
    have npa0 := s1.free npa
    dsimp only [gName]
    show tSeq _ _ _ [some (.ref h), some (.ref p), some (.ref b), some (.ref pa), none, none, none, none, none, none, none, none, none, none, none, none] _
    change BankAt P w K T.c_Bank b bx ta sh te (toldB ls) H2 at hb2
    change PairsOf (toldB ls) ls ps at hpo
    obtain ⟨g1, nse, kvs0, vsh, vte, g3, g4, g5, ⟨shs, dsh, oksh⟩, g7, g8⟩ := id hb2
    have hn : shs.length = (toldB ls).length := oksh.len
    have hvt : vte.length = (toldB ls).length := by rw [g7.len, Tm.datas_len]
    have LK : LkAt K H2 sh vsh shs := ⟨g4, dsh, fun i s xs hi => by
      obtain ⟨qs, e1, e2, e3⟩ := oksh.get i s xs hi
      have hil := (List.getElem?_eq_some_iff.mp hi).1
      refine ⟨fun x hx => by have := e3 x hx; omega, ?_⟩
      have e4 := congrArg List.length e2
      rw [List.length_map, List.length_map] at e4
      have e5 := hpre _ (List.mem_of_getElem? e1)
      have e6 := Tm.pres_len qs
      rw [Tm.pre, List.length_cons] at e5
      omega⟩
    have plow : ∀ q ∈ ps, q.1 < shs.length ∧ q.2 < shs.length := fun q hq => by
      obtain ⟨j, hj⟩ := List.mem_iff_getElem?.mp hq
      have hjl := (List.getElem?_eq_some_iff.mp hj).1
      obtain ⟨l, hl2⟩ : ∃ l, ls[j]? = some l := ⟨_, List.getElem?_eq_getElem (by rw [← hpo.1]; exact hjl)⟩
      obtain ⟨a1, a2⟩ := hpo.2 j l q hl2 hj
      have b1 := (List.getElem?_eq_some_iff.mp a1).1
      have b2 := (List.getElem?_eq_some_iff.mp a2).1
      omega
    refine seq_asg ?_
    refine ⟨_, rfl, b, T.c_Bank, bx, _, _, rfl, g1, T.cl_Bank, T.n_Bank_shapes, bf_shapes _ _ _, _, rfl, sh, vsh, shs, pa, us, ps, rfl, LK, hpa, dps, plow, by omega, by have := hpo.1; omega, fun H3 mp mx ha ea hs m f d s3 nmp nha nea hm F cg => ?_⟩
    have f03 := f02.trans (Fr.same s3)
    dsimp only [gName]
    show tSeq _ _ _ [some (.ref h), some (.ref p), some (.ref b), some (.ref pa), some (.ref mp), none, none, none, none, none, none, none, none, none, none, none] _
    refine seq_asg ?_
    refine fun nu nnu => ?_
    dsimp only [gName]
    refine seq_asg ?_
    refine ⟨Nat.zero_le _, fun me nme => ?_⟩
    have s4 := same_new (o := .dK []) nnu
    have s5 := s4.trans (same_new (o := .lst []) nme)
    have hme5 := upd_same (H := upd H3 nu (.dK [])) (a := me) (o := .lst [])
    have hnu5 := (same_new (o := .lst []) nme) _ _ (upd_same (H := H3) (a := nu) (o := .dK []))
    have hnm : nu ≠ me := fun z => by rw [← z, upd_same] at nme; cases nme
    have nme3 : H3 me = none := s4.free nme
    generalize upd (upd H3 nu (.dK [])) me (.lst []) = H5 at s5 hme5 hnu5 ⊢
    clear s4 nme
    have hb5 := hb2.kv (Kv.same (s3.trans s5))
    have hm5 := hm.kp (H' := H5) s5
    have f05 := f03.trans (Fr.same s5)
    have T5 := f05.tb hT
    dsimp only [gName]
    show tSeq _ _ _ [some (.ref h), some (.ref p), some (.ref b), some (.ref pa), some (.ref mp), some (.ref nu), some (.ref me), none, none, none, none, none, none, none, none, none] _
    refine ⟨_, rfl, b, bx, ta, sh, te, toldB ls, rfl, hb5, by omega, hpre, T5, fun H6 al f6 nal hal => ⟨al, rfl, ⟨_, .inl (.inl hal)⟩, ?_⟩⟩
    have hb6 := f6.kp _ _ hb5.1 (fun z => nomatch z) (fun _ z => nomatch z)
    have hte6 := f6.kp _ _ (s5 _ _ (s3 _ _ g5)) (fun z => nomatch z) (fun _ z => nomatch z)
    have hsh6 := f6.kp _ _ (s5 _ _ (s3 _ _ g4)) (fun z => nomatch z) (fun _ z => nomatch z)
    have hnu6 := f6.kp _ _ hnu5 (fun z => nomatch z) (fun _ z => nomatch z)
    have hme6 := f6.kp _ _ hme5 (fun z => nomatch z) (fun _ z => nomatch z)
    have hm6 := hm5.fr f6
    have i26 : Imm H2 H6 := (Imm.of (s3.trans s5)).trans f6.imm0
    have dte6 := DpAll.imm i26 _ _ (Tm.nl_datas _) g7
    have dsh6 := DpAll.imm i26 _ _ (nls_shDs shs) dsh
    have f06 := f05.trans f6
    have T6 := f6.tb T5
    have nal3 : al ≠ ha ∧ al ≠ nu ∧ al ≠ me := by
      refine ⟨fun z => ?_, fun z => ?_, fun z => ?_⟩
      · rw [z] at nal
        obtain ⟨_, q⟩ := nal _ hm5.homes
        cases q
      · rw [z] at nal
        obtain ⟨_, q⟩ := nal _ hnu5
        cases q
      · rw [z] at nal
        obtain ⟨_, q⟩ := nal _ hme5
        cases q
    have nah : ∀ {x : Addr} {o : HO}, H6 x = some o → (∀ xs, o ≠ .lst xs) → (∀ xs, o ≠ .dK xs) → x ∉ [ha, nu, me] := fun {x o} e n1 n2 z => by
      rcases mem3 z with q | q | q
      · rw [q, hm6.homes] at e
        cases e
        exact n1 _ rfl
      · rw [q, hnu6] at e
        cases e
        exact n2 _ rfl
      · rw [q, hme6] at e
        cases e
        exact n1 _ rfl
    have hmu6 : Mut H6 [ha, nu, me] := fun x hx => by
      rcases mem3 hx with q | q | q
      · rw [q, hm6.homes]
        exact ⟨(fun _ z => nomatch z), fun _ _ z => nomatch z⟩
      · rw [q, hnu6]
        exact ⟨(fun _ z => nomatch z), fun _ _ z => nomatch z⟩
      · rw [q, hme6]
        exact ⟨(fun _ z => nomatch z), fun _ _ z => nomatch z⟩
    have nsh3 : sh ∉ [ha, nu, me] := fun z => by
      rcases mem3 z with q | q | q
      · rw [q, nha] at g4
        cases g4
      · have := s3 _ _ g4
        rw [q, nnu] at this
        cases this
      · have := s3 _ _ g4
        rw [q, nme3] at this
        cases this
    have nte3 : te ∉ [ha, nu, me] := fun z => by
      rcases mem3 z with q | q | q
      · rw [q, nha] at g5
        cases g5
      · have := s3 _ _ g5
        rw [q, nnu] at this
        cases this
      · have := s3 _ _ g5
        rw [q, nme3] at this
        cases this
    have hmn : me ≠ nu := fun z => hnm z.symm
    have hmh : me ≠ ha := fun z => by rw [z, hm.homes] at nme3; cases nme3
    have hnh : nu ≠ ha := fun z => by rw [z, hm.homes] at nnu; cases nnu
    have hAl : (ascL (toldB ls)).length = (toldB ls).length := asc_len _
    have hAm : ∀ {t i : Nat}, (ascL (toldB ls))[t]? = some i → i < shs.length := fun h => by
      have := asc_mem (List.mem_of_getElem? h)
      omega
    obtain ⟨g, eg⟩ : ∃ g : Nat → V, g = fun i => vte.getD i .non := ⟨_, rfl⟩
    refine for_list (K := K) (a := al) (xs := (ascL (toldB ls)).map fun i : Nat => V.int (i : Int)) (fun t σ G => ∃ w7 w8 hs' kvs as, σ = [some (.ref h), some (.ref p), some (.ref b), some (.ref pa), some (.ref mp), some (.ref nu), some (.ref me), w7, w8, none, none, none, none, none, none, none] ∧
        Sm [ha, nu, me] H6 G ∧ Forest shs.length hs' f d ∧ MgAt T.c_Merger mp mx ha ea hs' m G ∧ G nu = some (.dK kvs) ∧ NumOk kvs (frs (((ascL (toldB ls)).take t).map f)) ∧ kvs.length = (frs (((ascL (toldB ls)).take t).map f)).length ∧ G me = some (.lst (as.map V.ref)) ∧ RwAt G as (rwL (ascL (toldB ls)) f g t) ∧ ∀ r ∈ as, H6 r = none)
      ⟨none, none, hs, [], [], rfl, Sm.same (Same.refl _), F, hm6, hnu6, (fun x => rfl), rfl, hme6, RwAt.nil _, fun r m => nomatch m⟩ (fun t σ G _ ⟨_, _, _, _, _, _, s, _⟩ => .inl (.inl (s _ _ hal (fun z => by rcases mem3 z with q | q | q; exact nal3.1 q; exact nal3.2.1 q; exact nal3.2.2 q)))) (fun t x σ G hx hI => ?_) (fun σ G hI => ?_)
    · obtain ⟨w7, w8, hs1, kvs, as, rfl, sm1, F1, hm1, hnu1, num1, kl1, hme1, rw1, nas⟩ := hI
      have htl : t < (ascL (toldB ls)).length := by
        have := (List.getElem?_eq_some_iff.mp hx).1
        rw [List.length_map] at this
        exact this
      obtain ⟨i, hAi⟩ : ∃ i, (ascL (toldB ls))[t]? = some i := ⟨_, List.getElem?_eq_getElem htl⟩
      rw [List.getElem?_map, hAi] at hx
      cases hx
      have hin := hAm hAi
      have hnoH : (mf ha ea).lookup ("home" : Str) = none := mf_no _ _ (by decide +kernel) (by decide +kernel)
      show tSeq _ _ _ [some (.ref h), some (.ref p), some (.ref b), some (.ref pa), some (.ref mp), some (.ref nu), some (.ref me), some (.int (i : Int)), w8, none, none, none, none, none, none, none] _
      refine seq_asg ?_
      refine ⟨_, rfl, mp, mx, _, rfl, hm1.ins, hnoH, _, rfl, mp, mx, ha, ea, hs1, m, shs.length, f, d, i, rfl, hm1, F1, hin, by omega, fun G1 hs2 sm2 F2 hm2 => ?_⟩
      have n6 : ∀ r ∈ as, r ≠ ha ∧ r ≠ nu ∧ r ≠ me := fun r hr => by
        have := nas r hr
        refine ⟨fun z => ?_, fun z => ?_, fun z => ?_⟩
        · rw [z, hm6.homes] at this; cases this
        · rw [z, hnu6] at this; cases this
        · rw [z, hme6] at this; cases this
      have rw2 := rw1.kp (H' := G1) fun r hr o e => sm2 _ _ e fun z => (n6 r hr).1 (mem1 z)
      have hnu2 := sm2 _ _ hnu1 (fun z => hnh (mem1 z))
      have hme2 := sm2 _ _ hme1 (fun z => hmh (mem1 z))
      have sm12 : Sm [ha, nu, me] H6 G1 := sm1.trans fun x o e n => sm2 _ _ e fun z => n (by rw [mem1 z]; exact List.mem_cons_self ..)
      clear sm1 hm1 hnu1 hme1 rw1 F1 sm2
      dsimp only [gName]
      show tSeq _ _ _ [some (.ref h), some (.ref p), some (.ref b), some (.ref pa), some (.ref mp), some (.ref nu), some (.ref me), some (.int (i : Int)), some (.int (f i : Int)), none, none, none, none, none, none, none] _
      refine seq_open (fun σ' G' => ∃ kvs2 as2 rs2 us, σ' = [some (.ref h), some (.ref p), some (.ref b), some (.ref pa), some (.ref mp), some (.ref nu), some (.ref me), some (.int (i : Int)), some (.int (f i : Int)), none, none, none, none, none, none, none] ∧ Sm [ha, nu, me] H6 G' ∧ MgAt T.c_Merger mp mx ha ea hs2 m G' ∧ G' nu = some (.dK kvs2) ∧
          NumOk kvs2 (frs (((ascL (toldB ls)).take (t + 1)).map f)) ∧ kvs2.length = (frs (((ascL (toldB ls)).take (t + 1)).map f)).length ∧ G' me = some (.lst (as2.map V.ref)) ∧ RwAt G' as2 rs2 ∧ (∀ r ∈ as2, H6 r = none) ∧ f i ∈ frs (((ascL (toldB ls)).take (t + 1)).map f) ∧
          rs2[posN (frs (((ascL (toldB ls)).take (t + 1)).map f)) (f i)]? = some us ∧ rwL (ascL (toldB ls)) f g (t + 1) = rs2.set (posN (frs (((ascL (toldB ls)).take (t + 1)).map f)) (f i)) (us ++ [g i])) (fun NX hNX => ?_) (fun σ' G' hJ => ?_)
      · refine ⟨_, rfl, _, rfl, nu, _, rfl, DGet.k (k := Sum.inl (f i : Int)) hnu2, ⟨_, rfl, ?_⟩⟩
        have lF := len_frs (((ascL (toldB ls)).take t).map f)
        rw [List.length_map, List.length_take] at lF
        by_cases hmem : f i ∈ frs (((ascL (toldB ls)).take t).map f)
        · have e1 := num1 (f i)
          rw [if_pos hmem] at e1
          rw [e1]
          obtain ⟨us, u1, u2⟩ := rwL_old (g := g) hAi hmem
          have eF : frs (((ascL (toldB ls)).take (t + 1)).map f) = frs (((ascL (toldB ls)).take t).map f) := by
            rw [frs_step hAi]
            unfold addF
            rw [if_pos hmem]
          refine hNX _ _ ⟨kvs, as, rwL (ascL (toldB ls)) f g t, us, rfl, sm12, hm2, hnu2, ?_⟩
          rw [eF]
          exact ⟨num1, kl1, hme2, rw2, nas, hmem, u1, u2⟩
        · have e1 := num1 (f i)
          rw [if_neg hmem] at e1
          rw [e1]
          have la : as.length = (frs (((ascL (toldB ls)).take t).map f)).length := by
            rw [rw2.len]
            unfold rwL
            rw [List.length_map]
          refine ⟨_, rfl, me, _, rfl, .inl (.inl (.inl hme2)), _, rfl, _, rfl, nu, _, rfl, DPut.k (k := Sum.inl (f i : Int)) hnu2 (by omega), ?_⟩
          rw [List.length_map, la]
          obtain ⟨num2, kl2⟩ := num1.put hmem
          have sm3 : Sm [ha, nu, me] H6 (upd G1 nu (.dK (putK kvs (Sum.inl (f i : Int)) (.int ((frs (((ascL (toldB ls)).take t).map f)).length : Int))))) := sm12.trans (Sm.upd (List.mem_cons_of_mem _ (List.mem_cons_self ..)))
          have hm3 := hm2.upd' (o := .dK (putK kvs (Sum.inl (f i : Int)) (.int ((frs (((ascL (toldB ls)).take t).map f)).length : Int)))) (ao := nu) (fun z => by have q := hm2.ins; rw [z, hnu2] at q; cases q) (fun z => hnh z.symm) (fun z => by obtain ⟨es, q, _⟩ := hm2.edges; rw [z, hnu2] at q; cases q)
          have hnu3 := upd_same (H := G1) (a := nu) (o := .dK (putK kvs (Sum.inl (f i : Int)) (.int ((frs (((ascL (toldB ls)).take t).map f)).length : Int))))
          have hme3 : upd G1 nu (.dK (putK kvs (Sum.inl (f i : Int)) (.int ((frs (((ascL (toldB ls)).take t).map f)).length : Int)))) me = some (.lst (as.map V.ref)) := by rw [upd_ne hmn]; exact hme2
          have rw3 := rw2.kp (H' := upd G1 nu (.dK (putK kvs (Sum.inl (f i : Int)) (.int ((frs (((ascL (toldB ls)).take t).map f)).length : Int))))) fun r hr o e => by rw [upd_ne (n6 r hr).2.1]; exact e
          generalize upd G1 nu (.dK (putK kvs (Sum.inl (f i : Int)) (.int ((frs (((ascL (toldB ls)).take t).map f)).length : Int)))) = G3 at sm3 hm3 hnu3 hme3 rw3 ⊢
          refine ⟨_, rfl, .inl ⟨rfl, _, .inl (.inl hme3)⟩, Nat.zero_le _, fun r nr => ?_⟩
          have rw4 := rw3.new nr
          have nr6 : H6 r = none := by
            cases e : H6 r with
            | none => rfl
            | some o =>
              have hn3 : r ∉ [ha, nu, me] := fun z => by
                rcases mem3 z with q | q | q
                · rw [q, hm3.homes] at nr; cases nr
                · rw [q, hnu3] at nr; cases nr
                · rw [q, hme3] at nr; cases nr
              have := sm3 _ _ e hn3
              rw [nr] at this
              cases this
          have hm4 := hm3.kp (H' := upd G3 r (.lst [])) (same_new nr)
          have hnu4 := (same_new (o := .lst []) nr) _ _ hnu3
          have hme4 := (same_new (o := .lst []) nr) _ _ hme3
          have sm4 : Sm [ha, nu, me] H6 (upd G3 r (.lst [])) := sm3.updN nr6
          generalize upd G3 r (.lst []) = G4 at rw4 hm4 hnu4 hme4 sm4 ⊢
          refine ⟨me, _, _, rfl, rfl, hme4, by rw [List.length_map]; omega, ?_⟩
          have eF : frs (((ascL (toldB ls)).take (t + 1)).map f) = frs (((ascL (toldB ls)).take t).map f) ++ [f i] := by
            rw [frs_step hAi]
            unfold addF
            rw [if_neg hmem]
          have nrm : ∀ r' ∈ as ++ [r], r' ≠ me := fun r' hr' z => by
            rcases List.mem_append.mp hr' with q | q
            · exact (n6 r' q).2.2 z
            · rw [List.mem_singleton.mp q] at z
              rw [z, hme6] at nr6
              cases nr6
          have rl : (rwL (ascL (toldB ls)) f g t).length = (frs (((ascL (toldB ls)).take t).map f)).length := by
            unfold rwL
            rw [List.length_map]
          refine hNX _ _ ⟨_, as ++ [r], rwL (ascL (toldB ls)) f g t ++ [[]], [], rfl, sm4.trans (Sm.upd (List.mem_cons_of_mem _ (List.mem_cons_of_mem _ (List.mem_cons_self ..)))), hm4.upd' (fun z => by have q := hm4.ins; rw [z, hme4] at q; cases q) (fun z => hmh z.symm) (fun z => ?_), by rw [upd_ne hnm]; exact hnu4, ?_⟩
          · obtain ⟨es, q, _⟩ := hm.edges
            rw [z, nme3] at q
            cases q
          · rw [eF, posN_new hmem]
            refine ⟨num2, by rw [kl2, List.length_append, kl1]; rfl, by rw [upd_same, List.map_append]; rfl, rw4.kp fun r' hr' o e => by rw [upd_ne (nrm r' hr')]; exact e, fun r' hr' => ?_, by simp, ?_, ?_⟩
            · rcases List.mem_append.mp hr' with q | q
              · exact nas r' q
              · rw [List.mem_singleton.mp q]
                exact nr6
            · rw [← rl, List.getElem?_append_right (Nat.le_refl _), Nat.sub_self]
              rfl
            · rw [← rl, rwL_new hAi hmem, List.set_append_right _ _ (Nat.le_refl _), Nat.sub_self]
              rfl
      · obtain ⟨kvs2, as2, rs2, us, rfl, sm3, hm3, hnu3, num3, kl3, hme3, rw3, nas3, hin3, hus, hrw⟩ := hJ
        have hrsl := (List.getElem?_eq_some_iff.mp hus).1
        obtain ⟨r, hr⟩ : ∃ r, as2[posN (frs (((ascL (toldB ls)).take (t + 1)).map f)) (f i)]? = some r := ⟨_, List.getElem?_eq_getElem (by rw [rw3.len]; exact hrsl)⟩
        have hrow := rw3.get _ r us hr hus
        have nr6 := nas3 r (List.mem_of_getElem? hr)
        have e1 := num3 (f i)
        rw [if_pos hin3] at e1
        have dg : DGet G' nu (.int (f i : Int)) (some (.int (posN (frs (((ascL (toldB ls)).take (t + 1)).map f)) (f i) : Int))) := by
          have q := DGet.k (k := Sum.inl (f i : Int)) hnu3
          rw [e1] at q
          exact q
        have hgi : vte[i]? = some (g i) := by
          rw [eg]
          exact getD_lt (by omega) _
        have hul : us.length < sizeLine := by
          have q : (rwL (ascL (toldB ls)) f g (t + 1))[posN (frs (((ascL (toldB ls)).take (t + 1)).map f)) (f i)]? = some (us ++ [g i]) := by
            rw [hrw, List.getElem?_set_self hrsl]
          have q2 := rwL_len q
          rw [List.length_append] at q2
          omega
        have nb3 : b ∉ [ha, nu, me] := nah hb6 (fun _ z => nomatch z) (fun _ z => nomatch z)
        refine ⟨_, rfl, _, rfl, _, rfl, nu, _, rfl, dg, me, _, _, .ref r, rfl, rfl, .inl (.inl hme3), atI_nat (by rw [List.getElem?_map, hr]; rfl), .inl ⟨rfl, _, .inl (.inl hrow)⟩, _, rfl, b, T.c_Bank, bx, _, _, rfl, sm3 _ _ hb6 nb3, T.cl_Bank, T.n_Bank_terms, bf_terms _ _ _, _, rfl, te, _, _, _, rfl, rfl, .inl (.inl (sm3 _ _ hte6 nte3)), atI_nat hgi, r, us, _, rfl, rfl, hrow, hul, ?_⟩
        have nrr : r ≠ nu ∧ r ≠ me ∧ r ≠ ha ∧ r ≠ ea ∧ r ≠ mp := by
          refine ⟨fun z => ?_, fun z => ?_, fun z => ?_, fun z => ?_, fun z => ?_⟩
          · rw [z, hnu6] at nr6; cases nr6
          · rw [z, hme6] at nr6; cases nr6
          · rw [z, hm6.homes] at nr6; cases nr6
          · obtain ⟨es, q, _⟩ := hm6.edges
            rw [z, q] at nr6; cases nr6
          · rw [z, hm6.ins] at nr6; cases nr6
        obtain ⟨z1, z2, z3, z4, z5⟩ := nrr
        refine ⟨_, _, hs2, kvs2, as2, rfl, sm3.updN nr6, F2, hm3.upd' (fun z => z5 z.symm) (fun z => z3 z.symm) (fun z => z4 z.symm), by rw [upd_ne (fun z => z1 z.symm)]; exact hnu3, num3, kl3, by rw [upd_ne (fun z => z2 z.symm)]; exact hme3, ?_, nas3⟩
        rw [hrw]
        exact rw3.app hr hus
    · obtain ⟨w7, w8, hs1, kvs, as, rfl, sm1, F1, hm1, hnu1, num1, kl1, hme1, rw1, nas⟩ := hI
      rw [List.length_map, List.take_length] at num1 kl1
      rw [List.length_map] at rw1
      have Ftl : frs (((ascL (toldB ls)).take (ascL (toldB ls)).length).map f) = hF (toldB ls) f := by
        rw [List.take_length]
        rfl
      have Rtl : rwL (ascL (toldB ls)) f g (ascL (toldB ls)).length = (hF (toldB ls) f).map fun x => ((ascL (toldB ls)).filter fun i => decide (f i = x)).map g := by
        unfold rwL
        rw [Ftl, List.take_length]
      rw [Rtl] at rw1
      change NumOk kvs (hF (toldB ls) f) at num1
      change kvs.length = (hF (toldB ls) f).length at kl1
      have Flen := hF_len (toldB ls) f
      have i6 : Imm H6 G := (Sm.kp sm1).imm hmu6
      have dteG := DpAll.imm i6 _ _ (Tm.nl_datas _) dte6
      have dshG := DpAll.imm i6 _ _ (nls_shDs shs) dsh6
      have f0G : Fr Tt [] H G := by
        refine ⟨fun x o e _ nt => ?_, fun _ => sm_tabs sm1 (fun x hx => ?_) T6⟩
        · refine sm1 _ _ (f06.kp x o e (fun z => nomatch z) nt) fun z => ?_
          rcases mem3 z with q | q | q
          · have := f02.kp x o e (fun z => nomatch z) nt
            rw [q, nha] at this
            cases this
          · have := f03.kp x o e (fun z => nomatch z) nt
            rw [q, nnu] at this
            cases this
          · have := f03.kp x o e (fun z => nomatch z) nt
            rw [q, nme3] at this
            cases this
        · rcases mem3 hx with q | q | q
          · rw [q, hm6.homes]
            exact ⟨(fun _ z => nomatch z), fun _ z => codeO_lst z⟩
          · rw [q, hnu6]
            exact ⟨(fun _ z => nomatch z), fun _ z => codeO_dK z⟩
          · rw [q, hme6]
            exact ⟨(fun _ z => nomatch z), fun _ z => codeO_lst z⟩
      have nb3 : b ∉ [ha, nu, me] := nah hb6 (fun _ z => nomatch z) (fun _ z => nomatch z)
      have hbG := sm1 _ _ hb6 nb3
      have hteG := sm1 _ _ hte6 nte3
      have hshG := sm1 _ _ hsh6 nsh3
      dsimp only
      show tSeq _ _ _ [some (.ref h), some (.ref p), some (.ref b), some (.ref pa), some (.ref mp), some (.ref nu), some (.ref me), w7, w8, none, none, none, none, none, none, none] _
      clear dte6 dsh6 i6 hmu6 nah nal nal3 hal hb6 hte6 hsh6 hnu6 hme6 hm6 T6 f06 hb5 hm5 f05 T5 hnu5 hme5 s5 f6 sm1
      -- the classes
      have asl : as.length = (hF (toldB ls) f).length := by rw [rw1.len, List.length_map]
      refine ⟨_, rfl, me, rfl, ⟨_, .inl (.inl hme1)⟩, fun D nD => ?_⟩
      refine lc_list (K := K) (a := me) (xs := as.map V.ref) (fun j G' => Same G G' ∧ ∃ us, G' D = some (.lst us) ∧ us.length = j ∧ DpAll K G' us (((hRows (toldB ls) f).take j).map fun r => .tuple (Tm.datas r)))
        ⟨same_new nD, [], upd_same, rfl, .nil⟩ (fun j G' _ q => .inl (.inl (q.1 _ _ hme1))) (fun j x G' hx q => ?_) (fun G' q => ?_)
      · obtain ⟨q1, us, q2, q3, q4⟩ := q
        have hj : j < as.length := by
          have := (List.getElem?_eq_some_iff.mp hx).1
          rw [List.length_map] at this
          exact this
        obtain ⟨r, hr⟩ : ∃ r, as[j]? = some r := ⟨_, List.getElem?_eq_getElem hj⟩
        rw [List.getElem?_map, hr] at hx
        cases hx
        obtain ⟨y, hy⟩ : ∃ y, (hF (toldB ls) f)[j]? = some y := ⟨_, List.getElem?_eq_getElem (by omega)⟩
        have hrow := q1 _ _ (rw1.get j r _ hr (by rw [List.getElem?_map, hy]; rfl))
        refine ⟨rfl, _, rfl, r, _, rfl, .inl ⟨.inl (.inl hrow), fun tq ntq => ?_⟩⟩
        have z1 := same_new (o := .tup (((ascL (toldB ls)).filter fun i => decide (f i = y)).map g)) ntq
        have hRj : (hRows (toldB ls) f)[j]? = some (((ascL (toldB ls)).filter fun i => decide (f i = y)).map fun i => (toldB ls).getD i tm0) := by
          unfold hRows
          rw [List.getElem?_map, hy]
          rfl
        have dn : Dp K (upd G' tq (.tup (((ascL (toldB ls)).filter fun i => decide (f i = y)).map g))) (.ref tq) (.tuple (Tm.datas (((ascL (toldB ls)).filter fun i => decide (f i = y)).map fun i => (toldB ls).getD i tm0))) := by
          refine .tup (.inl (.inl upd_same)) ?_
          rw [eg]
          exact dp_pick (DpAll.same (q1.trans (by rw [eg] at z1; exact z1)) _ _ dteG) _ fun i hi => asc_mem (List.mem_filter.mp hi).1
        refine ⟨us, z1 _ _ q2, by omega, (q1.trans z1).upd nD, us ++ [.ref tq], upd_same, by rw [List.length_append, q3]; rfl, ?_⟩
        have nDq : D ≠ tq := ne_of_none q2 ntq
        rw [take_snoc hRj, List.map_append]
        have il : Imm G' (upd (upd G' tq (.tup (((ascL (toldB ls)).filter fun i => decide (f i = y)).map g))) D (.lst (us ++ [.ref tq]))) := (Imm.of z1).trans (Imm.lst (z1 _ _ q2))
        refine (DpAll.imm il _ _ (nls_tups _) q4).app (.cons ?_ .nil)
        exact Dp.imm (Imm.lst (z1 _ _ q2)) _ _ (by rw [nl, Tm.nl_datas]) dn
      · obtain ⟨q1, us, q2, q3, q4⟩ := q
        have hRl : (hRows (toldB ls) f).length = (hF (toldB ls) f).length := by
          unfold hRows
          rw [List.length_map]
        rw [List.length_map, asl, ← hRl, List.take_length] at q4
        refine ⟨D, us, rfl, .inl ⟨.inl (.inl q2), fun ca nca => ?_⟩⟩
        have z2 := q1.trans (same_new (o := .tup us) nca)
        have hca := upd_same (H := G') (a := ca) (o := .tup us)
        have dca : Dp K (upd G' ca (.tup us)) (.ref ca) (.tuple ((hRows (toldB ls) f).map fun r => .tuple (Tm.datas r))) := .tup (.inl (.inl hca)) (DpAll.same (same_new nca) _ _ q4)
        generalize upd G' ca (.tup us) = G2 at z2 dca ⊢
        clear hca nca q1 q2 q3 q4 us
        have hh2 : G2 h = some (.ins T.c_Hall dx []) := z2 _ _ (f0G.kp _ _ hh (fun z => nomatch z) (fun _ z => nomatch z))
        refine ⟨_, rfl, h, T.c_Hall, dx, _, rfl, hh2, T.cl_Hall, T.n_Hall_classes, (by show 0 < 1000; decide), ?_⟩
        refine fun tb ntb => ?_
        have hhH2 := f02.kp _ _ hh (fun z => nomatch z) (fun _ z => nomatch z)
        have hhH3 := f03.kp _ _ hh (fun z => nomatch z) (fun _ z => nomatch z)
        have hhG := f0G.kp _ _ hh (fun z => nomatch z) (fun _ z => nomatch z)
        have nh : h ≠ b ∧ h ≠ sh ∧ h ≠ te ∧ h ≠ nu ∧ h ≠ me ∧ h ≠ ha ∧ h ≠ ea ∧ h ≠ mp := by
          refine ⟨ne_of_none hh nb, ne_of_none hh nsh0, ne_of_none hh nte0, ne_of_none hhH3 nnu, ne_of_none hhH3 nme3, ne_of_none hhH2 nha, ne_of_none hhH2 nea, ne_of_none hhH2 nmp⟩
        obtain ⟨nhb, nhs, nht, nhn, nhm, nhha, nhea, nhmp⟩ := nh
        have nbh : tb ≠ h := fun z => by rw [z, upd_same] at ntb; cases ntb
        have ntb2 : G2 tb = none := by rw [upd_ne nbh] at ntb; exact ntb
        have fr3 : Fr Tt [h] H (upd G2 h (.ins T.c_Hall dx (putF "classes" (.ref ca) []))) := ((f0G.mono (fun _ z => nomatch z)).trans (Fr.same z2)).trans (Fr.putI hh2 (List.mem_cons_self ..))
        have sm3 : Sm [h] G (upd G2 h (.ins T.c_Hall dx (putF "classes" (.ref ca) []))) := (Sm.same z2).trans (Sm.upd (List.mem_cons_self ..))
        have s34 := same_new (o := DN P w tb []) ntb
        have hh4 := s34 _ _ (upd_same (H := G2) (a := h) (o := .ins T.c_Hall dx (putF "classes" (.ref ca) [])))
        have htb4 := upd_same (H := upd G2 h (.ins T.c_Hall dx (putF "classes" (.ref ca) []))) (a := tb) (o := DN P w tb [])
        have dca3 := Dp.imm (Imm.upd (H := G2) (p := h) (o := .ins T.c_Hall dx (putF "classes" (.ref ca) [])) ⟨(fun _ z => nomatch (hh2.symm.trans z)), fun _ _ z => nomatch (hh2.symm.trans z)⟩) _ _ (by rw [nl]; exact nls_tups _) dca
        refine ⟨_, rfl, h, T.c_Hall, dx, _, rfl, hh4, T.cl_Hall, T.n_Hall_table, (by show 1 < 1000; decide), ?_⟩
        have fr5 := (fr3.trans (Fr.same s34)).trans (Fr.putI (o := .ins T.c_Hall dx (putF "table" (.ref tb) (putF "classes" (.ref ca) []))) hh4 (List.mem_cons_self ..))
        have sm5 : Sm [h] G _ := (sm3.trans (Sm.same s34)).trans (Sm.upd (o := .ins T.c_Hall dx (putF "table" (.ref tb) (putF "classes" (.ref ca) []))) (List.mem_cons_self ..))
        have im45 := Imm.upd (H := upd (upd G2 h (.ins T.c_Hall dx (putF "classes" (.ref ca) []))) tb (DN P w tb [])) (p := h) (o := .ins T.c_Hall dx (putF "table" (.ref tb) (putF "classes" (.ref ca) []))) ⟨(fun _ z => nomatch (hh4.symm.trans z)), fun _ _ z => nomatch (hh4.symm.trans z)⟩
        have dca5 := Dp.imm im45 _ _ (by rw [nl]; exact nls_tups _) (Dp.same s34 _ _ dca3)
        have im5 : Imm G _ := (((Imm.of z2).trans (Imm.upd (H := G2) (p := h) (o := .ins T.c_Hall dx (putF "classes" (.ref ca) [])) ⟨(fun _ z => nomatch (hh2.symm.trans z)), fun _ _ z => nomatch (hh2.symm.trans z)⟩)).trans (Imm.of s34)).trans im45
        have hh5 := upd_same (H := upd (upd G2 h (.ins T.c_Hall dx (putF "classes" (.ref ca) []))) tb (DN P w tb [])) (a := h) (o := .ins T.c_Hall dx (putF "table" (.ref tb) (putF "classes" (.ref ca) [])))
        have htb5 : upd (upd (upd G2 h (.ins T.c_Hall dx (putF "classes" (.ref ca) []))) tb (DN P w tb [])) h (.ins T.c_Hall dx (putF "table" (.ref tb) (putF "classes" (.ref ca) []))) tb = some (DN P w tb []) := by rw [upd_ne nbh]; exact htb4
        have hm5 : MgAt T.c_Merger mp mx ha ea hs1 m (upd (upd (upd G2 h (.ins T.c_Hall dx (putF "classes" (.ref ca) []))) tb (DN P w tb [])) h (.ins T.c_Hall dx (putF "table" (.ref tb) (putF "classes" (.ref ca) [])))) :=
          MgAt.upd' (MgAt.kp (MgAt.upd' (hm1.kp z2) (fun z => nhmp z.symm) (fun z => nhha z.symm) (fun z => nhea z.symm)) s34) (fun z => nhmp z.symm) (fun z => nhha z.symm) (fun z => nhea z.symm)
        dsimp only
        show tSeq _ _ _ [some (.ref h), some (.ref p), some (.ref b), some (.ref pa), some (.ref mp), some (.ref nu), some (.ref me), w7, w8, none, none, none, none, none, none, none] (upd (upd (upd G2 h (.ins T.c_Hall dx (putF "classes" (.ref ca) []))) tb (DN P w tb [])) h (.ins T.c_Hall dx (putF "table" (.ref tb) (putF "classes" (.ref ca) []))))
        generalize upd (upd (upd G2 h (.ins T.c_Hall dx (putF "classes" (.ref ca) []))) tb (DN P w tb [])) h (.ins T.c_Hall dx (putF "table" (.ref tb) (putF "classes" (.ref ca) []))) = G5 at fr5 sm5 dca5 im5 hh5 htb5 hm5 ⊢
        have out : ∀ {x : Addr} {o : HO}, G x = some o → h ≠ x → G5 x = some o := fun e n => sm5 _ _ e fun z => n (mem1 z).symm
        have hb5 := out hbG nhb
        have hsh5 := out hshG nhs
        have hnu5 := out hnu1 nhn
        have hme5 := out hme1 nhm
        have dsh5 := DpAll.imm im5 _ _ (nls_shDs shs) dshG
        have ntbG : ∀ {x : Addr} {o : HO}, G x = some o → x ≠ tb := fun {x o} e z => by
          have := z2 _ _ e
          rw [z, ntb2] at this
          cases this
        have ntha := ntbG hm1.homes
        have ntnu := ntbG hnu1
        have ntme := ntbG hme1
        have ntsh := ntbG hshG
        have ntb' := ntbG hbG
        have ntmp := ntbG hm1.ins
        have ntea : ea ≠ tb := by
          obtain ⟨es, q, _⟩ := hm1.edges
          exact ntbG q
        have nht : h ≠ tb := fun z => nbh z.symm
        clear fr3 sm3 s34 hh4 htb4 dca3 im45 im5 dca z2 sm5 dshG dteG hhH2 hhH3 hhG
        have nd5 : NDct P w K G5 tb [] := ⟨htb5, fun e m => nomatch m⟩
        have hvl : vsh.length = shs.length := by rw [dsh.len, List.length_map]
        have hnoH : (mf ha ea).lookup ("home" : Str) = none := mf_no _ _ (by decide +kernel) (by decide +kernel)
        have cgC : ∀ i j, i < shs.length → j < shs.length → (hC (toldB ls) f i = hC (toldB ls) f j ↔ f i = f j) := fun i j hi hj => by
          constructor
          · intro z
            exact posN_inj (hF_mem (by omega)) (hF_mem (by omega)) z
          · intro z
            unfold hC
            rw [z]
        have lowS : ∀ (i : Nat) (s : Str) (xs : List Nat), shs[i]? = some (s, xs) → (∀ x ∈ xs, x < shs.length) ∧ xs.length ≤ 100000 := LK.low
        have likeC : ∀ (i j : Nat) (s : Str) (xs ys : List Nat), shs[i]? = some (s, xs) → shs[j]? = some (s, ys) → xs.map (hC (toldB ls) f) = ys.map (hC (toldB ls) f) → hC (toldB ls) f i = hC (toldB ls) f j := fun i j s xs ys h1 h2 e => by
          have l1 := (List.getElem?_eq_some_iff.mp h1).1
          have l2 := (List.getElem?_eq_some_iff.mp h2).1
          have hlen : xs.length = ys.length := by
            have := congrArg List.length e
            rw [List.length_map, List.length_map] at this
            exact this
          rw [cgC i j l1 l2, ← cg i j l1 l2]
          refine (Cg.is shs ps).like i j s xs ys h1 h2 hlen fun q x y hx hy => ?_
          have a1 := (lowS i s xs h1).1 x (List.mem_of_getElem? hx)
          have a2 := (lowS j s ys h2).1 y (List.mem_of_getElem? hy)
          rw [cg x y a1 a2, ← cgC x y a1 a2]
          exact map_ext e hx hy
        refine ⟨_, rfl, b, T.c_Bank, bx, _, _, rfl, hb5, T.cl_Bank, T.n_Bank_shapes, bf_shapes _ _ _, sh, vsh, rfl, .inl (.inl hsh5), ?_⟩
        have nsh2 : sh ∉ [ha, tb] := fun z => by
          rcases mem2 z with q | q
          · exact nsh3 (by rw [q]; exact List.mem_cons_self ..)
          · exact ntsh q
        have nnu2 : nu ∉ [ha, tb] := fun z => by
          rcases mem2 z with q | q
          · exact hnh q
          · exact ntnu q
        have nhh2 : h ∉ [ha, tb] := fun z => by
          rcases mem2 z with q | q
          · exact nhha q
          · exact nht q
        have mu5 : Mut G5 [ha, tb] := fun x hx => by
          rcases mem2 hx with q | q
          · rw [q, hm5.homes]
            exact ⟨(fun _ z => nomatch z), fun _ _ z => nomatch z⟩
          · rw [q, htb5]
            exact ⟨fun _ => DN_tup, fun _ _ => DN_frz⟩
        refine for_it (walk_enum (K := K) (a := sh) (xs := vsh)) (fun t σ G => ∃ w7 w8 w10 w11 w13 hs' kvs2, σ = [some (.ref h), some (.ref p), some (.ref b), some (.ref pa), some (.ref mp), some (.ref nu), some (.ref me), w7, w8, none, w10, w11, none, w13, none, none] ∧
            Sm [ha, tb] G5 G ∧ Forest shs.length hs' f d ∧ MgAt T.c_Merger mp mx ha ea hs' m G ∧ NDct P w K G tb kvs2 ∧ TbOk shs (hC (toldB ls) f) t kvs2)
          ⟨_, _, _, _, _, hs1, [], rfl, Sm.same (Same.refl _), F1, hm5, nd5, TbOk.nil _ _⟩ (fun t σ G' _ ⟨_, _, _, _, _, _, _, _, s, _⟩ => .inl (.inl (s _ _ hsh5 nsh2))) (fun t x σ G6 G7 ht hI y => ?_) (fun σ G6 hI => ?_)
        · obtain ⟨w7, w8, w10, w11, w13, hs', kvs2, rfl, sm6, F6, hm6, nd6, tb6⟩ := hI
          obtain ⟨T1, x1, y1, rfl, nT, rfl, e4, e5⟩ := y
          cases e4
          have htl : t < shs.length := by omega
          obtain ⟨⟨s, xs⟩, hsi⟩ : ∃ e, shs[t]? = some e := ⟨_, List.getElem?_eq_getElem htl⟩
          obtain ⟨low, xl⟩ := lowS t s xs hsi
          have i6 : Imm G5 G6 := (Sm.kp sm6).imm mu5
          have s7 := same_new (o := .tup [.int (t : Nat), y1]) nT
          obtain ⟨bb, pt, rfl, hsb, hpt⟩ := shp_open (Dp.same s7 _ _ (Dp.imm i6 _ _ (nl_shD _) (dsh5.get e5 (show (shs.map shD)[t]? = some (shD (s, xs)) by rw [List.getElem?_map, hsi]; rfl))))
          have hT1 : upd G6 T1 (.tup [.int (t : Nat), .ref bb]) T1 = some (.tup [.int (t : Nat), .ref bb]) := upd_same
          have sm7 := sm6.trans (Sm.same s7)
          have hm7 := hm6.kp (H' := upd G6 T1 (.tup [.int (t : Nat), .ref bb])) s7
          have nd7 := nd6.kv (Kv.same (S := []) s7)
          generalize upd G6 T1 (.tup [.int (t : Nat), .ref bb]) = G7 at hT1 sm7 hm7 nd7 hsb hpt ⊢
          clear s7 nT hm6 nd6 sm6 i6
          refine ⟨T1, _, rfl, .inl (.inl hT1), rfl, _, _, rfl, _, _, rfl, bb, _, rfl, hsb, rfl, _, _, rfl, _, _, rfl, rfl, rfl, ?_⟩
          show tSeq _ _ _ [some (.ref h), some (.ref p), some (.ref b), some (.ref pa), some (.ref mp), some (.ref nu), some (.ref me), some (.int (t : Int)), w8, none, some (.str s), some (.ref pt), none, w13, none, none] _
          refine seq_asg ?_
          refine ⟨_, rfl, _, rfl, pt, rfl, ⟨_, hpt⟩, fun D nD => ?_⟩
          have ow7 : Ow G7 [ha] := fun x hx => by rw [mem1 hx]; exact .inr ⟨_, hm7.homes⟩
          obtain ⟨d1, d2, d3⟩ := hm7.nn nD
          have hnu7 := sm7 _ _ hnu5 nnu2
          refine lc_tup (K := K) (a := pt) (xs := xs.map fun j : Nat => V.int (j : Int)) (fun j G => ∃ hs2, Sm [ha] G7 G ∧ Forest shs.length hs2 f d ∧ MgAt T.c_Merger mp mx ha ea hs2 m G ∧ G D = some (.lst ((xs.take j).map fun x => V.int (hC (toldB ls) f x : Int))))
            ⟨hs', Sm.same (same_new nD), F6, hm7.upd' d1 d2 d3, upd_same⟩ (fun j G _ ⟨_, q, _⟩ => (q.imm ow7).sq hpt) (fun j y G hy q => ?_) (fun G q => ?_)
          · obtain ⟨hs2, qs, qF, qm, qD⟩ := q
            have hj : j < xs.length := by
              have := (List.getElem?_eq_some_iff.mp hy).1
              rw [List.length_map] at this
              exact this
            obtain ⟨x, hx⟩ : ∃ x, xs[j]? = some x := ⟨_, List.getElem?_eq_getElem hj⟩
            rw [List.getElem?_map, hx] at hy
            cases hy
            have hxn := low x (List.mem_of_getElem? hx)
            refine ⟨rfl, _, rfl, _, rfl, mp, mx, _, rfl, qm.ins, hnoH, _, rfl, mp, mx, ha, ea, hs2, m, shs.length, f, d, x, rfl, qm, qF, hxn, by omega, fun G3 hs3 sm3 F3 hm3 => ?_⟩
            have D3 := sm3 _ _ qD (fun z => d2 (mem1 z).symm)
            have hnu3 := sm3 _ _ (qs _ _ hnu7 (fun z => hnh (mem1 z))) (fun z => hnh (mem1 z))
            refine ⟨nu, _, rfl, num_get hnu3 num1 (hF_mem (by omega)), _, D3, ?_, hs3, (qs.trans sm3).updN nD, F3, hm3.upd' d1 d2 d3, ?_⟩
            · rw [List.length_map, List.length_take]
              omega
            · rw [upd_same, take_snoc hx, List.map_append]
              rfl
          · rw [List.length_map, List.take_length] at q
            obtain ⟨hs2, qs, qF, qm, qD⟩ := q
            refine ⟨D, _, rfl, .inl ⟨.inl (.inl qD), fun u nu' => ⟨(by show 2 ≤ sizeLine; decide), fun wy nwy => ?_⟩⟩⟩
            have z1 := same_new (o := .tup (xs.map fun x => V.int (hC (toldB ls) f x : Int))) nu'
            have z2 := same_new (o := .tup [.str s, .ref u]) nwy
            have hu2 := z2 _ _ (upd_same (H := G) (a := u) (o := .tup (xs.map fun x => V.int (hC (toldB ls) f x : Int))))
            have hw2 := upd_same (H := upd G u (.tup (xs.map fun x => V.int (hC (toldB ls) f x : Int)))) (a := wy) (o := .tup [.str s, .ref u])
            have qm3 := (qm.kp (H' := upd G u (.tup (xs.map fun x => V.int (hC (toldB ls) f x : Int)))) z1).kp (H' := upd (upd G u (.tup (xs.map fun x => V.int (hC (toldB ls) f x : Int)))) wy (.tup [.str s, .ref u])) z2
            have qs3 := qs.trans (Sm.same (z1.trans z2))
            generalize upd (upd G u (.tup (xs.map fun x => V.int (hC (toldB ls) f x : Int)))) wy (.tup [.str s, .ref u]) = G3 at hu2 hw2 qm3 qs3 ⊢
            clear z1 z2 qm qs qD nu' nwy
            have nd3 : NDct P w K G3 tb kvs2 := nd7.kv (qs3.kv ow7 (S := []) fun b _ z => nomatch z)
            have eu : (xs.map fun x => V.int (hC (toldB ls) f x : Int)) = ((xs.map (hC (toldB ls) f)).map fun i : Nat => V.int (i : Int)) := by rw [List.map_map]; rfl
            rw [eu] at hu2
            have nk3 : NKey K G3 wy (nkey s (xs.map (hC (toldB ls) f))) := nkey_at (.inl (.inl hw2)) (.inl (.inl hu2))
            have up1 : ∀ {H H' : Hp}, Sm [ha] H H' → Sm [ha, tb] H H' := fun s => s.mono fun x hx => by rw [mem1 hx]; exact List.mem_cons_self ..
            have sm3 := sm7.trans (up1 qs3)
            have hnu3 := sm3 _ _ hnu5 nnu2
            dsimp only [gName]
            show sNPut _ _ _ _ _ _ _ [some (.ref h), some (.ref p), some (.ref b), some (.ref pa), some (.ref mp), some (.ref nu), some (.ref me), some (.int (t : Int)), w8, none, some (.str s), some (.ref pt), none, some (.ref wy), none, none] _
            refine ⟨_, rfl, _, rfl, mp, mx, _, rfl, qm3.ins, hnoH, _, rfl, mp, mx, ha, ea, hs2, m, shs.length, f, d, t, rfl, qm3, qF, htl, by omega, fun G4 hs4 sm4 F4 hm4 => ?_⟩
            have hnu4 := sm4 _ _ hnu3 (fun z => hnh (mem1 z))
            have ow3 : Ow G3 [ha] := fun x hx => by rw [mem1 hx]; exact .inr ⟨_, qm3.homes⟩
            have nd4 := nd3.kv (sm4.kv ow3 (S := []) fun b _ z => nomatch z)
            have nk4 := nk3.imm (sm4.imm ow3)
            have sm5 := sm3.trans (up1 sm4)
            have tbl := tb6.len
            refine ⟨nu, _, rfl, num_get hnu4 num1 (hF_mem (by omega)), _, rfl, h, T.c_Hall, dx, _, _, rfl, sm5 _ _ hh5 nhh2, T.cl_Hall, T.n_Hall_table, (by rw [lookup_putF, if_pos rfl]), _, rfl, tb, wy, kvs2, nkey s (xs.map (hC (toldB ls) f)), rfl, rfl, nd4, nk4, by omega, ?_⟩
            exact ⟨_, _, _, _, _, hs4, _, rfl, sm5.trans (Sm.upd (List.mem_cons_of_mem _ (List.mem_cons_self ..))), F4, hm4.upd' ntmp ntha ntea, nd4.put nk4 _, tb6.put likeC hsi wy⟩
        · obtain ⟨w7, w8, w10, w11, w13, hs', kvs2, rfl, sm6, F6, hm6, nd6, tb6⟩ := hI
          rw [hvl] at tb6
          have hh6 := sm6 _ _ hh5 nhh2
          have hme6 := sm6 _ _ hme5 (fun z => by rcases mem2 z with q | q; exact hmh q; exact ntme q)
          have dca6 := Dp.imm ((Sm.kp sm6).imm mu5) _ _ (by rw [nl]; exact nls_tups _) dca5
          have fr6 : Fr Tt [h] H G6 := by
            refine ⟨fun x o e nx nt => ?_, fun tt => sm_tabs sm6 (fun x hx => ?_) (fr5.tb tt)⟩
            · refine sm6 _ _ (fr5.kp x o e nx nt) fun z => ?_
              rcases mem2 z with q | q
              · have := f02.kp x o e (fun z => nomatch z) nt
                rw [q, nha] at this
                cases this
              · have := f0G.kp x o e (fun z => nomatch z) nt
                exact ntbG this q
            · rcases mem2 hx with q | q
              · rw [q, hm5.homes]
                exact ⟨(fun _ z => nomatch z), fun _ z => codeO_lst z⟩
              · rw [q, htb5]
                exact ⟨(fun _ z => by unfold DN at z; cases z), fun _ z => DN_code z⟩
          clear sm6 hm6 F6 dsh5 dca5 fr5 mu5
          dsimp only
          show tSeq _ _ _ [some (.ref h), some (.ref p), some (.ref b), some (.ref pa), some (.ref mp), some (.ref nu), some (.ref me), w7, w8, none, w10, w11, none, w13, none, none] _
          refine seq_asg ?_
          refine ⟨_, rfl, me, rfl, ⟨_, .inl (.inl hme6)⟩, fun D nD => ?_⟩
          refine lc_list (K := K) (a := me) (xs := as.map V.ref) (fun j G' => Same G6 G' ∧ ∃ as2, G' D = some (.lst (as2.map V.ref)) ∧ RwAt G' as2 (List.replicate j []) ∧ ∀ r ∈ as2, G6 r = none ∧ r ≠ D)
            ⟨same_new nD, [], upd_same, RwAt.nil _, fun r m => nomatch m⟩ (fun j G' _ q => .inl (.inl (q.1 _ _ hme6))) (fun j x G' hx q => ?_) (fun G' q => ?_)
          · obtain ⟨q1, as2, q2, q3, q4⟩ := q
            have hj : j < as.length := by
              have := (List.getElem?_eq_some_iff.mp hx).1
              rw [List.length_map] at this
              exact this
            refine ⟨rfl, Nat.zero_le _, fun r nr => ?_⟩
            have nrD : r ≠ D := fun z => by rw [z, q2] at nr; cases nr
            have nr6 : G6 r = none := q1.free nr
            have ql := q3.len
            rw [List.length_replicate] at ql
            refine ⟨as2.map V.ref, (same_new nr) _ _ q2, by rw [List.length_map]; omega, (q1.trans (same_new nr)).upd nD, as2 ++ [r], by rw [upd_same, List.map_append]; rfl, ?_, fun r' hr' => ?_⟩
            · rw [List.replicate_succ']
              refine (q3.new nr).kp fun r' hr' o e => ?_
              have : r' ≠ D := by
                rcases List.mem_append.mp hr' with z | z
                · exact (q4 r' z).2
                · rw [List.mem_singleton.mp z]
                  exact nrD
              rw [upd_ne this]
              exact e
            · rcases List.mem_append.mp hr' with z | z
              · exact q4 r' z
              · rw [List.mem_singleton.mp z]
                exact ⟨nr6, nrD⟩
          · obtain ⟨q1, as2, q2, q3, q4⟩ := q
            rw [List.length_map, asl, ← rwW_zero (hF (toldB ls) f).length (srtN kvs2)] at q3
            have hh7 := q1 _ _ hh6
            have nd7 := nd6.kv (Kv.same (S := []) q1)
            dsimp only [gName]
            show tSeq _ _ _ [some (.ref h), some (.ref p), some (.ref b), some (.ref pa), some (.ref mp), some (.ref nu), some (.ref me), w7, w8, none, w10, w11, none, w13, none, some (.ref D)] _
            refine ⟨_, rfl, h, T.c_Hall, dx, _, _, rfl, hh7, T.cl_Hall, T.n_Hall_table, (by rw [lookup_putF, if_pos rfl]), tb, kvs2, rfl, nd7, tb6.alike, tb6.srt, fun l nl' => ⟨l, rfl, ⟨_, .inl (.inl upd_same)⟩, ?_⟩⟩
            rw [srt_srtN]
            have s8 := same_new (o := .lst ((srtN kvs2).map fun e => V.ref e.2.1)) nl'
            have hl8 := upd_same (H := G') (a := l) (o := .lst ((srtN kvs2).map fun e => V.ref e.2.1))
            have hD8 := s8 _ _ q2
            have rw8 := q3.kp (H' := upd G' l (.lst ((srtN kvs2).map fun e => V.ref e.2.1))) fun r _ o e => s8 _ _ e
            have q8 := q1.trans s8
            have nl6 := q1.free nl'
            have nlD : l ≠ D := fun z => by rw [z, q2] at nl'; cases nl'
            have nlr : ∀ r ∈ as2, r ≠ l := fun r hr z => by
              obtain ⟨us, hu⟩ := q3.has r hr
              rw [z, nl'] at hu
              cases hu
            generalize upd G' l (.lst ((srtN kvs2).map fun e => V.ref e.2.1)) = G8 at s8 hl8 hD8 rw8 q8 ⊢
            clear q1 q2 q3 s8 nl' hh7 nd7
            refine for_list (K := K) (a := l) (xs := (srtN kvs2).map fun e => V.ref e.2.1) (fun t σ G => ∃ w13, σ = [some (.ref h), some (.ref p), some (.ref b), some (.ref pa), some (.ref mp), some (.ref nu), some (.ref me), w7, w8, none, w10, w11, none, w13, none, some (.ref D)] ∧
                Same G6 G ∧ G l = some (.lst ((srtN kvs2).map fun e => V.ref e.2.1)) ∧ G D = some (.lst (as2.map V.ref)) ∧ RwAt G as2 (rwW (hF (toldB ls) f).length (srtN kvs2) t))
              ⟨_, rfl, q8, hl8, hD8, rw8⟩ (fun t σ G _ ⟨_, _, _, q, _⟩ => .inl (.inl q)) (fun t x σ G hx hI => ?_) (fun σ G hI => ?_)
            · obtain ⟨w13, rfl, q9, hl9, hD9, rw9⟩ := hI
              obtain ⟨e, he⟩ : ∃ e, (srtN kvs2)[t]? = some e := by
                rw [List.getElem?_map] at hx
                obtain ⟨e, he, _⟩ := Option.map_eq_some_iff.mp hx
                exact ⟨e, he⟩
              rw [List.getElem?_map, he] at hx
              cases hx
              have hek : e ∈ kvs2 := (srtN_perm kvs2).mem_iff.mp (List.mem_of_getElem? he)
              obtain ⟨i, s, xs, hi, hsi, e1, e2⟩ := tb6.of e hek
              have hv := tb6.at_ i s xs hi hsi
              rw [← e1] at hv
              have ewq : wq e = hC (toldB ls) f i := by
                unfold wq
                rw [e2]
                exact Int.toNat_natCast _
              have hql : wq e < (hF (toldB ls) f).length := by
                rw [ewq]
                exact posN_lt (hF_mem (by omega))
              obtain ⟨us, hus, hul, hstep⟩ := rwW_step he hql
              have hrl := rw9.len
              obtain ⟨r, hr⟩ : ∃ r, as2[wq e]? = some r := ⟨_, List.getElem?_eq_getElem (by have := (List.getElem?_eq_some_iff.mp hus).1; omega)⟩
              have hrow := rw9.get _ r us hr hus
              have hh9 := q9 _ _ hh6
              have nd9 := nd6.kv (Kv.same (S := []) q9)
              have htk : t < kvs2.length := by
                have := (List.getElem?_eq_some_iff.mp he).1
                rw [(srtN_perm kvs2).length_eq] at this
                exact this
              have tbl := tb6.len
              show tDrop _ _ [some (.ref h), some (.ref p), some (.ref b), some (.ref pa), some (.ref mp), some (.ref nu), some (.ref me), w7, w8, none, w10, w11, none, some (.ref e.2.1), none, some (.ref D)] _
              have ewi : (hC (toldB ls) f i : Int) = (wq e : Int) := by rw [ewq]
              rw [ewi] at hv
              refine ⟨_, rfl, _, rfl, h, T.c_Hall, dx, _, _, rfl, hh9, T.cl_Hall, T.n_Hall_table, (by rw [lookup_putF, if_pos rfl]), _, rfl, tb, e.2.1, kvs2, e.1, _, rfl, rfl, nd9, nd9.keys e hek, hv, D, _, _, .ref r, rfl, rfl, .inl (.inl hD9), atI_nat (by rw [List.getElem?_map, hr]; rfl), .inl ⟨rfl, _, .inl (.inl hrow)⟩, _, rfl, r, us, _, rfl, rfl, hrow, by omega, ?_⟩
              obtain ⟨a1, a2⟩ := q4 r (List.mem_of_getElem? hr)
              refine ⟨_, rfl, q9.upd a1, by rw [upd_ne (fun z => nlr r (List.mem_of_getElem? hr) z.symm)]; exact hl9, by rw [upd_ne (fun z => a2 z.symm)]; exact hD9, ?_⟩
              rw [hstep]
              exact rw9.app hr hus
            · obtain ⟨w13, rfl, q9, hl9, hD9, rw9⟩ := hI
              rw [List.length_map] at rw9
              have nd9 := nd6.kv (Kv.same (S := []) q9)
              have al2 : as2.length = (hF (toldB ls) f).length := by
                rw [rw9.len]
                unfold rwW
                rw [List.length_map, List.length_range]
              dsimp only
              refine ⟨_, rfl, D, rfl, ⟨_, .inl (.inl hD9)⟩, fun D3 nD3 => ?_⟩
              refine lc_list (K := K) (a := D) (xs := as2.map V.ref) (fun j G' => Same G G' ∧ ∃ us, G' D3 = some (.lst us) ∧ us.length = j ∧ DpAll K G' us (((hWays (hF (toldB ls) f).length kvs2).take j).map fun r => .tuple (r.map fun e => e.1.data)))
                ⟨same_new nD3, [], upd_same, rfl, .nil⟩ (fun j G' _ q => .inl (.inl (q.1 _ _ hD9))) (fun j x G' hx q => ?_) (fun G' q => ?_)
              · obtain ⟨q1, us, q2, q3, q5⟩ := q
                have hj : j < as2.length := by
                  have := (List.getElem?_eq_some_iff.mp hx).1
                  rw [List.length_map] at this
                  exact this
                obtain ⟨r, hr⟩ : ∃ r, as2[j]? = some r := ⟨_, List.getElem?_eq_getElem hj⟩
                rw [List.getElem?_map, hr] at hx
                cases hx
                have hrg : (List.range (hF (toldB ls) f).length)[j]? = some j := List.getElem?_range (by omega)
                have hrow := q1 _ _ (rw9.get j r _ hr (by unfold rwW; rw [List.getElem?_map, hrg]; rfl))
                rw [List.take_length] at hrow
                refine ⟨rfl, _, rfl, r, _, rfl, .inl ⟨.inl (.inl hrow), fun tq ntq => ?_⟩⟩
                have z1 := same_new (o := .tup (((srtN kvs2).filter fun e => decide (wq e = j)).map fun e => V.ref e.2.1)) ntq
                have hRj : (hWays (hF (toldB ls) f).length kvs2)[j]? = some ((srtN kvs2).filter fun e => decide (wq e = j)) := by
                  unfold hWays
                  rw [List.getElem?_map, hrg]
                  rfl
                have dn : Dp K (upd G' tq (.tup (((srtN kvs2).filter fun e => decide (wq e = j)).map fun e => V.ref e.2.1))) (.ref tq) (.tuple (((srtN kvs2).filter fun e => decide (wq e = j)).map fun e => e.1.data)) := by
                  refine .tup (.inl (.inl upd_same)) (dp_keys _ fun e he => ?_)
                  exact (nd9.keys e ((srtN_perm kvs2).mem_iff.mp (List.mem_filter.mp he).1)).imm (Imm.of (q1.trans z1))
                have nDq : D3 ≠ tq := ne_of_none q2 ntq
                refine ⟨us, z1 _ _ q2, by omega, (q1.trans z1).upd nD3, us ++ [.ref tq], upd_same, by rw [List.length_append, q3]; rfl, ?_⟩
                rw [take_snoc hRj, List.map_append]
                have il : Imm G' (upd (upd G' tq (.tup (((srtN kvs2).filter fun e => decide (wq e = j)).map fun e => V.ref e.2.1))) D3 (.lst (us ++ [.ref tq]))) := (Imm.of z1).trans (Imm.lst (z1 _ _ q2))
                refine (DpAll.imm il _ _ (nls_waysD _) q5).app (.cons ?_ .nil)
                exact Dp.imm (Imm.lst (z1 _ _ q2)) _ _ (by rw [nl, nls_keys]) dn
              · obtain ⟨q1, us, q2, q3, q5⟩ := q
                have hRl : (hWays (hF (toldB ls) f).length kvs2).length = (hF (toldB ls) f).length := by
                  unfold hWays
                  rw [List.length_map, List.length_range]
                rw [List.length_map, al2, List.take_of_length_le (by rw [hRl]; exact Nat.le_refl _)] at q5
                refine ⟨D3, us, rfl, .inl ⟨.inl (.inl q2), fun wa nwa => ?_⟩⟩
                have z2 := q1.trans (same_new (o := .tup us) nwa)
                have dwa : Dp K (upd G' wa (.tup us)) (.ref wa) (.tuple ((hWays (hF (toldB ls) f).length kvs2).map fun r => .tuple (r.map fun e => e.1.data))) := .tup (.inl (.inl upd_same)) (DpAll.same (same_new nwa) _ _ q5)
                have z3 := q9.trans z2
                have hh10 := z3 _ _ hh6
                have dca10 := Dp.same z3 _ _ dca6
                have nd10 := nd6.kv (Kv.same (S := []) z3)
                have im10 : Imm (upd G' wa (.tup us)) (upd (upd G' wa (.tup us)) h (.ins T.c_Hall dx (hlf ca tb wa))) := Imm.upd ⟨(fun _ z => nomatch (hh10.symm.trans z)), fun _ _ z => nomatch (hh10.symm.trans z)⟩
                refine ⟨_, rfl, h, T.c_Hall, dx, _, rfl, hh10, T.cl_Hall, T.n_Hall_ways, (by show 2 < 1000; decide), ?_⟩
                refine k _ ((fr6.trans (Fr.same z3)).trans (Fr.putI hh10 (List.mem_cons_self ..))) ⟨dx, ca, tb, wa, shs, ps, f, kvs2, upd_same, ⟨oksh, hpo, cg, tb6⟩, ?_, ?_, ?_⟩
                · exact Dp.imm im10 _ _ (by rw [nl]; exact nls_tups _) dca10
                · exact ⟨by rw [upd_ne nbh]; exact nd10.at_, fun e he => (nd10.keys e he).imm im10⟩
                · exact Dp.imm im10 _ _ (by rw [nl]; exact nls_waysD _) dwa

end NB

namespace NB
open PySem PySem.Spec PyProof.Rows L2 LamX
/-! ### Spots.__init__ -/
theorem sc_Spots___init__ : FnScope ["self", "table"] ["self", "table"] (defScope s_Spots___init__) := ⟨rfl, rfl, rfl, by decide +kernel, rfl, by decide +kernel, by decide +kernel⟩
def spf (tb fu : Addr) : List (Str × V) := putF "further" (.ref fu) (putF "table" (.ref tb) [])
theorem spf_table (tb fu : Addr) : (spf tb fu).lookup ("table" : Str) = some (.ref tb) := by
  unfold spf
  rw [lookup_putF, if_neg (by decide +kernel), lookup_putF, if_pos rfl]
theorem spf_further (tb fu : Addr) : (spf tb fu).lookup ("further" : Str) = some (.ref fu) := by
  unfold spf
  rw [lookup_putF, if_pos rfl]
theorem spf_no (tb fu : Addr) {x : Str} (h1 : ¬ x = "further") (h2 : ¬ x = "table") : (spf tb fu).lookup x = none := by
  unfold spf
  rw [lookup_putF, if_neg h1, lookup_putF, if_neg h2]
  rfl
def sp_Spots___init__ (P : Program) (w : World) (C : Addr) : Sp := fun vs H Q _ => ∃ p dx tb, vs = [.ref p, .ref tb] ∧ H p = some (.ins C dx []) ∧
  ∀ H' fu, Sm [p] H H' → H fu = none → H' p = some (.ins C dx (spf tb fu)) → H' fu = some (DN P w fu []) → Q .non H'
theorem ok_Spots___init__ {P : Program} {w : World} {K : PySem.W.Frag} {mg : Str → Option Value} {base : Heap} (T : Tx K mg)  : FnOk P w K mg base CX0 1 T.a_Spots___init__ T.d_Spots___init__ ["self", "table"] (sp_Spots___init__ P w T.c_Spots) := by
  refine T.F_Spots___init__.ok sc_Spots___init__ (fun vs H Q E h => ?_) (fun cdv A outer s H vs Q E hr h => ?_)
  · obtain ⟨p, dx, tb, rfl, _⟩ := h
    rfl
  · obtain ⟨p, dx, tb, rfl, hp, k⟩ := h
    refine ⟨_, (pss_cons (ps_fld (pv 0) (pv 1) rfl) (pss_one (ps_fld (pv 0) pe_nnew rfl))), ?_⟩
    refine ⟨_, rfl, _, rfl, p, T.c_Spots, dx, [], rfl, hp, T.cl_Spots, T.n_Spots_table, (by show 0 < 1000; decide), ?_⟩
    refine fun fu nfu => ?_
    have npf : p ≠ fu := ne_of_none upd_same nfu
    refine ⟨_, rfl, p, T.c_Spots, dx, _, rfl, (by rw [upd_ne npf]; exact upd_same), T.cl_Spots, T.n_Spots_further, (by show 1 < 1000; decide), ?_⟩
    have nfu0 : H fu = none := by
      rw [upd_ne npf.symm] at nfu
      exact nfu
    refine k _ fu (fun b o e nb => ?_) nfu0 upd_same ?_
    · have nbp : b ≠ p := fun z => nb (List.mem_singleton.mpr z)
      rw [upd_ne nbp, upd_ne (ne_of_none e nfu0), upd_ne nbp]
      exact e
    · rw [upd_ne npf.symm]
      exact upd_same

end NB

namespace NB
open PySem PySem.Spec PyProof.Rows L2 LamX
/-! ### Spots.spot -/
theorem sc_Spots_spot : FnScope ["self", "sign", "parts", "way"] ["self", "sign", "parts"] (defScope s_Spots_spot) := ⟨rfl, rfl, rfl, by decide +kernel, rfl, by decide +kernel, by decide +kernel⟩
/-- all values of a dict are numbers -/
def IntsN (kvs : List NE) : Prop := ∀ e ∈ kvs, ∃ n : Nat, e.2.2 = .int (n : Int)
theorem IntsN.get {kvs : List NE} (h : IntsN kvs) {k : NestedKey} {v : V} (e : valN kvs k = some v) : ∃ n : Nat, v = .int (n : Int) := by
  obtain ⟨b, hb⟩ := valN_mem e
  exact h _ hb
theorem IntsN.put {kvs : List NE} (h : IntsN kvs) (k : NestedKey) (b : Addr) (n : Nat) : IntsN (putN kvs k b (.int (n : Int))) := fun e he => by
  unfold putN at he
  split at he
  · obtain ⟨x, hx, rfl⟩ := List.mem_map.mp he
    unfold repN
    split
    · exact ⟨n, rfl⟩
    · exact h x hx
  · rcases List.mem_append.mp he with z | z
    · exact h e z
    · rw [List.mem_singleton.mp z]
      exact ⟨n, rfl⟩
/-- at p: spots over a table; m the number of further ones -/
structure SpAt (P : Program) (w : World) (K : PySem.W.Frag) (C p dx tb fu : Addr) (kvs : List NE) (m : Nat) (H : Hp) : Prop where
  ins : H p = some (.ins C dx (spf tb fu))
  tab : NDct P w K H tb kvs
  int : IntsN kvs
  fur : ∃ kvs2, NDct P w K H fu kvs2 ∧ IntsN kvs2 ∧ kvs2.length ≤ m
  ne : tb ≠ fu
theorem NDct.imm_put {P : Program} {w : World} {K : PySem.W.Frag} {G : Hp} {a : Addr} {kvs : List NE} (nd : NDct P w K G a kvs) (k : NestedKey) (b : Addr) (v : V) : Imm G (upd G a (DN P w a (putN kvs k b v))) :=
  Imm.upd ⟨fun _ => by rw [nd.at_]; exact DN_tup, fun _ _ => by rw [nd.at_]; exact DN_frz⟩
def sp_Spots_spot (P : Program) (w : World) (K : PySem.W.Frag) (C : Addr) (Tt : List (Addr × Str)) : Sp := fun vs H Q _ => ∃ p dx tb fu kvs m s pt, ∃ ix : List Nat, vs = [.ref p, .str s, .ref pt] ∧ SpAt P w K C p dx tb fu kvs m H ∧ SqT K H pt (ix.map fun i : Nat => V.int (i : Int)) ∧ kvs.length ≤ 1000000 ∧ m ≤ 1000000 ∧
  ∀ H', ∀ n : Nat, SpAt P w K C p dx tb fu kvs (m + 1) H' → Fr Tt [fu] H H' → Q (.int (n : Int)) H'
theorem ok_Spots_spot {P : Program} {w : World} {K : PySem.W.Frag} {mg : Str → Option Value} {base : Heap} (T : Tx K mg) (Tt : List (Addr × Str)) : FnOk P w K mg base CX0 1 T.a_Spots_spot T.d_Spots_spot ["self", "sign", "parts"] (sp_Spots_spot P w K T.c_Spots Tt) := by
  refine T.F_Spots_spot.ok sc_Spots_spot (fun vs H Q E h => ?_) (fun cdv A outer s H vs Q E hr h => ?_)
  · obtain ⟨p, dx, tb, fu, kvs, m, s, pt, ix, rfl, _⟩ := h
    rfl
  · obtain ⟨p, dx, tb, fu, kvs, m, s, pt, ix, rfl, ⟨hp, htb, hti, ⟨kvs2, hfu, hfi, hfl⟩, ne⟩, hs, hl1, hl2, k⟩ := h
    have hu16 := hu16_of hr
    have hzl : 1000000 < sizeLine := by decide
    refine ⟨_, (pss_cons (ps_set (i := 3) sc_Spots_spot.nd rfl (by first | exact Or.inl rfl | exact Or.inr rfl) (pe_tup (pa_cons (pv 1) (pa_cons (pv 2) pa_nil)))) (pss_cons (ps_if (pt_cmp (pc_nin hu16 (pv 3) (pe_fld (pv 0) rfl)) (by rfl)) (pss_one (ps_ret (pe_nget hu16 (pe_fld (pv 0) rfl) (pv 3) (fun _ _ => rfl)))) pss_nil) (pss_one (ps_ret (pe_nsetd hu16 (pe_fld (pv 0) rfl) (pv 3) (pe_op op_add (pe_callB NB.call_lenN (by rfl) T.z_len (by decide +kernel) (pa_cons (pe_fld (pv 0) rfl) pa_nil)) (pe_callB NB.call_lenN (by rfl) T.z_len (by decide +kernel) (pa_cons (pe_fld (pv 0) rfl) pa_nil))) ⟨rfl, rfl, rfl, rfl⟩))))), ?_⟩
    refine ⟨_, rfl, _, rfl, (by show 2 ≤ sizeLine; decide), fun b nb => ?_⟩
    have s1 := same_new (o := .tup [.str s, .ref pt]) nb
    have nk1 : NKey K (upd H b (.tup [.str s, .ref pt])) b (nkey s ix) := nkey_at (.inl (.inl upd_same)) (SqT.same hs s1)
    have htb1 := htb.kv (Kv.same (S := []) s1)
    have hfu1 := hfu.kv (Kv.same (S := []) s1)
    have hp1 := s1 _ _ hp
    have f1 := Fr.same (T := Tt) (S := [fu]) s1
    generalize upd H b (.tup [.str s, .ref pt]) = H1 at nk1 htb1 hfu1 hp1 f1 ⊢
    dsimp only [gName]
    refine seq_open (fun σ' H' => σ' = [some (.ref p), some (.str s), some (.ref pt), some (.ref b)] ∧ H' = H1 ∧ valN kvs (nkey s ix) = none) (fun NX hNX => ?_) (fun σ' H' hJ => ?_)
    · refine ⟨_, rfl, _, rfl, p, T.c_Spots, dx, _, _, rfl, hp1, T.cl_Spots, T.n_Spots_table, spf_table _ _, tb, b, kvs, nkey s ix, rfl, rfl, htb1, nk1, _, rfl, ?_⟩
      cases hv : valN kvs (nkey s ix) with
      | none => exact hNX _ _ ⟨rfl, rfl, hv⟩
      | some v =>
        obtain ⟨n, rfl⟩ := hti.get hv
        refine ⟨_, rfl, p, T.c_Spots, dx, _, _, rfl, hp1, T.cl_Spots, T.n_Spots_table, spf_table _ _, _, rfl, tb, b, kvs, nkey s ix, _, rfl, rfl, htb1, nk1, hv, ?_⟩
        exact k _ n ⟨hp1, htb1, hti, ⟨kvs2, hfu1, hfi, by omega⟩, ne⟩ f1
    · obtain ⟨rfl, rfl, hv⟩ := hJ
      refine ⟨_, rfl, p, T.c_Spots, dx, _, _, rfl, hp1, T.cl_Spots, T.n_Spots_further, spf_further _ _, fu, kvs2, rfl, hfu1, _, rfl, ?_⟩
      refine ⟨_, rfl, p, T.c_Spots, dx, _, _, rfl, hp1, T.cl_Spots, T.n_Spots_table, spf_table _ _, tb, kvs, rfl, htb1, _, rfl, p, T.c_Spots, dx, _, _, rfl, hp1, T.cl_Spots, T.n_Spots_further, spf_further _ _, fu, kvs2, rfl, hfu1, _, _, rfl, rfl, b, kvs2, nkey s ix, rfl, hfu1, nk1, Nat.lt_of_le_of_lt (Nat.le_trans hfl hl2) hzl, fun x hx => ?_, fun hx => ?_⟩
      · obtain ⟨n, rfl⟩ := hfi.get hx
        exact k _ n ⟨hp1, htb1, hti, ⟨kvs2, hfu1, hfi, by omega⟩, ne⟩ f1
      · have e : ((kvs.length : Int) + (kvs2.length : Int)) = ((kvs.length + kvs2.length : Nat) : Int) := (Int.natCast_add _ _).symm
        show Q (.int ((kvs.length : Int) + (kvs2.length : Int))) (upd _ fu (DN P w fu (putN kvs2 (nkey s ix) b (.int ((kvs.length : Int) + (kvs2.length : Int))))))
        rw [e]
        have im := NDct.imm_put hfu1 (nkey s ix) b (.int ((kvs.length + kvs2.length : Nat) : Int))
        have pn : p ≠ fu := fun z => by
          rw [z, hfu1.at_] at hp1
          unfold DN at hp1
          cases hp1
        refine k _ _ ⟨(upd_ne pn).trans hp1, ⟨(upd_ne ne).trans htb1.at_, fun e he => (htb1.keys e he).imm im⟩, hti, ⟨_, hfu1.put nk1 _, hfi.put _ _ _, Nat.le_trans (putN_len ..) (by omega)⟩, ne⟩ (f1.trans (Fr.putN hfu1.at_ (List.mem_singleton.mpr rfl)))

end NB

namespace NB
open PySem PySem.Spec PyProof.Rows L2 LamX
/-! ### Spots.spot_of -/
theorem sc_Spots_spot_of : FnScope ["self", "term"] ["self", "term"] (defScope s_Spots_spot_of) := ⟨rfl, rfl, rfl, by decide +kernel, rfl, by decide +kernel, by decide +kernel⟩
theorem SpAt.kv {P : Program} {w : World} {K : PySem.W.Frag} {C p dx tb fu : Addr} {kvs : List NE} {m : Nat} {H H' : Hp} (h : SpAt P w K C p dx tb fu kvs m H) (e : Kv [fu] H H') : SpAt P w K C p dx tb fu kvs m H' := by
  obtain ⟨hp, htb, hti, ⟨kvs2, hfu, hfi, hfl⟩, ne⟩ := h
  exact ⟨e _ _ hp (fun _ z => nomatch z) (.inr fun _ z => nomatch z), htb.kv e, hti, ⟨kvs2, hfu.kv e, hfi, hfl⟩, ne⟩
theorem SpAt.mono {P : Program} {w : World} {K : PySem.W.Frag} {C p dx tb fu : Addr} {kvs : List NE} {m n : Nat} {H : Hp} (h : SpAt P w K C p dx tb fu kvs m H) (e : m ≤ n) : SpAt P w K C p dx tb fu kvs n H := by
  obtain ⟨hp, htb, hti, ⟨kvs2, hfu, hfi, hfl⟩, ne⟩ := h
  exact ⟨hp, htb, hti, ⟨kvs2, hfu, hfi, Nat.le_trans hfl e⟩, ne⟩
theorem ints_of {f : Tm → V → Prop} (hf : ∀ t v, f t v → ∃ n : Nat, v = .int (n : Int)) {ps : List Tm} {vs : List V} (h : Rels f ps vs) : ∃ ix : List Nat, vs = ix.map fun i : Nat => V.int (i : Int) := by
  induction h with
  | nil => exact ⟨[], rfl⟩
  | cons a b ih =>
    obtain ⟨ix, rfl⟩ := ih
    obtain ⟨n, rfl⟩ := hf _ _ a
    exact ⟨n :: ix, rfl⟩
def sp_Spots_spot_of (P : Program) (w : World) (K : PySem.W.Frag) (C : Addr) (Tt : List (Addr × Str)) : Sp := fun vs H Q _ => ∃ p dx tb fu kvs m v t, vs = [.ref p, v] ∧
  SpAt P w K C p dx tb fu kvs m H ∧ Dp K H v (Tm.data t) ∧ (Tm.pre t).length ≤ 100000 ∧ kvs.length ≤ 1000000 ∧ m ≤ 800000 ∧ Tabs Tt H ∧
  ∀ H', ∀ n : Nat, SpAt P w K C p dx tb fu kvs (m + (Tm.pre t).length) H' → Fr Tt [fu] H H' → Q (.int (n : Int)) H'
def lamSpot : Str := "Spots.spot_of.<locals>.<lambda>"
theorem foldl_succ {α : Type} (l : List α) (a : Nat) : l.foldl (fun (a : Nat) _ => a + 1) a = a + l.length := by
  induction l generalizing a with
  | nil => rfl
  | cons x l ih =>
    rw [List.foldl_cons, ih, List.length_cons]
    omega
theorem ok_Spots_spot_of {P : Program} {w : World} {K : PySem.W.Frag} {mg : Str → Option Value} {base : Heap} (T : Tx K mg) (Tt : List (Addr × Str)) (c Pt : Addr) (CF : CodeFun K "spot_of" "Spots.spot_of" s_Spots_spot_of T.a_Spots_spot_of T.d_Spots_spot_of c) (TB : TabB base mg c Pt)
    (hmT : (Pt, lamSpot) ∈ Tt) (hu : ∀ p ∈ Tt, p.1 = Pt → p.2 = lamSpot) : FnOk P w K mg base CX0 6 T.a_Spots_spot_of T.d_Spots_spot_of ["self", "term"] (sp_Spots_spot_of P w K T.c_Spots Tt) := by
  obtain ⟨oc, od, kV, doc, pm, an, ct, osl, efd, lk, hcd⟩ := CF.ex
  rw [efd] at lk ⊢
  refine fn_of (k := 5) lk hcd sc_Spots_spot_of (fun vs H Q E h => ?_) (fun A outer s H vs Q E hr h => ?_)
  · obtain ⟨p, dx, tb, fu, kvs, m, v, t, rfl, _⟩ := h
    rfl
  · obtain ⟨p, dx, tb, fu, kvs, m, v, t, rfl, hb, hd, hn, hl1, hl2, hT, k⟩ := h
    obtain ⟨goc, god, gkV, gdoc, gpm, gan, gcdv, gct, gosl, gefd, glk, gcd⟩ := T.F_from_within.ex
    have gb := T.b_from_within
    rw [gefd] at glk gb
    let X : Cx := (cxOf CX0 P w K mg base ["self", "term"] "Spots.spot_of" (defScope s_Spots_spot_of) T.a_Spots_spot_of (.ref c) A outer s H E).nox
    have hrX : Room 5 X.A := hr
    have hG := gives_from_within (X := X) T gcdv (hrX.mono (by decide)) Tt
    suffices hh : ∃ t, PSs X (defBody s_Spots_spot_of) t ∧ t { nx := fun _ H' => Q .non H', rt := Q } (L2.start ["self", "term"] [.ref p, v]) H by
      obtain ⟨t, h1, h2⟩ := hh
      exact ⟨t, h1.nox, h2⟩
    refine ⟨_, pss_one (ps_ret (pe_lamP (X := X) (T := Tt) (TT := fwTT K Tt) (x := "from_within") (a := "maker") (ag := "term") (k := 2) (fr := ["self"]) (ps := ["sign", "parts"]) (N := ["sign", "parts", "self"]) (js := [0])
      (msp := fun ws vs H Q => ∃ s pt, ws = [some (.ref p)] ∧ vs = [.str s, .ref pt] ∧ H p = some (.ins T.c_Spots dx (spf tb fu)) ∧ sp_Spots_spot P w K T.c_Spots Tt [.ref p, .str s, .ref pt] H Q E0)
      (by rfl) T.m_from_within T.F_from_within.kp glk gcd gb sc_from_within rfl (.inl rfl) hG TB rfl hmT hu (hrX.mono (by decide)) rfl (show NdefX.ndefB (defScope s_Spots_spot_of) _ ["self"] = true from by decide +kernel) rfl (NdefX.nscope_by (by decide +kernel))
      ?hbind ?hsp ?hbody (pv 1))), ?_⟩
    case hbind =>
      intro q cl pm cv ct us hl
      match us, hl with
      | [_, _], _ => rfl
    case hsp =>
      rintro ws vs H Q ⟨s, pt, _, rfl, _⟩
      rfl
    case hbody =>
      rintro A' outer' s' H' f' c' cl ws vs Q' hr' ⟨sg, pt, rfl, rfl, hs, h⟩
      refine ⟨_, pe_meth (pv 2) T.cl_Spots T.h_Spots_spot (ok_Spots_spot T Tt) (hr'.mono (by decide)) T.b_Spots_spot .nil pass0 (pa_cons (pv 0) (pa_cons (pv 1) pa_nil)), ?_⟩
      exact ⟨_, rfl, p, dx, _, rfl, hs, spf_no _ _ (by decide +kernel) (by decide +kernel), _, rfl, _, rfl, h⟩
    refine ⟨_, rfl, hT, fun H2 c' eN T2 hc => ?_⟩
    have kv2 : Kv [fu] H H2 := fun b o h t _ => eN b o h t
    have hb2 := hb.kv kv2
    have hcS : c' ∉ [fu] := fun z => by
      obtain ⟨kvs2, hfu, _⟩ := hb2.fur
      rw [mem1 z] at hc
      exact DN_code (hfu.at_.symm.trans hc)
    refine ⟨t, Nat, [fu], fun a H => SpAt P w K T.c_Spots p dx tb fu kvs a H, fun _ _ v => ∃ n : Nat, v = .int (n : Int), fun a _ => a + 1, m, Dp.imm (Imm.extN eN) _ _ (Tm.nl_data t) hd, hn, hb2, fun a H1 h b hb => ?_, fun b hb => ?_, fun a H1 H2 h e => h.kv e, fun a x y v h => h, ?_,
      fun v' H' fr hj hr => ?_⟩
    · obtain ⟨kvs2, hfu, _⟩ := h.fur
      rw [mem1 hb, hfu.at_]
      exact fun z => nomatch z
    · obtain ⟨kvs2, hfu, _⟩ := hb2.fur
      rw [mem1 hb, hfu.at_]
      exact ⟨fun _ => DN_tup, fun _ _ => DN_frz⟩
    · rintro i a sg ps vs pt H1 hi ea hj fr hs hl hR Q' q
      obtain ⟨ix, rfl⟩ := ints_of (fun _ _ h => h) hR
      refine ⟨fr.kp c' _ hc hcS (fun ps z => codeO_ne ps z), sg, pt, rfl, rfl, hj.ins, p, dx, tb, fu, kvs, a, sg, pt, ix, rfl, hj, hs, hl1, ?_, fun H' n b1 b2 => q _ H' b1 ⟨n, rfl⟩ b2⟩
      rw [ea, foldl_succ, List.length_take, List.length_reverse]
      omega
    · obtain ⟨n, rfl⟩ := hr
      rw [foldl_succ, List.length_reverse] at hj
      exact k H' n hj ((Fr.mk (Kp.extN eN) (fun _ => T2)).trans fr)

end NB

namespace NB
open PySem PySem.Spec PyProof.Rows L2 LamX
/-! ### Spots.are_one -/
theorem sc_Spots_are_one : FnScope ["self", "one", "other"] ["self", "one", "other"] (defScope s_Spots_are_one) := ⟨rfl, rfl, rfl, by decide +kernel, rfl, by decide +kernel, by decide +kernel⟩
theorem SpAt.mut {P : Program} {w : World} {K : PySem.W.Frag} {C p dx tb fu : Addr} {kvs : List NE} {m : Nat} {H : Hp} (h : SpAt P w K C p dx tb fu kvs m H) : Mut H [fu] := fun b hb => by
  obtain ⟨kvs2, hfu, _⟩ := h.fur
  rw [mem1 hb, hfu.at_]
  exact ⟨fun _ => DN_tup, fun _ _ => DN_frz⟩
def sp_Spots_are_one (P : Program) (w : World) (K : PySem.W.Frag) (C : Addr) (Tt : List (Addr × Str)) : Sp := fun vs H Q _ => ∃ p dx tb fu kvs m v1 t1 v2 t2, vs = [.ref p, v1, v2] ∧
  SpAt P w K C p dx tb fu kvs m H ∧ Dp K H v1 (Tm.data t1) ∧ (Tm.pre t1).length ≤ 100000 ∧ Dp K H v2 (Tm.data t2) ∧ (Tm.pre t2).length ≤ 100000 ∧ kvs.length ≤ 1000000 ∧ m ≤ 100000 ∧ Tabs Tt H ∧
  ∀ H', ∀ b : Bool, Fr Tt [fu] H H' → Q (.bl b) H'
theorem ok_Spots_are_one {P : Program} {w : World} {K : PySem.W.Frag} {mg : Str → Option Value} {base : Heap} (T : Tx K mg) (Tt : List (Addr × Str)) (GSpt : FnOk P w K mg base CX0 6 T.a_Spots_spot_of T.d_Spots_spot_of ["self", "term"] (sp_Spots_spot_of P w K T.c_Spots Tt)) : FnOk P w K mg base CX0 7 T.a_Spots_are_one T.d_Spots_are_one ["self", "one", "other"] (sp_Spots_are_one P w K T.c_Spots Tt) := by
  refine T.F_Spots_are_one.ok sc_Spots_are_one (fun vs H Q E h => ?_) (fun cdv A outer s H vs Q E hr h => ?_)
  · obtain ⟨p, dx, tb, fu, kvs, m, v1, t1, v2, t2, rfl, _⟩ := h
    rfl
  · obtain ⟨p, dx, tb, fu, kvs, m, v1, t1, v2, t2, rfl, hs, hd1, hn1, hd2, hn2, hl, hm, hT, k⟩ := h
    refine ⟨_, (pss_one (ps_ret (pe_cmpR op_eq (pe_meth (pv 0) T.cl_Spots T.h_Spots_spot_of GSpt (hr.mono (by first | decide | omega)) T.b_Spots_spot_of .nil pass0 (pa_cons (pv 1) pa_nil)) (pe_meth (pv 0) T.cl_Spots T.h_Spots_spot_of GSpt (hr.mono (by first | decide | omega)) T.b_Spots_spot_of .nil pass0 (pa_cons (pv 2) pa_nil)) (nomark _)))), ?_⟩
    refine ⟨_, rfl, p, dx, _, rfl, hs.ins, spf_no _ _ (by decide +kernel) (by decide +kernel), _, rfl, p, dx, tb, fu, kvs, m, v1, t1, rfl, hs, hd1, hn1, hl, by omega, hT, fun H1 n1 s1 f1 => ?_⟩
    refine ⟨_, rfl, p, dx, _, rfl, s1.ins, spf_no _ _ (by decide +kernel) (by decide +kernel), _, rfl, p, dx, tb, fu, kvs, m + (Tm.pre t1).length, v2, t2, rfl, s1, Dp.imm (f1.kp.imm ?mu) _ _ (Tm.nl_data t2) hd2, hn2, hl, by omega, f1.tb hT, fun H2 n2 s2 f2 => ?_⟩
    · exact hs.mut
    · refine ⟨rfl, k H2 _ (f1.trans f2)⟩

end NB

namespace NB
open PySem PySem.Spec PyProof.Rows L2 LamX
/-! ### class_of -/
theorem sc_class_of : FnScope ["lore", "term", "table"] ["lore", "term"] (defScope s_class_of) := ⟨rfl, rfl, rfl, by decide +kernel, rfl, by decide +kernel, by decide +kernel⟩
/-- numbers or none -/
def oV : Option Nat → V
  | none => .non
  | some n => .int (n : Int)
def oK : Option Nat → NestedKey
  | none => .none
  | some n => .num (n : Int)
def nkO (s : Str) (ix : List (Option Nat)) : NestedKey := .tup [.text s, .tup (ix.map oK)]
theorem datas_oK {K : PySem.W.Frag} {H : Hp} : ∀ ix : List (Option Nat), DpAll K H (ix.map oV) (NestedKey.datas (ix.map oK))
  | [] => by
    rw [List.map_nil, List.map_nil, NestedKey.datas]
    exact .nil
  | none :: ix => by
    rw [List.map_cons, List.map_cons, NestedKey.datas]
    unfold oV oK
    rw [NestedKey.data]
    exact .cons .non (datas_oK ix)
  | some n :: ix => by
    rw [List.map_cons, List.map_cons, NestedKey.datas]
    unfold oV oK
    rw [NestedKey.data]
    exact .cons (.int _) (datas_oK ix)
theorem depth_oK : ∀ ix : List (Option Nat), NestedKey.depthAll (ix.map oK) = 0
  | [] => by rw [List.map_nil, NestedKey.depthAll]
  | none :: ix => by rw [List.map_cons, NestedKey.depthAll, depth_oK ix]; unfold oK; rw [NestedKey.depth]; rfl
  | some n :: ix => by rw [List.map_cons, NestedKey.depthAll, depth_oK ix]; unfold oK; rw [NestedKey.depth]; rfl
theorem nkO_at {K : PySem.W.Frag} {H : Hp} {b pt : Addr} {s : Str} {ix : List (Option Nat)} (h1 : SqT K H b [.str s, .ref pt]) (h2 : SqT K H pt (ix.map oV)) : NKey K H b (nkO s ix) := by
  refine ⟨?_, ?_⟩
  · unfold nkO
    rw [NestedKey.data, NestedKey.datas, NestedKey.datas, NestedKey.datas, NestedKey.data, NestedKey.data]
    exact .tup h1 (.cons (.str _) (.cons (.tup h2 (datas_oK ix)) .nil))
  · unfold nkO
    rw [NestedKey.depth, NestedKey.depthAll, NestedKey.depthAll, NestedKey.depthAll, NestedKey.depth, NestedKey.depth, depth_oK]
    decide
/-- what the lambda of class_of does -/
def clsM (P : Program) (w : World) (K : PySem.W.Frag) (H : Hp) (ta : Addr) (s : Str) (pt : Addr) (Q : VK) : Prop := ∃ kvs, ∃ ix : List (Option Nat), NDct P w K H ta kvs ∧ IntsN kvs ∧ SqT K H pt (ix.map oV) ∧ ∀ H', ∀ o : Option Nat, Same H H' → Q (oV o) H'
def sp_class_of (P : Program) (w : World) (K : PySem.W.Frag) (C N : Addr) (Tt : List (Addr × Str)) : Sp := fun vs H Q E => ∃ p v d sg ls, vs = [.ref p, v] ∧ LoreAt K C H p sg ls ∧ Jp K H v d ∧ shortD d = true ∧ cntD d ≤ 100000 ∧
  cntL ls ≤ 50000 ∧ ls.length ≤ 50000 ∧ (∀ t ∈ toldB ls, (Tm.pre t).length ≤ 100000) ∧ Tabs Tt H ∧
  (∀ t, d = Tm.data t → fitsD sg.reverse d = true → ∀ H', ∀ o : Option Nat, Fr Tt [] H H' → Q (oV o) H') ∧ (fitsD sg.reverse d = false → ∀ H', Fr Tt [] H H' → E (.ref N) none H')
def lamCls : Str := "class_of.<locals>.<lambda>"
theorem oVs_of {f : Tm → V → Prop} (hf : ∀ t v, f t v → ∃ o : Option Nat, v = oV o) {ps : List Tm} {vs : List V} (h : Rels f ps vs) : ∃ ix : List (Option Nat), vs = ix.map oV := by
  induction h with
  | nil => exact ⟨[], rfl⟩
  | cons a b ih =>
    obtain ⟨ix, rfl⟩ := ih
    obtain ⟨n, rfl⟩ := hf _ _ a
    exact ⟨n :: ix, rfl⟩
theorem ok_class_of {P : Program} {w : World} {K : PySem.W.Frag} {mg : Str → Option Value} {base : Heap} (T : Tx K mg) (Tt : List (Addr × Str)) (c Pt : Addr) (CF : CodeFun K "class_of" "class_of" s_class_of T.a_class_of T.d_class_of c) (TB : TabB base mg c Pt)
    (hmT : (Pt, lamCls) ∈ Tt) (hu : ∀ p ∈ Tt, p.1 = Pt → p.2 = lamCls) (GT : FnOk P w K mg base CX0 4 T.a_Bank_take T.d_Bank_take ["self", "term"] (sp_Bank_take P w K T.c_Bank Tt)) (GAsc : FnOk P w K mg base CX0 5 T.a_ascending T.d_ascending ["bank"] (sp_ascending P w K T.c_Bank Tt)) : FnOk P w K mg base (L2.CX P w) 10 T.a_class_of T.d_class_of ["lore", "term"] (sp_class_of P w K T.c_Lore T.c_NoTerm Tt) := by
  obtain ⟨oc, od, kV, doc, pm, an, ct, osl, efd, lk, hcd⟩ := CF.ex
  rw [efd] at lk ⊢
  refine fn_of (k := 9) lk hcd sc_class_of (fun vs H Q E h => ?_) (fun A outer s H vs Q E hr h => ?_)
  · obtain ⟨p, v, d, sg, ls, rfl, _⟩ := h
    rfl
  · obtain ⟨p, v, d, sg, ls, rfl, hp, j, hsh, hc, hcl, hll, hpre, hT, k1, k2⟩ := h
    obtain ⟨goc, god, gkV, gdoc, gpm, gan, gcdv, gct, gosl, gefd, glk, gcd⟩ := T.F_from_within.ex
    have gb := T.b_from_within
    rw [gefd] at glk gb
    have hu16 := hu16_of hr
    let X : Cx := cxOf (L2.CX P w) P w K mg base ["lore", "term", "table"] "class_of" (defScope s_class_of) T.a_class_of (.ref c) A outer s H E
    have hG := gives_from_within (X := X) T gcdv (hr.mono (by decide)) Tt
    refine ⟨_, (pss_cons (ps_expr (pe_callS (ok_need_term T) (hr.mono (by first | decide | omega)) rfl T.m_need_term T.F_need_term.kp T.b_need_term (fun σ => passAt (takes_of rfl rfl rfl rfl) σ) (pa_cons (pv 0) (pa_cons (pv 1) pa_nil)))) (pss_cons (ps_set (i := 2) sc_class_of.nd rfl (by first | exact Or.inl rfl | exact Or.inr rfl) (pe_fld (pe_make T.mk_Hall (ok_Hall___init__ (P := P) (w := w) T Tt GT GAsc) (hr.mono (by first | decide | omega)) rfl T.m_Hall T.b_Hall___init__ .nil pass0 (pa_cons (pv 0) pa_nil)) rfl)) (pss_one (ps_ret (pe_lamP (X := X) (T := Tt) (TT := fwTT K Tt) (x := "from_within") (a := "maker") (ag := "term") (k := 1) (fr := ["table"]) (ps := ["sign", "parts"]) (N := ["sign", "parts", "table"]) (js := [2]) (msp := fun ws vs H Q => ∃ s pt ta, ws = [some (.ref ta)] ∧ vs = [.str s, .ref pt] ∧ clsM P w K H ta s pt Q) (by rfl) T.m_from_within T.F_from_within.kp glk gcd gb sc_from_within rfl (.inl rfl) hG TB rfl hmT hu (hr.mono (by decide)) rfl (show NdefX.ndefB (defScope s_class_of) _ ["table"] = true from by decide +kernel) rfl (NdefX.nscope_by (by decide +kernel)) ?hbind ?hsp ?hbody (pv 1)))))), ?_⟩
    case hbind =>
      intro q cl pm cv ct us hl
      match us, hl with
      | [_, _], _ => rfl
    case hsp =>
      rintro ws vs H Q ⟨s, pt, ta, _, rfl, _⟩
      rfl
    case hbody =>
      rintro A' outer' s' H' f' c' cl ws vs Q' hr' ⟨sg, pt, ta, rfl, rfl, kvs, ix, nd, hi, hs, h⟩
      have hu16' := hu16_of hr'
      refine ⟨_, pe_nget1 hu16' (pv 2) (pe_tup (pa_cons (pv 0) (pa_cons (pv 1) pa_nil))) ⟨rfl, rfl, rfl, rfl⟩, ?_⟩
      have hzl : 2 ≤ sizeLine := by decide
      refine ⟨_, rfl, ta, kvs, rfl, nd, _, rfl, _, rfl, hzl, fun b nb => ⟨b, kvs, nkO sg ix, rfl, nd.kv (Kv.same (S := []) (same_new nb)), nkO_at (.inl (.inl upd_same)) (SqT.same hs (same_new nb)), ?_⟩⟩
      cases hv : valN kvs (nkO sg ix) with
      | none => exact h _ none (same_new nb)
      | some v =>
        obtain ⟨n, rfl⟩ := hi.get hv
        exact h _ (some n) (same_new nb)
    refine ⟨_, rfl, _, rfl, p, v, d, sg, ls, rfl, hp, j, hsh, hc, fun hf H1 s1 => ?_, fun hf H1 s1 => k2 hf H1 (Fr.same s1)⟩
    obtain ⟨t, rfl⟩ := fits_tm _ _ hf
    have hcn := cnt_data t
    have hp1 := hp.kp (S := []) (fun b o e _ _ => s1 b o e) (fun b z => nomatch z) (fun z => nomatch z)
    refine ⟨_, rfl, fun x dx nx ndx hne => ?_⟩
    have s2 : Same H1 (upd (upd H1 dx (.own x)) x (.ins T.c_Hall dx [])) := fun b o e => by
      rw [upd_ne (ne_of_none e nx), upd_ne (ne_of_none e ndx)]
      exact e
    have hp2 := hp1.kp (S := []) (fun b o e _ _ => s2 b o e) (fun b z => nomatch z) (fun z => nomatch z)
    refine ⟨x, dx, p, sg, ls, rfl, upd_same, hp2, hcl, hll, hpre, (Fr.same (T := Tt) (S := []) (s1.trans s2)).tb hT, fun H2 f2 hA => ⟨rfl, ?_⟩⟩
    obtain ⟨dx', ca, ta, wa, shs, prs, f, kvs, hx, ho, _, nd, _⟩ := hA
    have hi : IntsN kvs := fun e he => by
      obtain ⟨i, s, xs, _, _, _, e2⟩ := ho.tb.of e he
      exact ⟨_, e2⟩
    have f12 : Fr Tt [] H1 H2 := ⟨fun b o e _ z => f2.kp b o (s2 b o e) (fun m => ne_of_none e nx (mem1 m)) z, fun z => f2.tb ((Fr.same (T := Tt) (S := []) s2).tb z)⟩
    have f02 : Fr Tt [] H H2 := (Fr.same s1).trans f12
    refine ⟨x, T.c_Hall, dx', _, _, rfl, hx, T.cl_Hall, T.n_Hall_table, hlf_table _ _ _, ?_⟩
    dsimp only [gName]
    refine ⟨_, rfl, f02.tb hT, fun H3 c' eN T3 hc' => ?_⟩
    have f03 : Fr Tt [] H H3 := f02.trans (Fr.mk (Kp.extN eN) (fun _ => T3))
    have kv3 : Kv [] H2 H3 := fun b o h t _ => eN b o h t
    have nd3 := nd.kv kv3
    refine ⟨t, Unit, [], fun _ H => NDct P w K H ta kvs, fun _ _ v => ∃ o : Option Nat, v = oV o, fun a _ => a, (), Dp.imm (f03.kp.imm (fun b z => nomatch z)) _ _ (Tm.nl_data t) (Jp.dp t v j), by omega, nd3, (fun a H1 h b hb => nomatch hb), (fun b hb => nomatch hb), fun a H1 H2 h e => h.kv e, fun a x y v h => h, ?_, ?_⟩
    · rintro i a sg' ps vs pt H4 hi' ea hj fr hs hl hR Q' q
      obtain ⟨ix, rfl⟩ := oVs_of (fun _ _ h => h) hR
      exact ⟨fr.kp c' _ hc' (fun z => nomatch z) (fun ps z => codeO_ne ps z), sg', pt, ta, rfl, rfl, kvs, ix, hj, hi, hs, fun H5 o s5 => q _ H5 (hj.kv (Kv.same (S := []) s5)) ⟨o, rfl⟩ (Fr.same s5)⟩
    · rintro v' H5 fr hj ⟨o, rfl⟩
      exact k1 t rfl hf H5 o (f03.trans fr)

end NB

namespace NB
open PySem PySem.Spec PyProof.Rows L2 LamX
/-! ### equal -/
theorem sc_equal : FnScope ["lore", "term", "other_term"] ["lore", "term", "other_term"] (defScope s_equal) := ⟨rfl, rfl, rfl, by decide +kernel, rfl, by decide +kernel, by decide +kernel⟩
theorem tabs_smI {H H' : Hp} {T : List (Addr × Str)} {y C dx : Addr} {fs : List (Str × V)} (t : Tabs T H) (e : Sm [y] H H') (hy : H y = some (.ins C dx fs)) : Tabs T H' := fun x hx => by
  obtain ⟨ps, a, b, c⟩ := t x hx
  have no : ∀ d o, H d = some o → o ≠ .ins C dx fs → d ∉ [y] := fun d o h1 h2 m => by
    rw [mem1 m, hy] at h1
    injection h1 with h1
    exact h2 h1.symm
  refine ⟨ps, e _ _ a (no _ _ a fun z => nomatch z), b, fun pos cv hc => ?_⟩
  obtain ⟨d, e1, e2⟩ := c pos cv hc
  exact ⟨d, e1, e _ _ e2 (no _ _ e2 fun z => by unfold CodeO at z; exact nomatch z)⟩
def sp_equal (P : Program) (w : World) (K : PySem.W.Frag) (C N : Addr) (Tt : List (Addr × Str)) : Sp := fun vs H Q E => ∃ p v1 d1 v2 d2 sg ls, vs = [.ref p, v1, v2] ∧ LoreAt K C H p sg ls ∧ Jp K H v1 d1 ∧ shortD d1 = true ∧ cntD d1 ≤ 100000 ∧ Jp K H v2 d2 ∧ shortD d2 = true ∧ cntD d2 ≤ 100000 ∧
  cntL ls ≤ 50000 ∧ ls.length ≤ 50000 ∧ (∀ t ∈ toldB ls, (Tm.pre t).length ≤ 100000) ∧ Tabs Tt H ∧
  (fitsD sg.reverse d1 = true → fitsD sg.reverse d2 = true → ∀ H', ∀ b : Bool, Fr Tt [] H H' → Q (.bl b) H') ∧ (fitsD sg.reverse d1 = false ∨ fitsD sg.reverse d2 = false → ∀ H', Fr Tt [] H H' → E (.ref N) none H')
theorem ok_equal {P : Program} {w : World} {K : PySem.W.Frag} {mg : Str → Option Value} {base : Heap} (T : Tx K mg) (Tt : List (Addr × Str)) (GT : FnOk P w K mg base CX0 4 T.a_Bank_take T.d_Bank_take ["self", "term"] (sp_Bank_take P w K T.c_Bank Tt)) (GAsc : FnOk P w K mg base CX0 5 T.a_ascending T.d_ascending ["bank"] (sp_ascending P w K T.c_Bank Tt)) (GSpt : FnOk P w K mg base CX0 6 T.a_Spots_spot_of T.d_Spots_spot_of ["self", "term"] (sp_Spots_spot_of P w K T.c_Spots Tt)) : FnOk P w K mg base (L2.CX P w) 8 T.a_equal T.d_equal ["lore", "term", "other_term"] (sp_equal P w K T.c_Lore T.c_NoTerm Tt) := by
  refine T.F_equal.okX sc_equal (fun vs H Q E h => ?_) (fun cdv A outer s H vs Q E hr h => ?_)
  · obtain ⟨p, v1, d1, v2, d2, sg, ls, rfl, _⟩ := h
    rfl
  · obtain ⟨p, v1, d1, v2, d2, sg, ls, rfl, hp, j1, hsh1, hc1, j2, hsh2, hc2, hcl, hll, hpre, hT, k1, k2⟩ := h
    refine ⟨_, (pss_cons (ps_expr (pe_callS (ok_need_term T) (hr.mono (by first | decide | omega)) rfl T.m_need_term T.F_need_term.kp T.b_need_term (fun σ => passAt (takes_of rfl rfl rfl rfl) σ) (pa_cons (pv 0) (pa_cons (pv 1) pa_nil)))) (pss_cons (ps_expr (pe_callS (ok_need_term T) (hr.mono (by first | decide | omega)) rfl T.m_need_term T.F_need_term.kp T.b_need_term (fun σ => passAt (takes_of rfl rfl rfl rfl) σ) (pa_cons (pv 0) (pa_cons (pv 2) pa_nil)))) (pss_one (ps_ret (pe_meth (pe_make T.mk_Spots (ok_Spots___init__ T) (hr.mono (by first | decide | omega)) rfl T.m_Spots T.b_Spots___init__ .nil pass0 (pa_cons (pe_fld (pe_make T.mk_Hall (ok_Hall___init__ (P := P) (w := w) T Tt GT GAsc) (hr.mono (by first | decide | omega)) rfl T.m_Hall T.b_Hall___init__ .nil pass0 (pa_cons (pv 0) pa_nil)) rfl) pa_nil)) T.cl_Spots T.h_Spots_are_one (ok_Spots_are_one (P := P) (w := w) T Tt GSpt) (hr.mono (by first | decide | omega)) T.b_Spots_are_one .nil pass0 (pa_cons (pv 1) (pa_cons (pv 2) pa_nil))))))), ?_⟩
    refine ⟨_, rfl, _, rfl, p, v1, d1, sg, ls, rfl, hp, j1, hsh1, hc1, fun hf1 H1 s1 => ?_, fun hf H1 s1 => k2 (.inl hf) H1 (Fr.same s1)⟩
    have hp1 := hp.kp (S := []) (fun b o e _ _ => s1 b o e) (fun b z => nomatch z) (fun z => nomatch z)
    refine ⟨_, rfl, _, rfl, p, v2, d2, sg, ls, rfl, hp1, Jp.same s1 _ _ j2, hsh2, hc2, fun hf2 H2 s2 => ?_, fun hf H2 s2 => k2 (.inr hf) H2 (Fr.same (s1.trans s2))⟩
    obtain ⟨t1, rfl⟩ := fits_tm _ _ hf1
    obtain ⟨t2, rfl⟩ := fits_tm _ _ hf2
    have hn1 := cnt_data t1
    have hn2 := cnt_data t2
    have hp2 := hp1.kp (S := []) (fun b o e _ _ => s2 b o e) (fun b z => nomatch z) (fun z => nomatch z)
    refine ⟨_, rfl, fun x dx nx ndx hne => ?_⟩
    have s3 : Same H2 (upd (upd H2 dx (.own x)) x (.ins T.c_Hall dx [])) := fun b o e => by
      rw [upd_ne (ne_of_none e nx), upd_ne (ne_of_none e ndx)]
      exact e
    have hp3 := hp2.kp (S := []) (fun b o e _ _ => s3 b o e) (fun b z => nomatch z) (fun z => nomatch z)
    have s02 := s1.trans s2
    refine ⟨x, dx, p, sg, ls, rfl, upd_same, hp3, hcl, hll, hpre, (Fr.same (T := Tt) (S := []) (s02.trans s3)).tb hT, fun H3 f3 hA => ⟨rfl, ?_⟩⟩
    obtain ⟨dx', ca, ta, wa, shs, prs, f, kvs, hx, ho, _, nd, _⟩ := hA
    have hi : IntsN kvs := fun e he => by
      obtain ⟨i, s, xs, _, _, _, e2⟩ := ho.tb.of e he
      exact ⟨_, e2⟩
    have f23 : Fr Tt [] H2 H3 := ⟨fun b o e _ z => f3.kp b o (s3 b o e) (fun m => ne_of_none e nx (mem1 m)) z, fun z => f3.tb ((Fr.same (T := Tt) (S := []) s3).tb z)⟩
    have f03 : Fr Tt [] H H3 := (Fr.same s02).trans f23
    refine ⟨x, T.c_Hall, dx', _, _, rfl, hx, T.cl_Hall, T.n_Hall_table, hlf_table _ _ _, ?_⟩
    refine fun y dy ny ndy hney => ?_
    have s4 : Same H3 (upd (upd H3 dy (.own y)) y (.ins T.c_Spots dy [])) := fun b o e => by
      rw [upd_ne (ne_of_none e ny), upd_ne (ne_of_none e ndy)]
      exact e
    refine ⟨y, dy, ta, rfl, upd_same, fun H4 fu sm4 nfu hy hfu => ⟨rfl, y, dy, _, rfl, hy, spf_no _ _ (by decide +kernel) (by decide +kernel), _, rfl, _, rfl, ?_⟩⟩
    have k34 : Kp [] H3 H4 := fun b o e _ z => sm4 b o (s4 b o e) (fun m => ne_of_none e ny (mem1 m))
    have f34 : Fr Tt [] H3 H4 := ⟨k34, fun z => tabs_smI (z.ext s4) sm4 upd_same⟩
    have f04 := f03.trans f34
    have kv4 : Kv [] H3 H4 := fun b o e t _ => k34 b o e (fun z => nomatch z) t
    have mu0 : Mut H [] := fun b z => nomatch z
    have hBl : (toldB ls).length ≤ 50000 := by
      have := addLs_len ls []
      rw [List.length_nil] at this
      unfold toldB
      omega
    refine ⟨y, dy, ta, fu, kvs, 0, v1, t1, v2, t2, rfl, ⟨hy, nd.kv kv4, hi, ⟨[], ⟨hfu, (fun e z => nomatch z)⟩, (fun e z => nomatch z), Nat.le_refl _⟩, fun z => ?_⟩, Dp.imm (f04.kp.imm mu0) _ _ (Tm.nl_data t1) (Jp.dp t1 v1 j1), by omega, Dp.imm (f04.kp.imm mu0) _ _ (Tm.nl_data t2) (Jp.dp t2 v2 j2), by omega, ?_, by decide, f04.tb hT, fun H5 b f5 => k1 hf1 hf2 H5 b ?_⟩
    · rw [← z, s4 _ _ nd.at_] at nfu
      cases nfu
    · have := ho.tb.len
      rw [ho.sh.len] at this
      omega
    · refine ⟨fun b o e _ z => f5.kp b o (f04.kp b o e (fun z => nomatch z) z) (fun m => ?_) z, fun z => f5.tb (f04.tb z)⟩
      have q := f03.kp b o e (fun z => nomatch z) z
      rw [mem1 m, s4.free nfu] at q
      cases q

end NB

namespace NB
open PySem PySem.Spec PyProof.Rows L2 LamX
/-! ### sign_text -/
theorem sc_sign_text : FnScope ["sign", "parts"] ["sign", "parts"] (defScope s_sign_text) := ⟨rfl, rfl, rfl, by decide +kernel, rfl, by decide +kernel, by decide +kernel⟩
noncomputable def txS (s : Str) (xs : List Str) : Str := if xs.length = 0 then s else s ++ "(" ++ Txt.join "," xs ++ ")"
theorem txJ_len (sep : Str) (xs : List Str) : (Txt.join sep xs).length ≤ (xs.map (·.length)).sum + xs.length * sep.length := by
  have g : ∀ (l : List Str) (a : Array Nat), (l.foldl (fun acc (p : Str) => acc ++ sep.cps ++ p.cps) a).size = a.size + (l.map (·.length)).sum + l.length * sep.length := fun l => by
    induction l with
    | nil => intro a; simp
    | cons x l ih =>
      intro a
      rw [List.foldl_cons, ih, List.map_cons, List.sum_cons, List.length_cons, Array.size_append, Array.size_append, Nat.add_mul]
      show a.size + sep.length + x.length + _ + _ = _
      omega
  cases xs with
  | nil => exact Nat.zero_le _
  | cons x l =>
    have := g l x.cps
    show (l.foldl (fun acc (p : Str) => acc ++ sep.cps ++ p.cps) x.cps).size ≤ _
    rw [this, List.map_cons, List.sum_cons, List.length_cons, Nat.add_mul]
    show x.length + _ + _ ≤ _
    omega
def sp_sign_text (K : PySem.W.Frag) : Sp := fun vs H Q _ => ∃ s pt, ∃ xs : List Str, vs = [.str s, .ref pt] ∧ SqT K H pt (xs.map V.str) ∧ s.length + (xs.map (·.length)).sum + xs.length ≤ 11000000 ∧ Q (.str (txS s xs)) H
theorem ok_sign_text {P : Program} {w : World} {K : PySem.W.Frag} {mg : Str → Option Value} {base : Heap} (T : Tx K mg)  : FnOk P w K mg base CX0 1 T.a_sign_text T.d_sign_text ["sign", "parts"] (sp_sign_text K) := by
  refine T.F_sign_text.ok sc_sign_text (fun vs H Q E h => ?_) (fun cdv A outer s H vs Q E hr h => ?_)
  · obtain ⟨s, pt, xs, rfl, _⟩ := h
    rfl
  · obtain ⟨s, pt, xs, rfl, hs, hl, k⟩ := h
    refine ⟨_, (pss_cons (ps_if (pt_cmpR op_eq (pe_callB call_len_seq (by rfl) T.z_len (by decide +kernel) (pa_cons (pv 1) pa_nil)) pe_int (nomark _)) (pss_one (ps_ret (pv 0))) pss_nil) (pss_one (ps_ret (pe_op op_add_str (pe_op op_add_str (pe_op op_add_str (pv 0) pe_str) (pe_join pe_str (pv 1))) pe_str)))), ?_⟩
    refine ⟨_, rfl, pt, _, rfl, .inr hs, rfl, _, rfl, ?_⟩
    have hj := txJ_len "," xs
    have e1 : (",":Str).length = 1 := by decide +kernel
    have e2 : ("(":Str).length = 1 := by decide +kernel
    have e3 : (")":Str).length = 1 := by decide +kernel
    have hz : sizeLine = 16777216 := by decide
    rw [e1] at hj
    by_cases z : xs.length = 0
    · dsimp only
      rw [if_pos (show decide (V.int (((xs.map V.str).length : Nat) : Int) = V.int 0) = true from by rw [List.length_map, z]; rfl)]
      unfold txS at k
      rw [if_pos z] at k
      exact ⟨_, rfl, k⟩
    · dsimp only
      rw [if_neg (show ¬ decide (V.int (((xs.map V.str).length : Nat) : Int) = V.int 0) = true from by
        rw [List.length_map]
        intro q
        have q := of_decide_eq_true q
        injection q with q
        omega)]
      unfold txS at k
      rw [if_neg z] at k
      refine ⟨_, rfl, _, _, rfl, rfl, ?_, ⟨_, rfl⟩, _, rfl, _, pt, xs, rfl, rfl, .inr hs, by rw [e1]; omega, _, _, rfl, rfl, ?_, _, _, rfl, rfl, ?_, k⟩
      · rw [e2, hz]
        omega
      · rw [PySem.Str.length_append, e2, hz]
        omega
      · rw [PySem.Str.length_append, PySem.Str.length_append, e2, e3, hz]
        omega

end NB

namespace NB
open PySem PySem.Spec PyProof.Rows L2 LamX
/-! ### text_of -/
theorem sc_text_of : FnScope ["term"] ["term"] (defScope s_text_of) := ⟨rfl, rfl, rfl, by decide +kernel, rfl, by decide +kernel, by decide +kernel⟩
mutual
noncomputable def txT : Tm → Str
  | .mk s ps => txS s (txTs ps)
noncomputable def txTs : List Tm → List Str
  | [] => []
  | t :: ts => txT t :: txTs ts
end
theorem txTs_map : ∀ ps : List Tm, txTs ps = ps.map txT
  | [] => rfl
  | t :: ps => by rw [txTs, txTs_map ps]; rfl
/-- no sign is long -/
def Sh100 (l : List Tm) : Prop := ∀ s ps, Tm.mk s ps ∈ l → s.length ≤ 100
theorem txS_len {s : Str} {xs : List Str} : (txS s xs).length ≤ s.length + (xs.map (·.length)).sum + xs.length + 2 := by
  have hj := txJ_len "," xs
  have e1 : (",":Str).length = 1 := by decide +kernel
  have e2 : ("(":Str).length = 1 := by decide +kernel
  have e3 : (")":Str).length = 1 := by decide +kernel
  rw [e1] at hj
  unfold txS
  split
  · omega
  · rw [PySem.Str.length_append, PySem.Str.length_append, PySem.Str.length_append, e2, e3]
    omega
mutual
theorem txT_len : ∀ t : Tm, Sh100 (Tm.pre t) → (txT t).length + 1 ≤ 103 * (Tm.pre t).length
  | .mk s ps, h => by
    rw [Tm.pre] at h ⊢
    have h1 := h s ps (List.mem_cons_self ..)
    have h2 := txTs_len ps fun s' ps' m => h s' ps' (List.mem_cons_of_mem _ m)
    have h3 := @txS_len s (txTs ps)
    rw [txT, List.length_cons]
    omega
theorem txTs_len : ∀ ps : List Tm, Sh100 (Tm.pres ps) → ((txTs ps).map (·.length)).sum + (txTs ps).length ≤ 103 * (Tm.pres ps).length
  | [], _ => Nat.le_refl _
  | t :: ps, h => by
    rw [Tm.pres] at h ⊢
    have h1 := txT_len t fun s' ps' m => h s' ps' (List.mem_append_left _ m)
    have h2 := txTs_len ps fun s' ps' m => h s' ps' (List.mem_append_right _ m)
    rw [txTs, List.map_cons, List.sum_cons, List.length_cons, List.length_append]
    omega
end
def sp_text_of (K : PySem.W.Frag) (Tt : List (Addr × Str)) : Sp := fun vs H Q _ => ∃ v t, vs = [v] ∧ Dp K H v (Tm.data t) ∧ (Tm.pre t).length ≤ 100000 ∧ Sh100 (Tm.pre t) ∧ ∀ H', Fr Tt [] H H' → Q (.str (txT t)) H'
theorem ok_text_of {P : Program} {w : World} {K : PySem.W.Frag} {mg : Str → Option Value} {base : Heap} (T : Tx K mg) (Tt : List (Addr × Str)) : FnOk P w K mg base CX0 5 T.a_text_of T.d_text_of ["term"] (sp_text_of K Tt) := by
  refine T.F_text_of.ok sc_text_of (fun vs H Q E h => ?_) (fun cdv A outer s H vs Q E hr h => ?_)
  · obtain ⟨v, t, rfl, _⟩ := h
    rfl
  · obtain ⟨v, t, rfl, hd, hn, hs, k⟩ := h
    obtain ⟨goc, god, gkV, gdoc, gpm, gan, gcdv, gct, gosl, gefd, glk, gcd⟩ := T.F_from_within.ex
    have gb := T.b_from_within
    rw [gefd] at glk gb
    have hG := gives0_from_within (X := (cxOf CX0 P w K mg base ["term"] "text_of" (defScope s_text_of) T.a_text_of cdv A outer s H E).nox) T gcdv (hr.mono (by decide)) Tt
    refine ⟨_, pss_one (ps_ret (pe_defP (TT := fwTT K Tt) (x := "from_within") (y := "sign_text") (a := "maker") (ag := "term") (k := 1) (by rfl) T.m_from_within T.F_from_within.kp glk gcd gb sc_from_within rfl (.inl rfl) hG
      (by rfl) T.m_sign_text (ok_sign_text T) T.F_sign_text.kp T.b_sign_text (hr.mono (by decide)) (pv 0))), ?_⟩
    refine ⟨_, rfl, _, rfl, t, Unit, [], fun _ _ => True, fun _ t v => v = .str (txT t), fun a _ => a, (), hd, hn, trivial, (fun a H1 h b hb => nomatch hb), (fun b hb => nomatch hb), (fun a H1 H2 h e => trivial), (fun a x y v h => h), ?_, ?_⟩
    · rintro i a sg ps vs pt H4 hi' ea hj fr hs4 hl hR Q' q
      have em : vs = (txTs ps).map V.str := by
        rw [txTs_map]
        clear hs4 hl q hi'
        induction hR with
        | nil => rfl
        | cons a b ih => rw [a, ih]; rfl
      have hm : Tm.mk sg ps ∈ Tm.pre t := List.mem_reverse.mp (List.mem_of_getElem? hi')
      have h1 := hs _ _ hm
      have sub : ∀ x ∈ Tm.pres ps, x ∈ Tm.pre t := fun x m => pre_trans t _ x hm (by rw [Tm.pre]; exact List.mem_cons_of_mem _ m)
      have h2 := txTs_len ps fun s' ps' m => hs s' ps' (sub _ m)
      have h3 := pre_mem_len t _ hm
      rw [Tm.pre, List.length_cons] at h3
      rw [em] at hs4
      refine ⟨sg, pt, txTs ps, rfl, hs4, by omega, q _ H4 trivial ?_ (Fr.refl _)⟩
      show V.str _ = V.str (txT (.mk sg ps))
      rw [txT]
    · rintro v' H5 fr hj rfl
      exact k H5 fr

end NB

namespace NB
open PySem PySem.Spec PyProof.Rows L2 LamX
/-! ### term_text -/
theorem sc_term_text : FnScope ["lore", "term"] ["lore", "term"] (defScope s_term_text) := ⟨rfl, rfl, rfl, by decide +kernel, rfl, by decide +kernel, by decide +kernel⟩
/-- signs of a list are short -/
theorem fits_signs {sg : List Sg} (hw : ∀ q ∈ sg, q.1.length ≤ 100) : (∀ t : Tm, fitsD sg (Tm.data t) = true → Sh100 (Tm.pre t)) := by
  intro t h s ps m
  have h1 := pre_fit sg t _ h m
  rw [Tm.data, fitsD_node, Bool.and_eq_true_iff] at h1
  cases e : lookS sg s with
  | none =>
    rw [e] at h1
    exact absurd h1.1 (fun z => nomatch z)
  | some n => exact hw _ (lookS_mem e)
def sp_term_text (K : PySem.W.Frag) (C N : Addr) (Tt : List (Addr × Str)) : Sp := fun vs H Q E => ∃ p v d sg ls, vs = [.ref p, v] ∧ LoreAt K C H p sg ls ∧ Jp K H v d ∧ shortD d = true ∧ cntD d ≤ 100000 ∧ (∀ q ∈ sg, q.1.length ≤ 100) ∧ (∀ t, d = Tm.data t → fitsD sg.reverse d = true → ∀ H', Fr Tt [] H H' → Q (.str (txT t)) H') ∧ (fitsD sg.reverse d = false → ∀ H', Fr Tt [] H H' → E (.ref N) none H')
theorem ok_term_text {P : Program} {w : World} {K : PySem.W.Frag} {mg : Str → Option Value} {base : Heap} (T : Tx K mg) (Tt : List (Addr × Str)) : FnOk P w K mg base (L2.CX P w) 6 T.a_term_text T.d_term_text ["lore", "term"] (sp_term_text K T.c_Lore T.c_NoTerm Tt) := by
  refine T.F_term_text.okX sc_term_text (fun vs H Q E h => ?_) (fun cdv A outer s H vs Q E hr h => ?_)
  · obtain ⟨p, v, d, sg, ls, rfl, _⟩ := h
    rfl
  · obtain ⟨p, v, d, sg, ls, rfl, hp, j, hsh, hc, hw, k1, k2⟩ := h
    refine ⟨_, (pss_cons (ps_expr (pe_callS (ok_need_term T) (hr.mono (by first | decide | omega)) rfl T.m_need_term T.F_need_term.kp T.b_need_term (fun σ => passAt (takes_of rfl rfl rfl rfl) σ) (pa_cons (pv 0) (pa_cons (pv 1) pa_nil)))) (pss_one (ps_ret (pe_call (ok_text_of (P := P) (w := w) T Tt) (hr.mono (by first | decide | omega)) rfl T.m_text_of T.F_text_of.kp T.b_text_of .nil pass0 (pa_cons (pv 1) pa_nil))))), ?_⟩
    refine ⟨_, rfl, _, rfl, p, v, d, sg, ls, rfl, hp, j, hsh, hc, fun hf H1 s1 => ?_, fun hf H1 s1 => k2 hf H1 (Fr.same s1)⟩
    obtain ⟨t, rfl⟩ := fits_tm _ _ hf
    have hcn := cnt_data t
    exact ⟨_, rfl, v, t, rfl, Dp.same s1 _ _ (Jp.dp t v j), by omega, fits_signs (fun q m => hw q (List.mem_reverse.mp m)) t hf, fun H2 f2 => k1 t rfl hf H2 ((Fr.same s1).trans f2)⟩

end NB

namespace NB
open PySem PySem.Spec PyProof.Rows L2 LamX
/-! ### _law_draw -/
theorem sc__law_draw : FnScope ["_law_pool_here", "_law_many", "_law_cells", "_law_digit", "_law_mixed"] ["_law_pool_here", "_law_many"] (defScope s__law_draw) := ⟨rfl, rfl, rfl, by decide +kernel, rfl, by decide +kernel, by decide +kernel⟩
def sp__law_draw (K : PySem.W.Frag) : Sp := fun vs H Q _ => ∃ p cs z k cells m, vs = [.ref p, .int m] ∧ 1 ≤ m ∧ m < 1000000 ∧ PoolAt H p cs z k cells ∧ k ≤ 1000000000 ∧
  ∀ H' r cells', Sm [p, cs] H H' → PoolAt H' p cs z (k + 1) cells' → 0 ≤ r → r < m → Q (.int r) H'
theorem ok__law_draw {P : Program} {w : World} {K : PySem.W.Frag} {mg : Str → Option Value} {base : Heap} (T : Tx K mg)  : FnOk P w K mg base CX0 1 T.a__law_draw T.d__law_draw ["_law_pool_here", "_law_many"] (sp__law_draw K) := by
  refine T.F__law_draw.ok sc__law_draw (fun vs H Q E h => ?_) (fun cdv A outer s H vs Q E hr h => ?_)
  · obtain ⟨p, cs, z, k, cells, m, rfl, _⟩ := h
    rfl
  · obtain ⟨p, cs, z, k, cells, m, rfl, m1, m2, hp, hk, q⟩ := h
    have z0 := hp.z0
    have z1 := hp.z1
    have k0 := hp.k0
    refine ⟨_, (pss_cons (ps_asg (pe_op op_add (pe_ix ix_list (pv 0) pe_int (fun _ _ => rfl)) pe_int) (pg_sub (pv 0) pe_int set_list)) (pss_cons (ps_set (i := 2) sc__law_draw.nd rfl (by first | exact Or.inl rfl | exact Or.inr rfl) (pe_ix ix_list (pv 0) pe_int (fun _ _ => rfl))) (pss_cons (ps_if (pt_cmpR op_gt (pe_callB call_len_seq (by rfl) T.z_len (by decide +kernel) (pa_cons (pv 2) pa_nil)) pe_int (nomark _)) (pss_cons (ps_set (i := 3) sc__law_draw.nd rfl (by first | exact Or.inl rfl | exact Or.inr rfl) (pe_op op_mod (pe_callTy call_int1 (by rfl) T.z_int (by decide +kernel) (pa_cons (pe_ix ix_list (pv 2) pe_int (fun _ _ => rfl)) pa_nil)) (pv 1))) (pss_cons (ps_asg (pe_op op_fdiv (pe_callTy call_int1 (by rfl) T.z_int (by decide +kernel) (pa_cons (pe_ix ix_list (pv 2) pe_int (fun _ _ => rfl)) pa_nil)) (pv 1)) (pg_sub (pv 2) pe_int set_list)) (pss_cons (ps_if (pt_cmpR op_eq (pe_ix ix_list (pv 2) pe_int (fun _ _ => rfl)) pe_int (nomark _)) (pss_one (ps_expr (pe_bm PySem.F.plainAttrs_list PySem.F.slot_list_pop PySem.F.type_list_pop mt_popAt (pv 2) (pa_cons pe_int pa_nil)))) pss_nil) (pss_one (ps_ret (pv 3)))))) pss_nil) (pss_cons (ps_set (i := 4) sc__law_draw.nd rfl (by first | exact Or.inl rfl | exact Or.inr rfl) (pe_op op_mod (pe_callTy call_int1 (by rfl) T.z_int (by decide +kernel) (pa_cons (pe_op op_mul (pe_op op_add (pe_ix ix_list (pv 0) pe_int (fun _ _ => rfl)) (pe_op op_mul pe_int (pe_ix ix_list (pv 0) pe_int (fun _ _ => rfl)))) pe_int) pa_nil)) pe_int)) (pss_cons (ps_set (i := 4) sc__law_draw.nd rfl (by first | exact Or.inl rfl | exact Or.inr rfl) (pe_op op_mod (pe_callTy call_int1 (by rfl) T.z_int (by decide +kernel) (pa_cons (pe_op op_mul (pv 4) (pe_op op_add (pe_op op_fdiv (pv 4) pe_int) pe_int)) pa_nil)) pe_int)) (pss_cons (ps_set (i := 4) sc__law_draw.nd rfl (by first | exact Or.inl rfl | exact Or.inr rfl) (pe_op op_mod (pe_callTy call_int1 (by rfl) T.z_int (by decide +kernel) (pa_cons (pe_op op_mul (pv 4) (pe_op op_add (pe_op op_fdiv (pv 4) pe_int) pe_int)) pa_nil)) pe_int)) (pss_one (ps_ret (pe_op op_mod (pe_callTy call_int1 (by rfl) T.z_int (by decide +kernel) (pa_cons (pe_op op_fdiv (pv 4) pe_int) pa_nil)) (pv 1)))))))))), ?_⟩
    refine ⟨_, rfl, p, _, _, _, rfl, rfl, .inl (.inl hp.pool), atI_nat (j := 1) rfl, _, _, rfl, rfl, _, rfl, p, _, _, 1, rfl, rfl, hp.pool, rfl, ?_⟩
    have h1 : upd H p (.lst ([V.int z, .int k, .ref cs].set 1 (.int (k + 1)))) p = some (.lst [.int z, .int (k + 1), .ref cs]) := upd_same
    have h2 : upd H p (.lst ([V.int z, .int k, .ref cs].set 1 (.int (k + 1)))) cs = some (.lst (cells.map V.int)) := (upd_ne hp.ne.symm).trans hp.cel
    have sm1 : Sm [p, cs] H (upd H p (.lst ([V.int z, .int k, .ref cs].set 1 (.int (k + 1))))) := Sm.upd (List.mem_cons_self ..)
    refine ⟨_, rfl, p, _, _, _, rfl, rfl, .inl (.inl h1), atI_nat (j := 2) rfl, ?_⟩
    refine ⟨_, rfl, cs, _, rfl, .inl (.inl (.inl h2)), _, _, rfl, rfl, _, rfl, ?_⟩
    cases cells with
    | nil =>
      refine ⟨_, rfl, p, _, _, _, rfl, rfl, .inl (.inl h1), atI_nat (j := 0) rfl, _, rfl, p, _, _, _, rfl, rfl, .inl (.inl h1), atI_nat (j := 1) rfl, _, _, rfl, rfl, .inl ⟨by decide, by decide⟩, _, _, rfl, rfl,
        _, _, rfl, rfl, .inl ⟨by omega, by omega⟩, .inl ⟨_, rfl, _, _, rfl, rfl, (by decide : (0 : Int) < 2147483647), ?_⟩⟩
      generalize (z + 7919 * (k + 1)) * 48271 = a0
      have b1 : 0 ≤ a0 % 2147483647 ∧ a0 % 2147483647 < 2147483647 := ⟨Int.emod_nonneg _ (by decide), Int.emod_lt_of_pos _ (by decide)⟩
      generalize a0 % 2147483647 = a1 at b1
      refine ⟨_, rfl, _, rfl, _, _, rfl, rfl, ⟨by decide, by decide⟩, _, _, rfl, rfl, _, _, rfl, rfl, .inl ⟨by omega, by omega⟩, .inl ⟨_, rfl, _, _, rfl, rfl, (by decide : (0 : Int) < 2147483647), ?_⟩⟩
      generalize a1 * (a1 / 1009 + 69621) = a2
      have b2 : 0 ≤ a2 % 2147483647 ∧ a2 % 2147483647 < 2147483647 := ⟨Int.emod_nonneg _ (by decide), Int.emod_lt_of_pos _ (by decide)⟩
      generalize a2 % 2147483647 = a3 at b2
      refine ⟨_, rfl, _, rfl, _, _, rfl, rfl, ⟨by decide, by decide⟩, _, _, rfl, rfl, _, _, rfl, rfl, .inl ⟨by omega, by omega⟩, .inl ⟨_, rfl, _, _, rfl, rfl, (by decide : (0 : Int) < 2147483399), ?_⟩⟩
      generalize a3 * (a3 / 2003 + 40692) % 2147483399 = a4
      refine ⟨_, rfl, _, _, rfl, rfl, ⟨by decide, by decide⟩, .inl ⟨_, rfl, _, rfl, _, _, rfl, rfl, (by omega : (0 : Int) < m), ?_⟩⟩
      exact q _ _ [] sm1 ⟨h1, h2, hp.ne, z0, z1, by omega⟩ (Int.emod_nonneg _ (by omega)) (Int.emod_lt_of_pos _ (by omega))
    | cons c cells =>
      have e0 : decide ((0 : Int) < ((((c :: cells).map V.int).length : Nat) : Int)) = true := decide_eq_true (by rw [List.map_cons, List.length_cons]; omega)
      rw [e0]
      refine ⟨_, rfl, cs, _, _, _, rfl, rfl, .inl (.inl h2), atI_nat (j := 0) rfl, .inl ⟨_, rfl, _, rfl, _, _, rfl, rfl, (by omega : (0 : Int) < m), ?_⟩⟩
      have ix0 : ixN ((c :: cells).map V.int).length 0 = some 0 := by
        rw [List.map_cons, List.length_cons]
        unfold ixN
        rw [if_pos (by decide), if_pos (by omega)]
        rfl
      refine ⟨_, rfl, cs, _, _, _, rfl, rfl, .inl (.inl h2), atI_nat (j := 0) rfl, .inl ⟨_, rfl, _, rfl, _, _, rfl, rfl, ⟨by omega, by omega⟩, _, rfl, cs, _, _, 0, rfl, rfl, h2, ix0, ?_⟩⟩
      have m2' : cs ∈ [p, cs] := List.mem_cons_of_mem _ (List.mem_cons_self ..)
      obtain ⟨H1, e1⟩ : ∃ H1, H1 = upd H p (.lst ([V.int z, .int k, .ref cs].set 1 (.int (k + 1)))) := ⟨_, rfl⟩
      rw [← e1] at sm1 h1 h2
      have h3 : upd H1 cs (.lst (((c :: cells).map V.int).set 0 (.int (c / m)))) cs = some (.lst (V.int (c / m) :: cells.map V.int)) := upd_same
      have h3p : ∀ o, upd H1 cs o p = some (.lst [.int z, .int (k + 1), .ref cs]) := fun o => (upd_ne hp.ne).trans h1
      have sm3 := sm1.trans (Sm.upd (o := .lst (((c :: cells).map V.int).set 0 (.int (c / m)))) m2')
      have r0 := Int.emod_nonneg c (by omega : m ≠ 0)
      have r1 := Int.emod_lt_of_pos c (by omega : 0 < m)
      subst e1
      refine ⟨_, rfl, cs, _, _, _, rfl, rfl, .inl (.inl h3), atI_nat (j := 0) rfl, rfl, _, rfl, ?_⟩
      by_cases hz : c / m = 0
      · have sx0 : seqIndex? 0 (V.int (c / m) :: cells.map V.int).length = some 0 := by
          rw [List.length_cons]
          unfold seqIndex?
          simp
          try omega
        have e2 : decide (V.int (c / m) = V.int 0) = true := decide_eq_true (by rw [hz])
        rw [e2]
        refine ⟨_, rfl, .inl ⟨rfl, _, .inl (.inl h3)⟩, cs, _, 0, 0, _, rfl, rfl, h3, by decide, by decide, sx0, rfl, ?_⟩
        refine ⟨_, rfl, q _ _ cells (sm3.trans (Sm.upd m2')) ⟨?_, upd_same, hp.ne, z0, z1, by omega⟩ r0 r1⟩
        exact (upd_ne hp.ne).trans (h3p _)
      · have e2 : decide (V.int (c / m) = V.int 0) = false := decide_eq_false fun z => hz (V.int.inj z)
        rw [e2]
        exact ⟨_, rfl, q _ _ (c / m :: cells) sm3 ⟨h3p _, h3, hp.ne, z0, z1, by omega⟩ r0 r1⟩

end NB

namespace NB
open PySem PySem.Spec PyProof.Rows L2 LamX
/-! ### _law_pool -/
theorem sc__law_pool : FnScope ["_law_script", "_law_seed", "_law_cell"] ["_law_script"] (defScope s__law_pool) := ⟨rfl, rfl, rfl, by decide +kernel, rfl, by decide +kernel, by decide +kernel⟩
def sp__law_pool (K : PySem.W.Frag) : Sp := fun vs H Q _ => ∃ (a : Addr) (ns : List Int), vs = [.ref a] ∧ SqL K H a (ns.map V.int) ∧ ns.length ≤ 63 ∧ ∀ H' p cs z cells, Same H H' → H p = none → H cs = none → PoolAt H' p cs z 0 cells → Q (.ref p) H'
theorem ok__law_pool {P : Program} {w : World} {K : PySem.W.Frag} {mg : Str → Option Value} {base : Heap} (T : Tx K mg)  : FnOk P w K mg base CX0 1 T.a__law_pool T.d__law_pool ["_law_script"] (sp__law_pool K) := by
  refine T.F__law_pool.ok sc__law_pool (fun vs H Q E h => ?_) (fun cdv A outer s H vs Q E hr h => ?_)
  · obtain ⟨a, ns, rfl, _⟩ := h
    rfl
  · obtain ⟨a, ns, rfl, hs, hl, k⟩ := h
    have hzl : 100000 < sizeLine := by decide
    refine ⟨_, (pss_cons (ps_set (i := 1) sc__law_pool.nd rfl (by first | exact Or.inl rfl | exact Or.inr rfl) (pe_op op_add (pe_op op_add (pe_op op_mod (pe_callTy call_int1 (by rfl) T.z_int (by decide +kernel) (pa_cons (pe_callB (cr_sum rfl) (by rfl) T.z_sum (by decide +kernel) (pa_cons (pe_slice sl_list (pv 0) po_none (po_some pe_int)) pa_nil)) pa_nil)) pe_int) (pe_callB call_len_seq (by rfl) T.z_len (by decide +kernel) (pa_cons (pv 0) pa_nil))) pe_int)) (pss_cons (ps_for PassesOwn.never rfl (pi_list (pe_slice sl_list (pv 0) po_none (po_some pe_int))) (pg_name (i := 2) sc__law_pool.nd rfl (by first | exact Or.inl rfl | exact Or.inr rfl)) (pss_one (ps_set (i := 1) sc__law_pool.nd rfl (by first | exact Or.inl rfl | exact Or.inr rfl) (pe_op op_mod (pe_callTy call_int1 (by rfl) T.z_int (by decide +kernel) (pa_cons (pe_op op_add (pe_op op_add (pe_op op_mul (pv 1) pe_int) (pe_op op_mod (pe_callTy call_int1 (by rfl) T.z_int (by decide +kernel) (pa_cons (pv 2) pa_nil)) pe_int)) pe_int) pa_nil)) pe_int)))) (pss_one (ps_ret (pe_lst (pa_cons (pv 1) (pa_cons pe_int (pa_cons (pe_lc (own := [("_law_cell", 2)]) rfl sc__law_pool.nd (pi_list (pe_slice sl_list (pv 0) po_none (po_some pe_int))) (blkOk_by (own := [("_law_cell", 2)]) (N := ["_law_script", "_law_seed", "_law_cell"]) (sc := defScope s__law_pool) (by decide +kernel)) (fun _ _ _ _ _ => (pg_name (i := 2) sc__law_pool.nd rfl (by first | exact Or.inl rfl | exact Or.inr rfl))) (fun _ _ _ _ _ => (pts_one (pt_cmpR op_ge (pe_callB call_abs (by rfl) T.z_abs (by decide +kernel) (pa_cons (pv 2) pa_nil)) (pe_op op_pow pe_int pe_int) (nomark _)))) (fun _ _ _ _ _ => (pe_callB call_abs (by rfl) T.z_abs (by decide +kernel) (pa_cons (pv 2) pa_nil)))) pa_nil)))))))), ?_⟩
    refine ⟨_, rfl, 1, rfl, a, _, rfl, hs, fun p np => ?_⟩
    have c1 := cutV_take ns 1
    have s1 := same_new (o := .lst (cutV (ns.map V.int) none (some 1))) np
    refine ⟨p, ns.take 1, rfl, .inl (.inl (by rw [← c1]; exact upd_same)), .inl ⟨_, rfl, _, _, rfl, rfl, (by decide : (0 : Int) < 1000003), _, rfl, a, _, rfl, .inl (L2.Same.seq s1 hs), _, _, rfl, rfl, _, _, rfl, rfl, ?_⟩⟩
    have b0 : 0 ≤ (ns.take 1).sum % 1000003 ∧ (ns.take 1).sum % 1000003 < 1000003 := ⟨Int.emod_nonneg _ (by decide), Int.emod_lt_of_pos _ (by decide)⟩
    generalize (ns.take 1).sum % 1000003 = s0 at b0
    refine ⟨_, rfl, 63, rfl, a, _, rfl, L2.Same.seq s1 hs, fun q nq => ?_⟩
    have c63 := cutV_take ns 63
    have e63 : ns.take 63 = ns := List.take_of_length_le hl
    rw [e63] at c63
    have s2 := s1.trans (same_new (o := .lst (cutV (ns.map V.int) none (some 63))) nq)
    have hq : upd (upd H p (.lst (cutV (ns.map V.int) none (some 1)))) q (.lst (cutV (ns.map V.int) none (some 63))) q = some (.lst (ns.map V.int)) := by rw [upd_same]; exact congrArg (fun l => some (HO.lst l)) c63
    refine ⟨q, rfl, ⟨_, .inl (.inl hq)⟩, for_list (K := K) (a := q) (xs := ns.map V.int) (fun i σ H' => H' = upd (upd H p (.lst (cutV (ns.map V.int) none (some 1)))) q (.lst (cutV (ns.map V.int) none (some 63))) ∧ ∃ z w, σ = [some (.ref a), some (.int z), w] ∧ 0 ≤ z ∧ z < 2147483647)
      ⟨rfl, _, _, rfl, by omega, by rw [List.length_map]; omega⟩ (fun i σ H' _ ⟨e, _⟩ => by rw [e]; exact .inl (.inl hq)) (fun i x σ H' hx ⟨e, z, w, e1, z0, z1⟩ => ?_) (fun σ H' ⟨e, z, w, e1, z0, z1⟩ => ?_)⟩
    · subst e e1
      obtain ⟨c, rfl⟩ : ∃ c, x = V.int c := by
        rw [List.getElem?_map] at hx
        cases e : ns[i]? with
        | none => rw [e] at hx; cases hx
        | some u => rw [e] at hx; exact ⟨u, (Option.some.inj hx).symm⟩
      refine ⟨_, rfl, _, _, rfl, rfl, .inl ⟨by omega, by omega⟩, _, rfl, .inl ⟨_, rfl, _, _, rfl, rfl, (by decide : (0 : Int) < 2147483629), _, _, rfl, rfl, _, _, rfl, rfl, .inl ⟨_, rfl, _, _, rfl, rfl, (by decide : (0 : Int) < 2147483647), ?_⟩⟩⟩
      exact ⟨rfl, _, _, rfl, Int.emod_nonneg _ (by decide), Int.emod_lt_of_pos _ (by decide)⟩
    · subst e e1
      refine ⟨_, rfl, _, rfl, 63, rfl, a, _, rfl, L2.Same.seq s2 hs, fun r nr => ?_⟩
      have s3 := s2.trans (same_new (o := .lst (cutV (ns.map V.int) none (some 63))) nr)
      refine ⟨r, rfl, ⟨_, .inl (.inl upd_same)⟩, fun D nD => ?_⟩
      have hr4 : upd (upd (upd H p (.lst (cutV (ns.map V.int) none (some 1)))) q (.lst (cutV (ns.map V.int) none (some 63)))) r (.lst (cutV (ns.map V.int) none (some 63))) r = some (.lst (ns.map V.int)) := by rw [upd_same]; exact congrArg (fun l => some (HO.lst l)) c63
      have hlm : (ns.map V.int).length = ns.length := List.length_map _
      have nrD : r ≠ D := ne_of_none hr4 nD
      have hD0 := s3.free nD
      refine lc_list (K := K) (a := r) (xs := ns.map V.int) (fun i H' => Same H H' ∧ H' r = some (.lst (ns.map V.int)) ∧ H' D = some (.lst (((ns.take i).filter bigI).map fun c => V.int (absI c))))
        ⟨s3.upd hD0, (upd_ne nrD).trans hr4, upd_same⟩ (fun i H' _ q => .inl (.inl q.2.1)) (fun i x H' hx q => ?_) (fun H' q => ?_)
      · obtain ⟨c, hc, rfl⟩ : ∃ c, ns[i]? = some c ∧ x = V.int c := by
          rw [List.getElem?_map] at hx
          cases e : ns[i]? with
          | none => rw [e] at hx; cases hx
          | some u => rw [e] at hx; exact ⟨u, rfl, (Option.some.inj hx).symm⟩
        refine ⟨rfl, _, rfl, c, rfl, _, _, rfl, rfl, ⟨by decide, by decide, by decide⟩, _, _, rfl, rfl, _, rfl, ?_⟩
        show if bigI c = true then _ else _
        have hft := filter_take (f := bigI) hc
        have hi : i < ns.length := (List.getElem?_eq_some_iff.mp hc).1
        cases e : bigI c with
        | true =>
          rw [e, if_pos rfl] at hft
          refine ⟨_, rfl, c, rfl, _, q.2.2, ?_, q.1.upd hD0, (upd_ne nrD).trans q.2.1, ?_⟩
          · have h1 := List.length_filter_le bigI (ns.take i)
            rw [List.length_map]
            rw [List.length_take] at h1
            omega
          · rw [upd_same, hft, List.map_append]
            rfl
        | false =>
          rw [e, if_neg (by decide), List.append_nil] at hft
          refine ⟨q.1, q.2.1, ?_⟩
          rw [hft]
          exact q.2.2
      · rw [hlm, List.take_length] at q
        refine ⟨(by show 3 ≤ sizeLine; decide), fun l nl => ?_⟩
        have nlD : D ≠ l := ne_of_none q.2.2 nl
        exact k _ l D z ((ns.filter bigI).map absI) (q.1.upd (q.1.free nl)) (q.1.free nl) hD0 ⟨upd_same, by rw [upd_ne nlD, q.2.2, List.map_map]; rfl, nlD.symm, z0, z1, Int.le_refl _⟩

end NB

namespace NB
open PySem PySem.Spec PyProof.Rows L2 LamX
/-! ### _law_deep -/
theorem sc__law_deep : FnScope ["_law_thing", "_law_turn"] [] (defScope s__law_deep) := ⟨rfl, rfl, rfl, by decide +kernel, rfl, by decide +kernel, by decide +kernel⟩
def sp__law_deep (K : PySem.W.Frag) : Sp := fun vs H Q _ => vs = [] ∧ ∀ H' p xs, Same H H' → H p = none → H' p = some (.lst xs) → Q (.ref p) H'
theorem ok__law_deep {P : Program} {w : World} {K : PySem.W.Frag} {mg : Str → Option Value} {base : Heap} (T : Tx K mg)  : FnOk P w K mg base CX0 1 T.a__law_deep T.d__law_deep [] (sp__law_deep K) := by
  refine T.F__law_deep.ok sc__law_deep (fun vs H Q E h => ?_) (fun cdv A outer s H vs Q E hr h => ?_)
  · obtain ⟨rfl, _⟩ := h
    rfl
  · obtain ⟨rfl, k⟩ := h
    refine ⟨_, (pss_cons (ps_set (i := 0) sc__law_deep.nd rfl (by first | exact Or.inl rfl | exact Or.inr rfl) (pe_lst (pa_cons pe_non pa_nil))) (pss_cons (ps_for PassesOwn.never rfl (pi_range1 (by rfl) T.z_range (pa_cons pe_int pa_nil)) (pg_name (i := 1) sc__law_deep.nd rfl (by first | exact Or.inl rfl | exact Or.inr rfl)) (pss_one (ps_set (i := 0) sc__law_deep.nd rfl (by first | exact Or.inl rfl | exact Or.inr rfl) (pe_lst (pa_cons (pv 0) pa_nil))))) (pss_one (ps_ret (pv 0))))), ?_⟩
    refine ⟨(by show 1 ≤ sizeLine; decide), fun p np => ?_⟩
    refine ⟨35, rfl, by decide, by decide, for_range (lo := 0) (n := 35) (fun i σ H' => ∃ w q xs, σ = [some (.ref q), w] ∧ Same H H' ∧ H q = none ∧ H' q = some (.lst xs)) ⟨none, p, _, rfl, same_new np, np, upd_same⟩ ?_ ?_⟩
    · rintro i σ H' hi ⟨w, q, xs, rfl, s1, nq, hq⟩
      refine ⟨_, rfl, (by show 1 ≤ sizeLine; decide), fun r nr => ?_⟩
      exact ⟨_, r, _, rfl, s1.trans (same_new nr), s1.free nr, upd_same⟩
    · rintro σ H' ⟨w, q, xs, rfl, s1, nq, hq⟩
      exact ⟨_, rfl, k H' q xs s1 nq hq⟩

end NB

namespace NB
open PySem PySem.Spec PyProof.Rows L2 LamX
/-! ### _law_signs -/
theorem sc__law_signs : FnScope ["_law_pool_here", "_law_some"] ["_law_pool_here"] (defScope s__law_signs) := ⟨rfl, rfl, rfl, by decide +kernel, rfl, by decide +kernel, by decide +kernel⟩
def sp__law_signs (K : PySem.W.Frag) : Sp := fun vs H Q _ => ∃ p cs z k cells, vs = [.ref p] ∧ PoolAt H p cs z k cells ∧ k ≤ 999999990 ∧
  ∀ H' r i j l cells', Sm [p, cs] H H' → SgsAt K H' r (sgOf (1 + i) j l) → i < 3 → j < 4 → l < 3 → PoolAt H' p cs z (k + 3) cells' → Q (.ref r) H'
theorem ok__law_signs {P : Program} {w : World} {K : PySem.W.Frag} {mg : Str → Option Value} {base : Heap} (T : Tx K mg)  : FnOk P w K mg base CX0 2 T.a__law_signs T.d__law_signs ["_law_pool_here"] (sp__law_signs K) := by
  refine T.F__law_signs.ok sc__law_signs (fun vs H Q E h => ?_) (fun cdv A outer s H vs Q E hr h => ?_)
  · obtain ⟨p, cs, z, k, cells, rfl, _⟩ := h
    rfl
  · obtain ⟨p, cs, z, k, cells, rfl, hp, hk, q⟩ := h
    refine ⟨_, (pss_cons (ps_set (i := 1) sc__law_signs.nd rfl (by first | exact Or.inl rfl | exact Or.inr rfl) (pe_slice sl_list (pe_lst (pa_cons (pe_tup (pa_cons pe_str (pa_cons pe_int pa_nil))) (pa_cons (pe_tup (pa_cons pe_str (pa_cons pe_int pa_nil))) (pa_cons (pe_tup (pa_cons pe_str (pa_cons pe_int pa_nil))) pa_nil)))) po_none (po_some (pe_op op_add pe_int (pe_call (ok__law_draw T) (hr.mono (by first | decide | omega)) rfl T.m__law_draw T.F__law_draw.kp T.b__law_draw .nil pass0 (pa_cons (pv 0) (pa_cons pe_int pa_nil))))))) (pss_cons (ps_set (i := 1) sc__law_signs.nd rfl (by first | exact Or.inl rfl | exact Or.inr rfl) (pe_op op_cat (pv 1) (pe_slice sl_list (pe_lst (pa_cons (pe_tup (pa_cons pe_str (pa_cons pe_int pa_nil))) (pa_cons (pe_tup (pa_cons pe_str (pa_cons pe_int pa_nil))) (pa_cons (pe_tup (pa_cons pe_str (pa_cons pe_int pa_nil))) pa_nil)))) po_none (po_some (pe_call (ok__law_draw T) (hr.mono (by first | decide | omega)) rfl T.m__law_draw T.F__law_draw.kp T.b__law_draw .nil pass0 (pa_cons (pv 0) (pa_cons pe_int pa_nil))))))) (pss_cons (ps_set (i := 1) sc__law_signs.nd rfl (by first | exact Or.inl rfl | exact Or.inr rfl) (pe_op op_cat (pv 1) (pe_slice sl_list (pe_lst (pa_cons (pe_tup (pa_cons pe_str (pa_cons pe_int pa_nil))) (pa_cons (pe_tup (pa_cons pe_str (pa_cons pe_int pa_nil))) pa_nil))) po_none (po_some (pe_callB (call_max2 rfl) (by rfl) T.z_max (by decide +kernel) (pa_cons pe_int (pa_cons (pe_op op_sub (pe_call (ok__law_draw T) (hr.mono (by first | decide | omega)) rfl T.m__law_draw T.F__law_draw.kp T.b__law_draw .nil pass0 (pa_cons (pv 0) (pa_cons pe_int pa_nil))) pe_int) pa_nil))))))) (pss_one (ps_ret (pe_callTy call_tupleZ (by rfl) T.z_tuple (by decide +kernel) (pa_cons (pe_callB (call_sortD (u128_of hr)) (by rfl) T.z_sorted (by decide +kernel) (pa_cons (pv 1) pa_nil)) pa_nil))))))), ?_⟩
    refine ⟨(by show 2 ≤ sizeLine; decide), fun t1 n1 => ⟨(by show 2 ≤ sizeLine; decide), fun t2 n2 => ⟨(by show 2 ≤ sizeLine; decide), fun t3 n3 => ⟨(by show 3 ≤ sizeLine; decide), fun l1 nl1 => ?_⟩⟩⟩⟩
    have sA : Same H (upd (upd (upd (upd H t1 (.tup [.str "a", .int 0])) t2 (.tup [.str "b", .int 0])) t3 (.tup [.str "c", .int 0])) l1 (.lst [.ref t1, .ref t2, .ref t3])) := (((same_new n1).trans (same_new n2)).trans (same_new n3)).trans (same_new nl1)
    have n12 : t1 ≠ t2 := ne_of_none upd_same n2
    have n13 : t1 ≠ t3 := ne_of_none ((upd_ne n12).trans upd_same) n3
    have n23 : t2 ≠ t3 := ne_of_none upd_same n3
    have a1 := (same_new (o := .lst [.ref t1, .ref t2, .ref t3]) nl1) t1 _ ((upd_ne n13).trans ((upd_ne n12).trans upd_same))
    have a2 := (same_new (o := .lst [.ref t1, .ref t2, .ref t3]) nl1) t2 _ ((upd_ne n23).trans upd_same)
    have a3 := (same_new (o := .lst [.ref t1, .ref t2, .ref t3]) nl1) t3 _ upd_same
    have dA : DpAll K _ [.ref t1, .ref t2, .ref t3] (sgA.map sg1) := .cons (.tup (.inl (.inl a1)) (.cons (.str _) (.cons (.int _) .nil))) (.cons (.tup (.inl (.inl a2)) (.cons (.str _) (.cons (.int _) .nil))) (.cons (.tup (.inl (.inl a3)) (.cons (.str _) (.cons (.int _) .nil))) .nil))
    have hA1 : upd (upd (upd (upd H t1 (.tup [.str "a", .int 0])) t2 (.tup [.str "b", .int 0])) t3 (.tup [.str "c", .int 0])) l1 (.lst [.ref t1, .ref t2, .ref t3]) l1 = some (.lst [.ref t1, .ref t2, .ref t3]) := upd_same
    have hl1 : l1 ∉ [p, cs] := hp.nn ((((same_new n1).trans (same_new n2)).trans (same_new n3)).free nl1)
    have hpA := hp.same sA
    generalize upd (upd (upd (upd H t1 (.tup [.str "a", .int 0])) t2 (.tup [.str "b", .int 0])) t3 (.tup [.str "c", .int 0])) l1 (.lst [.ref t1, .ref t2, .ref t3]) = HA at sA dA hA1 hpA ⊢
    clear a1 a2 a3 n12 n13 n23 nl1 n1 n2 n3
    refine ⟨_, rfl, p, cs, z, k, cells, 3, rfl, by decide, by decide, hpA, by omega, fun H1 r1 c1 m1 hp1 r10 r11 => ?_⟩
    obtain ⟨i, rfl, hi⟩ := nat_of r10 r11
    have d1 := DpAll.imm (m1.imm hpA.ow) _ _ (nls_sgs sgA) dA
    have h1 := m1 _ _ hA1 hl1
    have g1 : Sm [p, cs] H H1 := (Sm.same sA).trans m1
    refine ⟨_, _, rfl, rfl, _, rfl, l1, _, rfl, .inl (.inl h1), fun l2 nl2 => ?_⟩
    have e1 : cutV [V.ref t1, .ref t2, .ref t3] none (some (1 + (i : Int))) = [V.ref t1, .ref t2, .ref t3].take (1 + i) := by
      rw [show (1 : Int) + (i : Int) = ((1 + i : Nat) : Int) by omega, cutV_takeV]
    rw [e1]
    have d2 := sg_imm (Imm.of (same_new (o := .lst ([V.ref t1, .ref t2, .ref t3].take (1 + i))) nl2)) (sg_take (1 + i) d1)
    have hl2 : l2 ∉ [p, cs] := hp1.nn nl2
    have hp2 := hp1.same (same_new (o := .lst ([V.ref t1, .ref t2, .ref t3].take (1 + i))) nl2)
    have g2 := g1.trans (Sm.same (same_new (o := .lst ([V.ref t1, .ref t2, .ref t3].take (1 + i))) nl2))
    have h2 : upd H1 l2 (.lst ([V.ref t1, .ref t2, .ref t3].take (1 + i))) l2 = some (.lst ([V.ref t1, .ref t2, .ref t3].take (1 + i))) := upd_same
    generalize upd H1 l2 (.lst ([V.ref t1, .ref t2, .ref t3].take (1 + i))) = H2 at d2 hp2 g2 h2 ⊢
    have hx2 : ([V.ref t1, .ref t2, .ref t3].take (1 + i)).length ≤ 3 := by rw [List.length_take]; exact Nat.min_le_right _ _
    generalize [V.ref t1, .ref t2, .ref t3].take (1 + i) = x2 at d2 h2 hx2 ⊢
    clear d1 h1 g1 e1 dA hA1 hpA sA m1 nl2 hp1
    -- some + [('f', 1), ('g', 1), ('h', 1)][:draw(4)]
    refine ⟨_, rfl, (by show 2 ≤ sizeLine; decide), fun t4 n4 => ⟨(by show 2 ≤ sizeLine; decide), fun t5 n5 => ⟨(by show 2 ≤ sizeLine; decide), fun t6 n6 => ⟨(by show 3 ≤ sizeLine; decide), fun l3 nl3 => ?_⟩⟩⟩⟩
    have sB : Same H2 (upd (upd (upd (upd H2 t4 (.tup [.str "f", .int 1])) t5 (.tup [.str "g", .int 1])) t6 (.tup [.str "h", .int 1])) l3 (.lst [.ref t4, .ref t5, .ref t6])) := (((same_new n4).trans (same_new n5)).trans (same_new n6)).trans (same_new nl3)
    have n45 : t4 ≠ t5 := ne_of_none upd_same n5
    have n46 : t4 ≠ t6 := ne_of_none ((upd_ne n45).trans upd_same) n6
    have n56 : t5 ≠ t6 := ne_of_none upd_same n6
    have a4 := (same_new (o := .lst [.ref t4, .ref t5, .ref t6]) nl3) t4 _ ((upd_ne n46).trans ((upd_ne n45).trans upd_same))
    have a5 := (same_new (o := .lst [.ref t4, .ref t5, .ref t6]) nl3) t5 _ ((upd_ne n56).trans upd_same)
    have a6 := (same_new (o := .lst [.ref t4, .ref t5, .ref t6]) nl3) t6 _ upd_same
    have dB : DpAll K _ [.ref t4, .ref t5, .ref t6] (sgB.map sg1) := .cons (.tup (.inl (.inl a4)) (.cons (.str _) (.cons (.int _) .nil))) (.cons (.tup (.inl (.inl a5)) (.cons (.str _) (.cons (.int _) .nil))) (.cons (.tup (.inl (.inl a6)) (.cons (.str _) (.cons (.int _) .nil))) .nil))
    have hB1 : upd (upd (upd (upd H2 t4 (.tup [.str "f", .int 1])) t5 (.tup [.str "g", .int 1])) t6 (.tup [.str "h", .int 1])) l3 (.lst [.ref t4, .ref t5, .ref t6]) l3 = some (.lst [.ref t4, .ref t5, .ref t6]) := upd_same
    have hl3 : l3 ∉ [p, cs] := hp2.nn ((((same_new n4).trans (same_new n5)).trans (same_new n6)).free nl3)
    have hpB := hp2.same sB
    generalize upd (upd (upd (upd H2 t4 (.tup [.str "f", .int 1])) t5 (.tup [.str "g", .int 1])) t6 (.tup [.str "h", .int 1])) l3 (.lst [.ref t4, .ref t5, .ref t6]) = HB at sB dB hB1 hpB ⊢
    clear a4 a5 a6 n45 n46 n56 nl3 n4 n5 n6
    refine ⟨_, rfl, p, cs, z, k + 1, c1, 4, rfl, by decide, by decide, hpB, by omega, fun H3 r2 c2 m3 hp3 r20 r21 => ?_⟩
    obtain ⟨j, rfl, hj⟩ := nat_of r20 r21
    have d3 := sg_imm (m3.imm hpB.ow) dB
    have d2' := sg_imm ((Imm.of sB).trans (m3.imm hpB.ow)) d2
    have h3 := m3 _ _ hB1 hl3
    have h2' := m3 _ _ (sB _ _ h2) hl2
    have g3 := (g2.trans (Sm.same sB)).trans m3
    refine ⟨_, rfl, l3, _, rfl, .inl (.inl h3), fun l4 nl4 => ?_⟩
    rw [cutV_takeV]
    have d4 := sg_imm (Imm.of (same_new (o := .lst ([V.ref t4, .ref t5, .ref t6].take j)) nl4)) (sg_take j d3)
    have d4' := sg_imm (Imm.of (same_new (o := .lst ([V.ref t4, .ref t5, .ref t6].take j)) nl4)) d2'
    have h4' := same_new (o := .lst ([V.ref t4, .ref t5, .ref t6].take j)) nl4 _ _ h2'
    have hp4 := hp3.same (same_new (o := .lst ([V.ref t4, .ref t5, .ref t6].take j)) nl4)
    have g4 := g3.trans (Sm.same (same_new (o := .lst ([V.ref t4, .ref t5, .ref t6].take j)) nl4))
    have h4 : upd H3 l4 (.lst ([V.ref t4, .ref t5, .ref t6].take j)) l4 = some (.lst ([V.ref t4, .ref t5, .ref t6].take j)) := upd_same
    have hx4 : ([V.ref t4, .ref t5, .ref t6].take j).length ≤ 3 := by rw [List.length_take]; exact Nat.min_le_right _ _
    have hz3 : 8 ≤ sizeLine := by decide
    refine ⟨l2, l4, _, _, rfl, rfl, h4', h4, by omega, fun l5 nl5 => ?_⟩
    generalize upd H3 l4 (.lst ([V.ref t4, .ref t5, .ref t6].take j)) = H4 at d4 d4' h4' hp4 g4 h4 nl5 ⊢
    generalize [V.ref t4, .ref t5, .ref t6].take j = x4 at d4 h4 hx4 ⊢
    have d5 := sg_imm (Imm.of (same_new (o := .lst (x2 ++ x4)) nl5)) (sg_app d4' d4)
    have h5 : upd H4 l5 (.lst (x2 ++ x4)) l5 = some (.lst (x2 ++ x4)) := upd_same
    have hp5 := hp4.same (same_new (o := .lst (x2 ++ x4)) nl5)
    have g5 := g4.trans (Sm.same (same_new (o := .lst (x2 ++ x4)) nl5))
    have hl5 : l5 ∉ [p, cs] := hp4.nn nl5
    have hx5 : (x2 ++ x4).length ≤ 6 := by rw [List.length_append]; omega
    generalize upd H4 l5 (.lst (x2 ++ x4)) = H5 at d5 h5 hp5 g5 ⊢
    generalize x2 ++ x4 = x5 at d5 h5 hx5 ⊢
    clear d2 d3 d2' h3 h2' g3 d4 d4' h4' hp4 g4 h4 nl5 dB hB1 hpB sB m3 hp3 g2 hp2 h2 nl4
    refine ⟨_, rfl, (by show 2 ≤ sizeLine; decide), fun t7 n7 => ⟨(by show 2 ≤ sizeLine; decide), fun t8 n8 => ⟨(by show 2 ≤ sizeLine; decide), fun l6 nl6 => ?_⟩⟩⟩
    have sC : Same H5 (upd (upd (upd H5 t7 (.tup [.str "p", .int 2])) t8 (.tup [.str "q", .int 2])) l6 (.lst [.ref t7, .ref t8])) := ((same_new n7).trans (same_new n8)).trans (same_new nl6)
    have n78 : t7 ≠ t8 := ne_of_none upd_same n8
    have a7 := (same_new (o := .lst [.ref t7, .ref t8]) nl6) t7 _ ((upd_ne n78).trans upd_same)
    have a8 := (same_new (o := .lst [.ref t7, .ref t8]) nl6) t8 _ upd_same
    have dC : DpAll K _ [.ref t7, .ref t8] (sgC.map sg1) := .cons (.tup (.inl (.inl a7)) (.cons (.str _) (.cons (.int _) .nil))) (.cons (.tup (.inl (.inl a8)) (.cons (.str _) (.cons (.int _) .nil))) .nil)
    have hC1 : upd (upd (upd H5 t7 (.tup [.str "p", .int 2])) t8 (.tup [.str "q", .int 2])) l6 (.lst [.ref t7, .ref t8]) l6 = some (.lst [.ref t7, .ref t8]) := upd_same
    have hl6 : l6 ∉ [p, cs] := hp5.nn (((same_new n7).trans (same_new n8)).free nl6)
    have hpC := hp5.same sC
    generalize upd (upd (upd H5 t7 (.tup [.str "p", .int 2])) t8 (.tup [.str "q", .int 2])) l6 (.lst [.ref t7, .ref t8]) = HC at sC dC hC1 hpC ⊢
    clear a7 a8 n78 nl6 n7 n8
    refine ⟨_, rfl, p, cs, z, k + 1 + 1, c2, 4, rfl, by decide, by decide, hpC, by omega, fun H6 r3 c3 m6 hp6 r30 r31 => ?_⟩
    obtain ⟨e, re, he⟩ : ∃ e : Nat, (if r3 - 1 > 0 then r3 - 1 else 0) = (e : Int) ∧ e < 3 := by
      by_cases h : r3 - 1 > 0
      · exact ⟨(r3 - 1).toNat, by rw [if_pos h]; omega, by omega⟩
      · exact ⟨0, by rw [if_neg h]; rfl, by omega⟩
    refine ⟨_, _, rfl, rfl, _, _, rfl, ?_⟩
    rw [re]
    have d6 := sg_imm (m6.imm hpC.ow) dC
    have d6' := sg_imm ((Imm.of sC).trans (m6.imm hpC.ow)) d5
    have h6 := m6 _ _ hC1 hl6
    have h6' := m6 _ _ (sC _ _ h5) hl5
    have g6 := (g5.trans (Sm.same sC)).trans m6
    refine ⟨_, rfl, l6, _, rfl, .inl (.inl h6), fun l7 nl7 => ?_⟩
    rw [cutV_takeV]
    have s7 := same_new (o := .lst ([V.ref t7, .ref t8].take e)) nl7
    have d7 := sg_imm (Imm.of s7) (sg_take e d6)
    have d7' := sg_imm (Imm.of s7) d6'
    have h7' := s7 _ _ h6'
    have h7 : upd H6 l7 (.lst ([V.ref t7, .ref t8].take e)) l7 = some (.lst ([V.ref t7, .ref t8].take e)) := upd_same
    have hx7 : ([V.ref t7, .ref t8].take e).length ≤ 2 := by rw [List.length_take]; exact Nat.min_le_right _ _
    refine ⟨l5, l7, _, _, rfl, rfl, h7', h7, by omega, fun l8 nl8 => ?_⟩
    have s8 := s7.trans (same_new (o := .lst (x5 ++ [V.ref t7, .ref t8].take e)) nl8)
    have d8 : DpAll K (upd (upd H6 l7 (.lst ([V.ref t7, .ref t8].take e))) l8 (.lst (x5 ++ [V.ref t7, .ref t8].take e))) (x5 ++ [V.ref t7, .ref t8].take e) ((sgOf (1 + i) j e).map sg1) := sg_imm (Imm.of (same_new (o := .lst (x5 ++ [V.ref t7, .ref t8].take e)) nl8)) (sg_app d7' d7)
    have hpw : ((sgOf (1 + i) j e).map sg1).Pairwise (fun d e => PySem.W.dataLe false (fun x : PyData => x) d e = true) := sg_pair.sublist ((sg_sub (1 + i) j e).map sg1)
    refine ⟨_, rfl, l8, _, (sgOf (1 + i) j e).map sg1, rfl, .inl (.inl upd_same), d8, sgs_alike _, .inl (fun d hd => ?_), (fun d hd => ?_), fun l9 nl9 => ?_⟩
    · obtain ⟨y, _, rfl⟩ := List.mem_map.mp hd
      exact ⟨_, _, rfl⟩
    · obtain ⟨y, _, rfl⟩ := List.mem_map.mp hd
      exact sg_depth y
    · rw [srt_sorted d8.len hpw]
      refine ⟨l9, _, rfl, .inl (.inl upd_same), fun r o o1 o2 nr => ?_⟩
      have s9 := (s8.trans (same_new (o := .lst (x5 ++ [V.ref t7, .ref t8].take e)) nl9)).trans (same_new (o := .frz o (.tup (x5 ++ [V.ref t7, .ref t8].take e))) nr)
      refine q _ r i j e c3 (g6.trans (Sm.same s9)) ⟨_, .inl ⟨o, o1, o2, upd_same⟩, sg_imm (Imm.of ((same_new nl9).trans (same_new nr))) d8⟩ (by omega) (by omega) he ?_
      have hp9 := hp6.same s9
      rw [show k + 1 + 1 + 1 = k + 3 by omega] at hp9
      exact hp9

end NB

namespace NB
open PySem PySem.Spec PyProof.Rows L2 LamX
/-! ### _law_made -/
theorem sc__law_made : FnScope ["_law_spec"] ["_law_spec"] (defScope s__law_made) := ⟨rfl, rfl, rfl, by decide +kernel, rfl, by decide +kernel, by decide +kernel⟩
def sp__law_made (K : PySem.W.Frag) (C : Addr) (Tt : List (Addr × Str)) : Sp := fun vs H Q _ => ∃ a sa lv sg ls, vs = [.ref a] ∧ SqT K H a [.ref sa, lv] ∧
  SgsAt K H sa sg ∧ signsD (sgsD sg) = true ∧ shortD (sgsD sg) = true ∧ Dp K H lv (lnsD ls) ∧ ls.length ≤ 24 ∧ (∀ l ∈ ls, LnOk sg l) ∧ cntL ls ≤ 100000 ∧ (toldB ls).length ≤ 60 ∧ Tabs Tt H ∧
  ∀ H' p, Fr Tt [] H H' → H p = none → LoreAt K C H' p sg ls → Q (.ref p) H'
theorem ok__law_made {P : Program} {w : World} {K : PySem.W.Frag} {mg : Str → Option Value} {base : Heap} (T : Tx K mg) (Tt : List (Addr × Str)) (GT : FnOk P w K mg base CX0 4 T.a_Bank_take T.d_Bank_take ["self", "term"] (sp_Bank_take P w K T.c_Bank Tt)) : FnOk P w K mg base CX0 10 T.a__law_made T.d__law_made ["_law_spec"] (sp__law_made K T.c_Lore Tt) := by
  refine T.F__law_made.ok sc__law_made (fun vs H Q E h => ?_) (fun cdv A outer s H vs Q E hr h => ?_)
  · obtain ⟨a, sa, lv, sg, ls, rfl, _⟩ := h
    rfl
  · obtain ⟨a, sa, lv, sg, ls, rfl, hs, hsg, hok, hsh, hl, hll, hln, hcn, hto, hT, k⟩ := h
    refine ⟨_, (pss_one (ps_ret (pe_make T.mk_Lore (ok_Lore___init__ (P := P) (w := w) T Tt GT) (hr.mono (by first | decide | omega)) rfl T.m_Lore T.b_Lore___init__ .nil pass0 (pa_cons (pe_ix ix_tup (pv 0) pe_int (fun _ _ => rfl)) (pa_cons (pe_ix ix_tup (pv 0) pe_int (fun _ _ => rfl)) pa_nil))))), ?_⟩
    refine ⟨_, rfl, a, _, _, _, rfl, rfl, hs, atI_nat (j := 0) rfl, _, rfl, a, _, _, _, rfl, rfl, hs, atI_nat (j := 1) rfl, ?_⟩
    intro p dx np ndp nex
    have s2 : Same H (upd (upd H dx (.own p)) p (.ins T.c_Lore dx [])) := fun b o e => by
      rw [upd_ne (ne_of_none e np), upd_ne (ne_of_none e ndp)]
      exact e
    refine ⟨p, dx, sa, lv, sg, ls, rfl, upd_same, hsg.imm (Imm.of s2), hok, hsh, Dp.same s2 _ _ hl, hll, hln, hcn, hto, hT.ext s2, fun H2 f2 h2 => ⟨rfl, ?_⟩⟩
    have f3 : Fr Tt [p] H H2 := (Fr.mono (S := []) (Fr.same s2) (fun b z => nomatch z)).trans f2
    have f4 : Fr Tt [] H H2 := f3.drop fun b hb => .inr (by rw [mem1 hb]; exact np)
    have i4 := f4.kp.imm (fun b z => nomatch z)
    exact k H2 p f4 np ⟨dx, sa, lv, h2, hsg.imm i4, Dp.imm i4 _ _ (nl_lnsD ls) hl⟩

end NB

namespace NB
open PySem PySem.Spec PyProof.Rows L2 LamX
/-! ### _law_size -/
theorem sc__law_size : FnScope ["_law_term_here", "_law_part"] ["_law_term_here"] (defScope s__law_size) := ⟨rfl, rfl, rfl, by decide +kernel, rfl, by decide +kernel, by decide +kernel⟩
def sp__law_size (K : PySem.W.Frag) (n : Nat) : Sp := fun vs H Q _ => ∃ v t, vs = [v] ∧ Dp K H v (Tm.data t) ∧ dpt t ≤ n ∧ (Tm.pre t).length ≤ 100000 ∧ ∀ H', Same H H' → Q (.int ((Tm.pre t).length : Int)) H'
theorem ok__law_size {P : Program} {w : World} {K : PySem.W.Frag} {mg : Str → Option Value} {base : Heap} (T : Tx K mg) : ∀ n : Nat, FnOk P w K mg base CX0 n T.a__law_size T.d__law_size ["_law_term_here"] (sp__law_size K n)
  | 0 => FnOk.never fun vs H Q E ⟨v, t, _, _, h, _⟩ => by
    have := dpt_pos t
    omega
  | n + 1 => by
    have GSize := ok__law_size (P := P) (w := w) (base := base) T n
    refine T.F__law_size.ok (k := n) sc__law_size (fun vs H Q E h => ?_) (fun cdv A outer s H vs Q E hr h => ?_)
    · obtain ⟨v, t, rfl, _⟩ := h
      rfl
    · obtain ⟨v, t, rfl, hd, hn, hl, k⟩ := h
      have hzl : 100000 < sizeLine := by decide
      refine ⟨_, (pss_one (ps_ret (pe_op op_add pe_int (pe_callB (cr_sum rfl) (by rfl) T.z_sum (by decide +kernel) (pa_cons (pe_lc (own := [("_law_part", 1)]) rfl sc__law_size.nd (pi_tup (pe_slice sl_tupA (pv 0) (po_some pe_int) po_none)) (blkOk_by (own := [("_law_part", 1)]) (N := ["_law_term_here", "_law_part"]) (sc := defScope s__law_size) (by decide +kernel)) (fun _ _ _ _ _ => (pg_name (i := 1) sc__law_size.nd rfl (by first | exact Or.inl rfl | exact Or.inr rfl))) (fun _ _ _ _ _ => pts_nil) (fun _ _ _ _ _ => (pe_call GSize (hr.mono (by first | decide | omega)) rfl T.m__law_size T.F__law_size.kp T.b__law_size .nil pass0 (pa_cons (pv 1) pa_nil)))) pa_nil))))), ?_⟩
      obtain ⟨a, ys, rfl, hs, hy⟩ := DpAll.ref hd
      obtain ⟨sg, ps⟩ := t
      have hyl : ys.length = ps.length := by rw [hy.len, Tm.datas_len]; rfl
      have hpl := Tm.pres_len ps
      have hpre : (Tm.pre (.mk sg ps)).length = (Tm.pres ps).length + 1 := by rw [Tm.pre, List.length_cons]
      rw [dpt] at hn
      refine ⟨_, rfl, 1, rfl, a, _, rfl, hs, fun z => absurd z (whole_not ys.length none), fun _ p np => ?_⟩
      rw [cutV_tail (α := V)]
      have s1 := same_new (o := .tup ys) np
      refine ⟨p, rfl, ⟨_, .inl (.inl upd_same)⟩, fun D nD => ?_⟩
      have npD : p ≠ D := ne_of_none upd_same nD
      have nD0 := s1.free nD
      refine lc_tup (K := K) (a := p) (xs := ys) (fun i H' => Same (upd H p (.tup ys)) H' ∧ H' D = some (.lst ((ps.take i).map fun t => V.int ((Tm.pre t).length : Int))))
        ⟨same_new nD, upd_same⟩ (fun i H' _ q => SqT.same (.inl (.inl upd_same)) q.1) (fun i x H' hx q => ?_) (fun H' q => ?_)
      · have hi : i < ps.length := by
          have := (List.getElem?_eq_some_iff.mp hx).1
          omega
        have hti : ps[i]? = some ps[i] := List.getElem?_eq_getElem hi
        have hm : ps[i] ∈ ps := List.getElem_mem hi
        have hdi : (Tm.datas ps)[i]? = some ps[i].data := by rw [Tm.datas_map, List.getElem?_map, hti]; rfl
        have hpd := dpts_mem hm
        have hpt := part_lt ps _ hm
        refine ⟨rfl, _, rfl, x, ps[i], rfl, Dp.same (s1.trans q.1) _ _ (hy.get hx hdi), by omega, by omega, fun H2 s2 => ⟨_, s2 _ _ q.2, ?_, (q.1.trans s2).upd nD, ?_⟩⟩
        · rw [List.length_map, List.length_take]
          omega
        · rw [upd_same, take_snoc hti, List.map_append]
          rfl
      · rw [hyl, List.take_length] at q
        refine ⟨D, ps.map fun t => ((Tm.pre t).length : Int), rfl, .inl (.inl (by rw [q.2, List.map_map]; rfl)), _, _, rfl, rfl, ?_⟩
        rw [sum_pres]
        have kk := k _ (s1.trans q.1)
        rw [hpre, show (((Tm.pres ps).length + 1 : Nat) : Int) = 1 + ((Tm.pres ps).length : Int) by omega] at kk
        exact kk

end NB

namespace NB
open PySem PySem.Spec PyProof.Rows L2 LamX
/-! ### _law_term -/
theorem sc__law_term : FnScope ["_law_pool_here", "_law_signs_here", "_law_deep_here", "_law_pair", "_law_some", "_law_sign", "_law_places", "_law_place"] ["_law_pool_here", "_law_signs_here", "_law_deep_here"] (defScope s__law_term) := ⟨rfl, rfl, rfl, by decide +kernel, rfl, by decide +kernel, by decide +kernel⟩
def sp__law_term (K : PySem.W.Frag) (n : Nat) : Sp := fun vs H Q _ => ∃ p cs z k cells sa sg, ∃ d : Nat, vs = [.ref p, .ref sa, .int (d : Int)] ∧ PoolAt H p cs z k cells ∧ SgsAt K H sa sg ∧ SgOk sg ∧ d < n ∧ k + (drw d : Nat) ≤ 1000000000 ∧
  ∀ H' v t k' cells', Sm [p, cs] H H' → PoolAt H' p cs z k' cells' → k ≤ k' → k' ≤ k + (drw d : Nat) → Dp K H' v (Tm.data t) → TmDr sg d t → Q v H'
theorem ok__law_term {P : Program} {w : World} {K : PySem.W.Frag} {mg : Str → Option Value} {base : Heap} (T : Tx K mg) : ∀ n : Nat, FnOk P w K mg base CX0 (n + 1) T.a__law_term T.d__law_term ["_law_pool_here", "_law_signs_here", "_law_deep_here"] (sp__law_term K n)
  | 0 => FnOk.never fun vs H Q E ⟨p, cs, z, k, cells, sa, sg, d, _, _, _, _, h, _⟩ => absurd h (Nat.not_lt_zero _)
  | n + 1 => by
    have GTerm := ok__law_term (P := P) (w := w) (base := base) T n
    refine T.F__law_term.ok (k := n + 1) sc__law_term (fun vs H Q E h => ?_) (fun cdv A outer s H vs Q E hr h => ?_)
    · obtain ⟨p, cs, z, k, cells, sa, sg, d, rfl, _⟩ := h
      rfl
    · obtain ⟨p, cs, z, k, cells, sa, sg, d, rfl, hp, hsg, ok, hdn, hk, q⟩ := h
      refine ⟨_, (pss_cons (ps_setLc (i := 4) (own := [("_law_pair", 3)]) rfl sc__law_term.nd rfl rfl (sw_true rfl rfl rfl (by decide +kernel)) (pi_tup (pv 1)) (blkOk_by (own := [("_law_pair", 3)]) (N := ["_law_pool_here", "_law_signs_here", "_law_deep_here", "_law_pair", "_law_some", "_law_sign", "_law_places", "_law_place"]) (sc := defScope s__law_term) (by decide +kernel)) (fun _ _ _ _ _ => (pg_name (i := 3) sc__law_term.nd rfl (by first | exact Or.inl rfl | exact Or.inr rfl))) (fun _ _ _ _ _ => (pts_one (PW.pt (pw_or (pt_cmpR op_eq (pe_ix (show IxR _ (rIxT K) from ix_tup) (pv 3) pe_int (fun _ _ => rfl)) pe_int (nomark _)) (pw_or1 (pt_cmpR op_gt (pv 2) pe_int (nomark _))))))) (fun _ _ _ _ _ => (pv 3))) (pss_cons (ps_if (PW.pt (pw_and (pt_cmpR op_gt (pv 2) pe_int (nomark _)) (pw_and1 (pt_cmpR op_gt (pe_call (ok__law_draw T) (hr.mono (by first | decide | omega)) rfl T.m__law_draw T.F__law_draw.kp T.b__law_draw .nil pass0 (pa_cons (pv 0) (pa_cons pe_int pa_nil))) pe_int (nomark _))))) (pss_one (ps_set (i := 4) sc__law_term.nd rfl (by first | exact Or.inl rfl | exact Or.inr rfl) (pe_op op_cat (pe_lc (own := [("_law_pair", 3)]) rfl sc__law_term.nd (pi_tup (pv 1)) (blkOk_by (own := [("_law_pair", 3)]) (N := ["_law_pool_here", "_law_signs_here", "_law_deep_here", "_law_pair", "_law_some", "_law_sign", "_law_places", "_law_place"]) (sc := defScope s__law_term) (by decide +kernel)) (fun _ _ _ _ _ => (pg_name (i := 3) sc__law_term.nd rfl (by first | exact Or.inl rfl | exact Or.inr rfl))) (fun _ _ _ _ _ => (pts_one (pt_cmpR op_gt (pe_ix (show IxR _ (rIxT K) from ix_tup) (pv 3) pe_int (fun _ _ => rfl)) pe_int (nomark _)))) (fun _ _ _ _ _ => (pv 3))) (pe_slice sl_list (pv 4) po_none (po_some pe_int))))) pss_nil) (pss_cons (ps_asg (pe_ix ix_list (pv 4) (pe_call (ok__law_draw T) (hr.mono (by first | decide | omega)) rfl T.m__law_draw T.F__law_draw.kp T.b__law_draw .nil pass0 (pa_cons (pv 0) (pa_cons (pe_callB call_len_seq (by rfl) T.z_len (by decide +kernel) (pa_cons (pv 4) pa_nil)) pa_nil))) (fun _ _ => rfl)) (pg_tup rfl (pgs_cons (pg_name (i := 5) sc__law_term.nd rfl (by first | exact Or.inl rfl | exact Or.inr rfl)) (pgs_cons (pg_name (i := 6) sc__law_term.nd rfl (by first | exact Or.inl rfl | exact Or.inr rfl)) pgs_nil)))) (pss_one (ps_ret (pe_op op_catA (pe_tup (pa_cons (pv 5) pa_nil)) (pe_callTy call_tuple_of (by rfl) T.z_tuple (by decide +kernel) (pa_cons (pe_lc (own := [("_law_place", 7)]) rfl sc__law_term.nd (pi_range1 (by rfl) T.z_range (pa_cons (pv 6) pa_nil)) (blkOk_by (own := [("_law_place", 7)]) (N := ["_law_pool_here", "_law_signs_here", "_law_deep_here", "_law_pair", "_law_some", "_law_sign", "_law_places", "_law_place"]) (sc := defScope s__law_term) (by decide +kernel)) (fun _ _ _ _ _ => (pg_name (i := 7) sc__law_term.nd rfl (by first | exact Or.inl rfl | exact Or.inr rfl))) (fun _ _ _ _ _ => pts_nil) (fun _ _ _ _ _ => (pe_call GTerm (hr.mono (by first | decide | omega)) rfl T.m__law_term T.F__law_term.kp T.b__law_term .nil pass0 (pa_cons (pv 0) (pa_cons (pv 1) (pa_cons (pe_op op_sub (pv 2) pe_int) pa_nil)))))) pa_nil)))))))), ?_⟩
      obtain ⟨xs, hpl, hxs⟩ := hsg
      have hsT := hpl.sq
      have hxl : xs.length = sg.length := by rw [hxs.len, List.length_map]
      have hfew := ok.few
      have hzl : 100000 < sizeLine := by decide
      have hdw : 1 ≤ drw d := by cases d <;> rw [drw] <;> omega
      have hsgA : SgsAt K H sa sg := ⟨xs, hpl, hxs⟩
      refine ⟨_, rfl, sa, rfl, ⟨_, hsT⟩, fun D nD => ?_⟩
      refine lc_tup (K := K) (a := sa) (xs := xs) (fun i H' => Same H H' ∧ ∃ us, H' D = some (.lst us) ∧ DpAll K H' us (((sg.take i).filter (fA d)).map sg1) ∧ us.length ≤ i)
        ⟨same_new nD, [], upd_same, .nil, Nat.le_refl _⟩ (fun i H' _ h => SqT.same hsT h.1) (fun i x H' hx ⟨h1, us, h2, h3, h4⟩ => ?_) (fun H1 ⟨s1, us, hD, hus, hul⟩ => ?_)
      · have hi : i < sg.length := by
          have := (List.getElem?_eq_some_iff.mp hx).1
          omega
        obtain ⟨e, he⟩ : ∃ e, sg[i]? = some e := ⟨_, List.getElem?_eq_getElem hi⟩
        have hde := hxs.get hx (show (sg.map sg1)[i]? = some (sg1 e) by rw [List.getElem?_map, he]; rfl)
        obtain ⟨a, rfl, ha⟩ := sgAt hde
        have hft := filter_takeS (f := fA d) he
        refine ⟨rfl, _, rfl, a, _, _, _, rfl, rfl, SqT.same ha h1, atI_nat (j := 1) rfl, rfl, _, rfl, ?_⟩
        have fin : ∀ b : Bool, fA d e = b → (if b = true then tVar 3 (L2.start ["_law_pool_here", "_law_signs_here", "_law_deep_here", "_law_pair", "_law_some", "_law_sign", "_law_places", "_law_place"] [.ref p, .ref sa, .int (d : Int)] |>.set 3 (some (.ref a))) H' (fun y H4 => ∃ acc, H4 D = some (.lst acc) ∧ acc.length < sizeLine ∧ (Same H (upd H4 D (.lst (acc ++ [y]))) ∧ ∃ us, upd H4 D (.lst (acc ++ [y])) D = some (.lst us) ∧ DpAll K (upd H4 D (.lst (acc ++ [y]))) us (((sg.take (i + 1)).filter (fA d)).map sg1) ∧ us.length ≤ i + 1)) else (Same H H' ∧ ∃ us, H' D = some (.lst us) ∧ DpAll K H' us (((sg.take (i + 1)).filter (fA d)).map sg1) ∧ us.length ≤ i + 1)) := fun b hb => by
          rw [hb] at hft
          cases b with
          | true =>
            rw [if_pos rfl] at hft ⊢
            refine ⟨_, rfl, us, h2, by omega, h1.upd nD, _, upd_same, ?_, by rw [List.length_append]; show _ + 1 ≤ _; omega⟩
            rw [hft, List.map_append]
            exact (sg_imm (Imm.lst h2) h3).app (.cons (Dp.imm ((Imm.of h1).trans (Imm.lst h2)) _ _ rfl hde) .nil)
          | false =>
            rw [if_neg (by decide), List.append_nil] at hft
            rw [if_neg (by decide), hft]
            exact ⟨h1, us, h2, h3, by omega⟩
        by_cases c1 : e.2 = 0
        · have e1 : decide (V.int e.2 = V.int 0) = true := decide_eq_true (by rw [c1])
          rw [e1]
          exact fin true (by unfold fA; rw [decide_eq_true c1]; rfl)
        · have e1 : decide (V.int e.2 = V.int 0) = false := decide_eq_false fun z => c1 (V.int.inj z)
          rw [e1]
          refine ⟨_, rfl, _, _, rfl, rfl, _, rfl, ?_⟩
          exact fin _ (by unfold fA; rw [decide_eq_false c1]; rfl)
      · rw [hxl, List.take_length] at hus
        have nDp := hp.nn nD
        dsimp only [gName]
        refine seq_open (fun σ' H' => ∃ L us sel k2 c2, σ' = [some (.ref p), some (.ref sa), some (.int (d : Int)), none, some (.ref L), none, none, none] ∧ Sm [p, cs] H H' ∧ PoolAt H' p cs z k2 c2 ∧ k ≤ k2 ∧ (d = 0 → k2 = k) ∧ k2 ≤ k + 1 ∧ H' L = some (.lst us) ∧ L ∉ [p, cs] ∧ DpAll K H' us (sel.map sg1) ∧ sel ≠ [] ∧ (∀ e ∈ sel, e ∈ sg ∧ (d = 0 → e.2 = 0)) ∧ sel.length ≤ 16)
          (fun NX hNX => ?_) (fun σ' H2 h => ?_)
        · obtain ⟨e0, he0, he00⟩ := ok.leaf
          have hsel0 : sg.filter (fA d) ≠ [] := fun z => by
            have : e0 ∈ sg.filter (fA d) := List.mem_filter.mpr ⟨he0, by unfold fA; rw [decide_eq_true he00]; rfl⟩
            rw [z] at this
            cases this
          have hself : ∀ e ∈ sg.filter (fA d), e ∈ sg ∧ (d = 0 → e.2 = 0) := fun e he => by
            obtain ⟨h1, h2⟩ := List.mem_filter.mp he
            refine ⟨h1, fun z => ?_⟩
            unfold fA at h2
            rw [z] at h2
            simpa using h2
          have hsell : (sg.filter (fA d)).length ≤ 8 := Nat.le_trans (List.length_filter_le _ _) hfew
          refine ⟨_, rfl, _, _, rfl, rfl, _, rfl, ?_⟩
          by_cases d0 : 0 < (d : Int)
          · rw [decide_eq_true d0]
            refine ⟨_, rfl, p, cs, z, k, cells, 3, rfl, by decide, by decide, hp.same s1, by omega, fun H2 r c2 sm2 hp2 r0 r1 => ⟨_, _, rfl, rfl, _, rfl, ?_⟩⟩
            have owp := (hp.same s1).ow
            have im2 := (Imm.of s1).trans (sm2.imm owp)
            have hD2 := sm2 _ _ hD nDp
            have sm02 : Sm [p, cs] H H2 := (Sm.same s1).trans sm2
            have hus2 := sg_imm (sm2.imm owp) hus
            by_cases r0' : 0 < r
            · rw [decide_eq_true r0']
              refine ⟨_, rfl, sa, rfl, ⟨_, im2.sq hsT⟩, fun D2 nD2 => ?_⟩
              have hxs2 := sg_imm im2 hxs
              refine lc_tup (K := K) (a := sa) (xs := xs) (fun i H' => Same H2 H' ∧ ∃ us, H' D2 = some (.lst us) ∧ DpAll K H' us (((sg.take i).filter fB).map sg1) ∧ us.length ≤ i)
                ⟨same_new nD2, [], upd_same, .nil, Nat.le_refl _⟩ (fun i H' _ h => SqT.same (im2.sq hsT) h.1) (fun i x H' hx ⟨h1, vs, h2, h3, h4⟩ => ?_) (fun H3 ⟨s3, vs, hV, hvs, hvl⟩ => ?_)
              · have hi : i < sg.length := by
                  have := (List.getElem?_eq_some_iff.mp hx).1
                  omega
                obtain ⟨e, he⟩ : ∃ e, sg[i]? = some e := ⟨_, List.getElem?_eq_getElem hi⟩
                have hde := hxs2.get hx (show (sg.map sg1)[i]? = some (sg1 e) by rw [List.getElem?_map, he]; rfl)
                obtain ⟨a, rfl, ha⟩ := sgAt hde
                have hft := filter_takeS (f := fB) he
                refine ⟨rfl, _, rfl, a, _, _, _, rfl, rfl, SqT.same ha h1, atI_nat (j := 1) rfl, _, _, rfl, rfl, _, rfl, ?_⟩
                by_cases c1 : 0 < e.2
                · have e1 : fB e = true := decide_eq_true c1
                  rw [decide_eq_true c1]
                  rw [e1, if_pos rfl] at hft
                  refine ⟨_, rfl, vs, h2, by omega, h1.upd nD2, _, upd_same, ?_, by rw [List.length_append]; show _ + 1 ≤ _; omega⟩
                  rw [hft, List.map_append]
                  exact (sg_imm (Imm.lst h2) h3).app (.cons (Dp.imm ((Imm.of h1).trans (Imm.lst h2)) _ _ rfl hde) .nil)
                · have e1 : fB e = false := decide_eq_false c1
                  rw [decide_eq_false c1]
                  rw [e1, if_neg (by decide), List.append_nil] at hft
                  refine ⟨h1, vs, h2, ?_, by omega⟩
                  rw [hft]
                  exact h3
              · rw [hxl, List.take_length] at hvs
                have c1e : cutV us none (some 1) = us.take 1 := cutV_takeV us 1
                refine ⟨_, rfl, _, rfl, D, us, rfl, .inl (.inl (s3 _ _ hD2)), fun q1 nq1 => ?_⟩
                have s4 := s3.trans (same_new (o := .lst (cutV us none (some 1))) nq1)
                have hus4 := sg_imm (Imm.of s4) hus2
                refine ⟨D2, q1, _, _, rfl, rfl, upd_new_ne hV nq1, upd_same, ?_, fun l nl => ?_⟩
                · rw [c1e, List.length_take]
                  omega
                · rw [c1e]
                  rw [c1e] at nl s4 hus4
                  have s5 := s4.trans (same_new (o := .lst (vs ++ us.take 1)) nl)
                  have hp5 := hp2.same s5
                  have nl5 : l ∉ [p, cs] := (hp2.same s4).nn nl
                  have snl := same_new (o := .lst (vs ++ us.take 1)) nl
                  have dA := sg_app (sg_imm (Imm.of ((same_new nq1).trans snl)) hvs) (sg_take 1 (sg_imm (Imm.of snl) hus4))
                  refine hNX _ _ ⟨l, vs ++ us.take 1, _, k + 1, c2, rfl, sm02.trans (Sm.same s5), hp5, by omega, fun z => by omega, by omega, upd_same, nl5, dA, fun z => ?_, fun e he => ?_, ?_⟩
                  · have z2 := (List.append_eq_nil_iff.mp z).2
                    cases hq : sg.filter (fA d) with
                    | nil => exact hsel0 hq
                    | cons y ys => rw [hq] at z2; cases z2
                  · rcases List.mem_append.mp he with h | h
                    · exact ⟨(List.mem_filter.mp h).1, fun z => by omega⟩
                    · exact hself e (List.mem_of_mem_take h)
                  · have := List.length_filter_le fB sg
                    rw [List.length_append, List.length_take]
                    omega
            · rw [decide_eq_false r0']
              exact hNX _ _ ⟨D, us, _, k + 1, c2, rfl, sm02, hp2, by omega, fun z => by omega, by omega, hD2, nDp, hus2, hsel0, hself, by omega⟩
          · rw [decide_eq_false d0]
            exact hNX _ _ ⟨D, us, _, k, cells, rfl, Sm.same s1, hp.same s1, by omega, fun _ => rfl, by omega, hD, nDp, hus, hsel0, hself, by omega⟩
        · obtain ⟨L, us2, sel, k2, c2, rfl, sm2, hp2, k21, k22, k23, hL, nL, hus2, hsel, hself, hsell⟩ := h
          have hul2 : us2.length = sel.length := by rw [hus2.len, List.length_map]
          have hsp : 0 < sel.length := List.length_pos_iff.mpr hsel
          refine ⟨_, rfl, _, rfl, _, rfl, L, us2, rfl, .inl (.inl (.inl hL)), p, cs, z, k2, c2, _, rfl, by omega, by omega, hp2, by omega, fun H3 r c3 sm3 hp3 r0 r1 => ?_⟩
          have im3 := sm3.imm hp2.ow
          have hL3 := sm3 _ _ hL nL
          have hus3 := sg_imm im3 hus2
          have sm03 := sm2.trans sm3
          have im03 := sm03.imm hp.ow
          obtain ⟨j, rfl, hj⟩ := nat_of r0 r1
          have hjl : j < sel.length := by omega
          obtain ⟨e, he⟩ : ∃ e, sel[j]? = some e := ⟨_, List.getElem?_eq_getElem hjl⟩
          obtain ⟨v, hv⟩ : ∃ v, us2[j]? = some v := ⟨_, List.getElem?_eq_getElem (by omega)⟩
          obtain ⟨a, rfl, ha⟩ := sgAt (Dp.get' hus3 hv he)
          obtain ⟨hes, hed⟩ := hself e (List.mem_of_getElem? he)
          obtain ⟨o1, o2, o3, o4, o5⟩ := ok.each e hes
          refine ⟨L, us2, _, _, rfl, rfl, .inl (.inl hL3), atI_nat hv, a, _, rfl, ha, rfl, _, _, rfl, _, _, rfl, rfl, ?_⟩
          refine ⟨_, rfl, (by show 1 ≤ sizeLine; decide), fun q1 nq1 => ?_⟩
          have sq1 := same_new (o := .tup [.str e.1]) nq1
          have hp4 := hp3.same sq1
          have sm04 := sm03.trans (Sm.same (O := [p, cs]) sq1)
          have hq1 : upd H3 q1 (.tup [.str e.1]) q1 = some (.tup [.str e.1]) := upd_same
          have nq1p := hp3.nn nq1
          generalize upd H3 q1 (.tup [.str e.1]) = H4 at sq1 hp4 sm04 hq1 ⊢
          refine ⟨_, rfl, e.2, rfl, by omega, by omega, fun D3 nD3 => ?_⟩
          have nD3p := hp4.nn nD3
          refine lc_range (n := e.2.toNat) (fun i H' => Sm [p, cs] H4 H' ∧ ∃ ts us k' c', ts.length = i ∧ H' D3 = some (.lst us) ∧ DpAll K H' us (Tm.datas ts) ∧ (∀ t ∈ ts, TmDr sg (d - 1) t) ∧ PoolAt H' p cs z k' c' ∧ k2 + 1 ≤ k' ∧ k' ≤ k2 + 1 + ((i * drw (d - 1) : Nat) : Int))
            ⟨Sm.same (same_new nD3), [], [], k2 + 1, c3, rfl, upd_same, .nil, (fun t h => nomatch h), hp4.same (same_new nD3), Int.le_refl _, by omega⟩ (fun i H' hi ⟨h1, ts, us, k', c', h2, h3, h4, h5, h6, h7, h8⟩ => ?_) (fun H' ⟨h1, ts, us, k', c', h2, h3, h4, h5, h6, h7, h8⟩ => ?_)
          · have hi2 : i < 2 := by omega
            have hd0 : d ≠ 0 := fun z => by
              have := hed z
              omega
            have im4 := h1.imm hp4.ow
            have imH := ((sm04.trans h1).imm hp.ow)
            have hdr : drw d = 2 + 2 * drw (d - 1) := by
              cases d with
              | zero => exact absurd rfl hd0
              | succ d => rfl
            have hil : i * drw (d - 1) ≤ 1 * drw (d - 1) := Nat.mul_le_mul_right _ (by omega)
            have ei1 : (i + 1) * drw (d - 1) = i * drw (d - 1) + drw (d - 1) := by rw [Nat.add_mul, Nat.one_mul]
            refine ⟨rfl, _, rfl, _, rfl, _, rfl, _, _, rfl, rfl, p, cs, z, k', c', sa, sg, d - 1, ?_, h6, hsgA.imm imH, ok, by omega, by omega, fun H5 v t k5 c5 sm5 hp5 k51 k52 dv dr => ?_⟩
            · rw [show ((d - 1 : Nat) : Int) = (d : Int) - 1 by omega]
              rfl
            · have nD3H := nD3p
              have hD5 := sm5 _ _ h3 nD3p
              have iL := Imm.lst (o := .lst (us ++ [v])) hD5
              have hul5 : us.length = i := by rw [h4.len, Tm.datas_len, h2]
              refine ⟨us, hD5, by omega, (h1.trans sm5).updN nD3, ts ++ [t], us ++ [v], k5, c5, by rw [List.length_append, h2]; rfl, upd_same, ?_, ?_, ?_, by omega, by omega⟩
              · rw [Tm.datas_app]
                exact (DpAll.imm ((sm5.imm h6.ow).trans iL) _ _ (Tm.nl_datas ts) h4).app (.cons (Dp.imm iL _ _ (Tm.nl_data t) dv) .nil)
              · intro x hx
                rcases List.mem_append.mp hx with h | h
                · exact h5 x h
                · rw [List.mem_singleton.mp h]
                  exact dr
              · have hpD : p ≠ D3 := fun z => nD3p (by rw [z]; exact List.mem_cons_self ..)
                have hcD : cs ≠ D3 := fun z => nD3p (by rw [z]; exact List.mem_cons_of_mem _ (List.mem_cons_self ..))
                exact ⟨(upd_ne hpD).trans hp5.pool, (upd_ne hcD).trans hp5.cel, hp5.ne, hp5.z0, hp5.z1, hp5.k0⟩
          · have hul : us.length = ts.length := by rw [h4.len, Tm.datas_len]
            have hdr : d ≠ 0 → drw d = 2 + 2 * drw (d - 1) := fun hd0 => by
              cases d with
              | zero => exact absurd rfl hd0
              | succ d => rfl
            have hkk : k' ≤ k + (drw d : Nat) := by
              by_cases hd0 : d = 0
              · have hts : e.2.toNat = 0 := by
                  have := hed hd0
                  omega
                rw [hts, Nat.zero_mul] at h8
                have := k22 hd0
                have : drw d = 1 := by rw [hd0]; rfl
                omega
              · have h9 : e.2.toNat * drw (d - 1) ≤ 2 * drw (d - 1) := Nat.mul_le_mul_right _ (by omega)
                have := hdr hd0
                omega
            have htm : TmDr sg d (.mk e.1 ts) := TmDr.make ok hes (by omega) (fun hd0 => by
              have := hed hd0
              exact List.length_eq_zero_iff.mp (by omega)) h5
            have smH := sm04.trans h1
            have hq1H := h1 _ _ hq1 nq1p
            refine ⟨D3, us, rfl, .inl ⟨.inl (.inl h3), fun l nl => ?_⟩⟩
            have sl := same_new (o := .tup us) nl
            have hp7 := h6.same sl
            have h4l := DpAll.same sl _ _ h4
            refine ⟨q1, l, [.str e.1], us, rfl, rfl, .inl (.inl (sl _ _ hq1H)), .inl (.inl upd_same), by show 1 + _ ≤ _; omega, (fun z => nomatch z), fun _ hz => ?_, fun _ _ r nr => ?_⟩
            · refine q _ _ _ k' c' (smH.trans (Sm.same sl)) hp7 (by omega) hkk ?_ htm
              rw [Tm.data]
              subst hz
              exact .tup (.inl (.inl (sl _ _ hq1H))) (.cons (.str _) h4l)
            · have sr := sl.trans (same_new (o := .tup ([.str e.1] ++ us)) nr)
              refine q _ _ _ k' c' (smH.trans (Sm.same sr)) (h6.same sr) (by omega) hkk ?_ htm
              rw [Tm.data]
              exact .tup (.inl (.inl upd_same)) (.cons (.str _) (DpAll.same sr _ _ h4))

end NB

namespace NB
open PySem PySem.Spec PyProof.Rows L2 LamX
/-! ### _law_lines -/
theorem sc__law_lines : FnScope ["_law_pool_here", "_law_signs_here", "_law_most", "_law_deep_here", "_law_found", "_law_turn", "_law_line"] ["_law_pool_here", "_law_signs_here", "_law_most", "_law_deep_here"] (defScope s__law_lines) := ⟨rfl, rfl, rfl, by decide +kernel, rfl, by decide +kernel, by decide +kernel⟩
def sp__law_lines (K : PySem.W.Frag) : Sp := fun vs H Q _ => ∃ p cs z k cells sa sg, ∃ m d : Nat, vs = [.ref p, .ref sa, .int (m : Int), .int (d : Int)] ∧ PoolAt H p cs z k cells ∧ SgsAt K H sa sg ∧ SgOk sg ∧ d < 39 ∧ m ≤ 1000 ∧ k + ((1 + m * drl d : Nat) : Int) ≤ 1000000000 ∧
  ∀ H' v ls k' cells', Sm [p, cs] H H' → PoolAt H' p cs z k' cells' → k ≤ k' → k' ≤ k + ((1 + m * drl d : Nat) : Int) → Dp K H' v (lnsD ls) → (∀ l ∈ ls, LnDr sg d l) → ls.length ≤ m → Q v H'
theorem ok__law_lines {P : Program} {w : World} {K : PySem.W.Frag} {mg : Str → Option Value} {base : Heap} (T : Tx K mg)  : FnOk P w K mg base CX0 41 T.a__law_lines T.d__law_lines ["_law_pool_here", "_law_signs_here", "_law_most", "_law_deep_here"] (sp__law_lines K) := by
  refine T.F__law_lines.ok sc__law_lines (fun vs H Q E h => ?_) (fun cdv A outer s H vs Q E hr h => ?_)
  · obtain ⟨p, cs, z, k, cells, sa, sg, m, d, rfl, _⟩ := h
    rfl
  · obtain ⟨p, cs, z, k, cells, sa, sg, m, d, rfl, hp, hsg, ok, hd, hm, hk, q⟩ := h
    have GTerm := ok__law_term (P := P) (w := w) (base := base) T 39
    have hzl : 100000 < sizeLine := by decide
    refine ⟨_, (pss_cons (ps_set (i := 4) sc__law_lines.nd rfl (by first | exact Or.inl rfl | exact Or.inr rfl) (pe_lst pa_nil)) (pss_cons (ps_for PassesOwn.never rfl (pi_range1 (by rfl) T.z_range (pa_cons (pe_call (ok__law_draw T) (hr.mono (by first | decide | omega)) rfl T.m__law_draw T.F__law_draw.kp T.b__law_draw .nil pass0 (pa_cons (pv 0) (pa_cons (pe_op op_add (pv 2) pe_int) pa_nil))) pa_nil)) (pg_name (i := 5) sc__law_lines.nd rfl (by first | exact Or.inl rfl | exact Or.inr rfl)) (pss_cons (ps_set (i := 6) sc__law_lines.nd rfl (by first | exact Or.inl rfl | exact Or.inr rfl) (pe_tup (pa_cons (pe_call GTerm (hr.mono (by first | decide | omega)) rfl T.m__law_term T.F__law_term.kp T.b__law_term .nil pass0 (pa_cons (pv 0) (pa_cons (pv 1) (pa_cons (pe_call (ok__law_draw T) (hr.mono (by first | decide | omega)) rfl T.m__law_draw T.F__law_draw.kp T.b__law_draw .nil pass0 (pa_cons (pv 0) (pa_cons (pe_op op_add (pv 3) pe_int) pa_nil))) pa_nil)))) (pa_cons (pe_call GTerm (hr.mono (by first | decide | omega)) rfl T.m__law_term T.F__law_term.kp T.b__law_term .nil pass0 (pa_cons (pv 0) (pa_cons (pv 1) (pa_cons (pe_call (ok__law_draw T) (hr.mono (by first | decide | omega)) rfl T.m__law_draw T.F__law_draw.kp T.b__law_draw .nil pass0 (pa_cons (pv 0) (pa_cons (pe_op op_add (pv 3) pe_int) pa_nil))) pa_nil)))) pa_nil)))) (pss_cons (ps_if (PW.pt (pw_and (pt_cmpR op_gt (pe_callB call_len_seq (by rfl) T.z_len (by decide +kernel) (pa_cons (pv 4) pa_nil)) pe_int (nomark _)) (pw_and1 (pt_cmpR op_eq (pe_call (ok__law_draw T) (hr.mono (by first | decide | omega)) rfl T.m__law_draw T.F__law_draw.kp T.b__law_draw .nil pass0 (pa_cons (pv 0) (pa_cons pe_int pa_nil))) pe_int (nomark _))))) (pss_one (ps_set (i := 6) sc__law_lines.nd rfl (by first | exact Or.inl rfl | exact Or.inr rfl) (pe_back0 (pe_ix ix_list (pv 4) (pe_call (ok__law_draw T) (hr.mono (by first | decide | omega)) rfl T.m__law_draw T.F__law_draw.kp T.b__law_draw .nil pass0 (pa_cons (pv 0) (pa_cons (pe_callB call_len_seq (by rfl) T.z_len (by decide +kernel) (pa_cons (pv 4) pa_nil)) pa_nil))) (fun _ _ => rfl))))) pss_nil) (pss_one (ps_expr (pe_bm PySem.F.plainAttrs_list PySem.F.slot_list_append PySem.F.type_list_append mt_append (pv 4) (pa_cons (pv 6) pa_nil))))))) (pss_one (ps_ret (pe_callTy call_tuple_of (by rfl) T.z_tuple (by decide +kernel) (pa_cons (pv 4) pa_nil)))))), ?_⟩
    refine ⟨Nat.zero_le _, fun L nL => ?_⟩
    have nLp := hp.nn nL
    have s1 := same_new (o := .lst []) nL
    have hL1 : upd H L (.lst []) L = some (.lst []) := upd_same
    refine ⟨_, rfl, _, rfl, _, _, rfl, rfl, p, cs, z, k, cells, (m : Int) + 1, rfl, by omega, by omega, hp.same s1, by omega, fun H1 r c1 sm1 hp1 r0 r1 => ⟨r, rfl, by omega, by omega, ?_⟩⟩
    obtain ⟨j, rfl, hj⟩ := nat_of r0 r1
    rw [Int.toNat_natCast]
    have hjm : j * drl d ≤ m * drl d := Nat.mul_le_mul_right _ (by omega)
    refine for_range (lo := 0) (n := j) (fun i σ H' => ∃ w5 w6 ls us k' c', σ = [some (.ref p), some (.ref sa), some (.int (m : Int)), some (.int (d : Int)), some (.ref L), w5, w6] ∧ Sm [p, cs] H H' ∧ PoolAt H' p cs z k' c' ∧ k + 1 ≤ k' ∧ k' ≤ k + 1 + ((i * drl d : Nat) : Int) ∧
        H' L = some (.lst us) ∧ DpAll K H' us (ls.map lnD) ∧ (∀ l ∈ ls, LnDr sg d l) ∧ ls.length = i)
      ⟨none, none, [], [], k + 1, c1, rfl, (Sm.same s1).trans sm1, hp1, Int.le_refl _, by omega, sm1 _ _ hL1 nLp, .nil, (fun l h => nomatch h), rfl⟩ ?_ ?_
    · rintro i σ H' hi ⟨w5, w6, ls, us, k', c', rfl, sm, hp', k1, k2, hL, hus, hls, hll⟩
      have ei1 : (i + 1) * drl d = i * drl d + drl d := by rw [Nat.add_mul, Nat.one_mul]
      have eij : (i + 1) * drl d ≤ j * drl d := Nat.mul_le_mul_right _ hi
      have edl : drl d = 4 + 2 * drw d := rfl
      have hul : us.length = ls.length := by rw [hus.len, List.length_map]
      refine ⟨_, rfl, _, rfl, _, rfl, _, rfl, _, _, rfl, rfl, p, cs, z, k', c', (d : Int) + 1, rfl, by omega, by omega, hp', by omega, fun H2 r2 c2 sm2 hp2 r20 r21 => ?_⟩
      obtain ⟨e1, rfl, he1⟩ := nat_of r20 r21
      have g2 := sm.trans sm2
      have d1 := drw_mono (show e1 ≤ d by omega)
      refine ⟨p, cs, z, k' + 1, c2, sa, sg, e1, rfl, hp2, hsg.imm (g2.imm hp.ow), ok, by omega, by omega, fun H3 v1 t1 k3 c3 sm3 hp3 k31 k32 dv1 dr1 => ?_⟩
      have g3 := g2.trans sm3
      refine ⟨_, rfl, _, rfl, _, rfl, _, rfl, _, _, rfl, rfl, p, cs, z, k3, c3, (d : Int) + 1, rfl, by omega, by omega, hp3, by omega, fun H4 r4 c4 sm4 hp4 r40 r41 => ?_⟩
      obtain ⟨e2, rfl, he2⟩ := nat_of r40 r41
      have g4 := g3.trans sm4
      have d2 := drw_mono (show e2 ≤ d by omega)
      refine ⟨p, cs, z, k3 + 1, c4, sa, sg, e2, rfl, hp4, hsg.imm (g4.imm hp.ow), ok, by omega, by omega, fun H5 v2 t2 k5 c5 sm5 hp5 k51 k52 dv2 dr2 => ?_⟩
      have g5 := g4.trans sm5
      have sm25 := ((sm2.trans sm3).trans sm4).trans sm5
      have dv1' := Dp.imm ((sm4.trans sm5).imm hp3.ow) _ _ (Tm.nl_data t1) dv1
      have hL5 := sm25 _ _ hL nLp
      have hus5 := DpAll.imm (sm25.imm hp'.ow) _ _ (nl_lns ls) hus
      refine ⟨(by show 2 ≤ sizeLine; decide), fun q1 nq1 => ?_⟩
      have s6 := same_new (o := .tup [v1, v2]) nq1
      have hp6 := hp5.same s6
      have g6 := g5.trans (Sm.same s6)
      have hL6 := s6 _ _ hL5
      have hus6 := DpAll.same s6 _ _ hus5
      have hl6 : Dp K (upd H5 q1 (.tup [v1, v2])) (.ref q1) (lnD (t1, t2)) := .tup (.inl (.inl upd_same)) (.cons (Dp.same s6 _ _ dv1') (.cons (Dp.same s6 _ _ dv2) .nil))
      have hdr6 : LnDr sg d (t1, t2) := ⟨dr1.mono (by omega), dr2.mono (by omega)⟩
      have k56 : k5 ≤ k' + 2 + 2 * (drw d : Nat) := by omega
      have k57 : k' ≤ k5 := by omega
      generalize upd H5 q1 (.tup [v1, v2]) = H6 at hp6 g6 hL6 hus6 hl6 ⊢
      dsimp only [gName]
      refine seq_open (fun σ' H' => ∃ a l k8 c8, σ' = [some (.ref p), some (.ref sa), some (.int (m : Int)), some (.int (d : Int)), some (.ref L), some (.int (0 + (i : Int))), some (.ref a)] ∧ Sm [p, cs] H H' ∧ PoolAt H' p cs z k8 c8 ∧ k' ≤ k8 ∧ k8 ≤ k' + 4 + 2 * (drw d : Nat) ∧ H' L = some (.lst us) ∧ DpAll K H' us (ls.map lnD) ∧ Dp K H' (.ref a) (lnD l) ∧ LnDr sg d l)
        (fun NX hNX => ?_) (fun σ' H9 h => ?_)
      · have no : NX [some (.ref p), some (.ref sa), some (.int (m : Int)), some (.int (d : Int)), some (.ref L), some (.int (0 + (i : Int))), some (.ref q1)] H6 := hNX _ _ ⟨q1, _, k5, c5, rfl, g6, hp6, by omega, by omega, hL6, hus6, hl6, hdr6⟩
        refine ⟨_, rfl, L, us, rfl, .inl (.inl (.inl hL6)), _, _, rfl, rfl, _, rfl, ?_⟩
        by_cases h0 : (0 : Int) < ((us.length : Nat) : Int)
        · rw [decide_eq_true h0]
          refine ⟨_, rfl, p, cs, z, k5, c5, 8, rfl, by decide, by decide, hp6, by omega, fun H7 r7 c7 sm7 hp7 r70 r71 => ⟨rfl, _, rfl, ?_⟩⟩
          have hL7 := sm7 _ _ hL6 nLp
          have i7 := sm7.imm hp6.ow
          have hus7 := DpAll.imm i7 _ _ (nl_lns ls) hus6
          by_cases h7 : r7 = 0
          · have e7 : decide (V.int r7 = V.int 0) = true := decide_eq_true (by rw [h7])
            rw [e7]
            refine ⟨_, rfl, _, rfl, _, rfl, L, us, rfl, .inl (.inl (.inl hL7)), p, cs, z, k5 + 1, c7, _, rfl, by omega, by omega, hp7, by omega, fun H8 r8 c8 sm8 hp8 r80 r81 => ?_⟩
            obtain ⟨j8, rfl, hj8⟩ := nat_of r80 r81
            have hL8 := sm8 _ _ hL7 nLp
            have hus8 := DpAll.imm (sm8.imm hp7.ow) _ _ (nl_lns ls) hus7
            have hj8l : j8 < ls.length := by omega
            obtain ⟨l8, hl8⟩ : ∃ l, ls[j8]? = some l := ⟨_, List.getElem?_eq_getElem hj8l⟩
            obtain ⟨v8, hv8⟩ : ∃ v, us[j8]? = some v := ⟨_, List.getElem?_eq_getElem (by omega)⟩
            obtain ⟨a8, x8, y8, rfl, hs8, dx8, dy8⟩ := lnAt (hus8.get hv8 (show (ls.map lnD)[j8]? = some (lnD l8) by rw [List.getElem?_map, hl8]; rfl))
            have hm8 := hls l8 (List.mem_of_getElem? hl8)
            refine ⟨L, us, _, _, rfl, rfl, .inl (.inl hL8), atI_nat hv8, a8, _, rfl, hs8, Nat.zero_le _, fun q2 nq2 => ?_⟩
            have s9 := same_new (o := .tup ([x8, y8].drop 0).reverse) nq2
            refine hNX _ _ ⟨q2, (l8.2, l8.1), k5 + 1 + 1, c8, rfl, ((g6.trans sm7).trans sm8).trans (Sm.same s9), hp8.same s9, by omega, by omega, s9 _ _ hL8, DpAll.same s9 _ _ hus8, ?_, ⟨hm8.two, hm8.one⟩⟩
            exact .tup (.inl (.inl upd_same)) (.cons (Dp.same s9 _ _ dy8) (.cons (Dp.same s9 _ _ dx8) .nil))
          · have e7 : decide (V.int r7 = V.int 0) = false := decide_eq_false fun z => h7 (V.int.inj z)
            rw [e7]
            exact hNX _ _ ⟨q1, _, k5 + 1, c7, rfl, g6.trans sm7, hp7, by omega, by omega, hL7, hus7, Dp.imm i7 _ _ (nl_lnD _) hl6, hdr6⟩
        · rw [decide_eq_false h0]
          exact no
      · obtain ⟨a, l, k8, c8, rfl, g8, hp8, k81, k82, hL8, hus8, hl8, hdr8⟩ := h
        refine ⟨_, rfl, .inl ⟨rfl, _, .inl (.inl hL8)⟩, _, rfl, L, _, _, rfl, rfl, hL8, by omega, ?_⟩
        have iL := Imm.lst (o := .lst (us ++ [.ref a])) hL8
        refine ⟨_, _, ls ++ [l], us ++ [.ref a], k8, c8, rfl, g8.updN nL, ?_, by omega, by omega, upd_same, ?_, ?_, by rw [List.length_append, hll]; rfl⟩
        · have hpD : p ≠ L := fun z => nLp (by rw [z]; exact List.mem_cons_self ..)
          have hcD : cs ≠ L := fun z => nLp (by rw [z]; exact List.mem_cons_of_mem _ (List.mem_cons_self ..))
          exact ⟨(upd_ne hpD).trans hp8.pool, (upd_ne hcD).trans hp8.cel, hp8.ne, hp8.z0, hp8.z1, hp8.k0⟩
        · rw [List.map_append]
          exact (DpAll.imm iL _ _ (nl_lns ls) hus8).app (.cons (Dp.imm iL _ _ (nl_lnD _) hl8) .nil)
        · intro x hx
          rcases List.mem_append.mp hx with h | h
          · exact hls x h
          · rw [List.mem_singleton.mp h]
            exact hdr8
    · rintro σ H' ⟨w5, w6, ls, us, k', c', rfl, sm, hp', k1, k2, hL, hus, hls, hll⟩
      refine ⟨_, rfl, L, us, rfl, .inl ⟨.inl (.inl hL), fun l nl => ?_⟩⟩
      have sl := same_new (o := .tup us) nl
      exact q _ _ ls k' c' (sm.trans (Sm.same sl)) (hp'.same sl) (by omega) (by omega) (.tup (.inl (.inl upd_same)) (DpAll.same sl _ _ hus)) hls (by omega)

end NB

namespace NB
open PySem PySem.Spec PyProof.Rows L2 LamX
/-! ### _law_key -/
theorem sc__law_key : FnScope ["_law_term_here"] ["_law_term_here"] (defScope s__law_key) := ⟨rfl, rfl, rfl, by decide +kernel, rfl, by decide +kernel, by decide +kernel⟩
def sp__law_key (K : PySem.W.Frag) : Sp := fun vs H Q _ => ∃ v t, vs = [v] ∧ Dp K H v (Tm.data t) ∧ dpt t ≤ 40 ∧ (Tm.pre t).length ≤ 100000 ∧ ∀ H' p, Same H H' → Dp K H' (.ref p) (skeyD t) → Q (.ref p) H'
theorem ok__law_key {P : Program} {w : World} {K : PySem.W.Frag} {mg : Str → Option Value} {base : Heap} (T : Tx K mg)  : FnOk P w K mg base CX0 41 T.a__law_key T.d__law_key ["_law_term_here"] (sp__law_key K) := by
  refine T.F__law_key.ok sc__law_key (fun vs H Q E h => ?_) (fun cdv A outer s H vs Q E hr h => ?_)
  · obtain ⟨v, t, rfl, _⟩ := h
    rfl
  · obtain ⟨v, t, rfl, hd, hn, hl, k⟩ := h
    have GSize := ok__law_size (P := P) (w := w) (base := base) T 40
    refine ⟨_, (pss_one (ps_ret (pe_tup (pa_cons (pe_call GSize (hr.mono (by first | decide | omega)) rfl T.m__law_size T.F__law_size.kp T.b__law_size .nil pass0 (pa_cons (pv 0) pa_nil)) (pa_cons (pv 0) pa_nil))))), ?_⟩
    refine ⟨_, rfl, v, t, rfl, hd, hn, hl, fun H1 s1 => ⟨_, rfl, (by show 2 ≤ sizeLine; decide), fun p np => ?_⟩⟩
    have s2 := s1.trans (same_new (o := .tup [.int ((Tm.pre t).length : Int), v]) np)
    exact k _ p s2 (.tup (.inl (.inl upd_same)) (.cons (.int _) (.cons (Dp.same s2 _ _ hd) .nil)))

end NB

namespace NB
open PySem PySem.Spec PyProof.Rows L2 LamX
/-! ### _law_within -/
theorem sc__law_within : FnScope ["_law_terms", "_law_found", "_law_left", "_law_here"] ["_law_terms"] (defScope s__law_within) := ⟨rfl, rfl, rfl, by decide +kernel, rfl, by decide +kernel, by decide +kernel⟩
def sp__law_within (K : PySem.W.Frag) : Sp := fun vs H Q _ => ∃ a xs ts, vs = [.ref a] ∧ SqL K H a xs ∧ DpAll K H xs (Tm.datas ts) ∧ (∀ t ∈ ts, dpt t ≤ 39 ∧ (Tm.data t).canLay0 = true) ∧ (Tm.pres ts).length ≤ 50000 ∧
  ∀ H' p us F, Same H H' → H p = none → H' p = some (.lst (srt us (F.map skeyD))) → DpAll K H' us (Tm.datas F) → F.Nodup → (∀ x, x ∈ F ↔ x ∈ Tm.pres ts) → Q (.ref p) H'
def withinW (K : PySem.W.Frag) (a fo : Addr) (ts : List Tm) (H : Hp) (m : Nat) (σ : L2.St) (H' : Hp) : Prop :=
  ∃ l zs ls us F w, σ = [some (.ref a), some (.ref fo), some (.ref l), w] ∧ Same H H' ∧ H l = none ∧ fo ≠ l ∧ H' fo = some (.lst us) ∧ H' l = some (.lst zs.reverse) ∧ DpAll K H zs (Tm.datas ls) ∧ DpAll K H us (Tm.datas F) ∧ F.Nodup ∧ (∀ x ∈ F, x ∈ Tm.pres ts) ∧ (∀ x ∈ ls, x ∈ Tm.pres ts) ∧
    (∀ x ∈ F, ∀ p ∈ x.parts, p ∈ F ∨ p ∈ ls) ∧ (∀ t ∈ ts, t ∈ F ∨ t ∈ ls) ∧ F.length + (Tm.pres ls).length ≤ (Tm.pres ts).length ∧ m = (Tm.pres ls).length
theorem ok__law_within {P : Program} {w : World} {K : PySem.W.Frag} {mg : Str → Option Value} {base : Heap} (T : Tx K mg)  : FnOk P w K mg base CX0 44 T.a__law_within T.d__law_within ["_law_terms"] (sp__law_within K) := by
  refine T.F__law_within.ok sc__law_within (fun vs H Q E h => ?_) (fun cdv A outer s H vs Q E hr h => ?_)
  · obtain ⟨a, xs, ts, rfl, _⟩ := h
    rfl
  · obtain ⟨a, xs, ts, rfl, hs, hx, hts, hn, k⟩ := h
    have hzl : 100000 < sizeLine := by decide
    refine ⟨_, (pss_cons (ps_set (i := 1) sc__law_within.nd rfl (by first | exact Or.inl rfl | exact Or.inr rfl) (pe_lst pa_nil)) (pss_cons (ps_set (i := 2) sc__law_within.nd rfl (by first | exact Or.inl rfl | exact Or.inr rfl) (pe_callTy call_list_of (by rfl) T.z_list (by decide +kernel) (pa_cons (pv 0) pa_nil))) (pss_cons (ps_while PassesOwn.never (pt_cmpR op_gt (pe_callB call_len_seq (by rfl) T.z_len (by decide +kernel) (pa_cons (pv 2) pa_nil)) pe_int (nomark _)) (pss_cons (ps_set (i := 3) sc__law_within.nd rfl (by first | exact Or.inl rfl | exact Or.inr rfl) (pe_bm0 PySem.F.plainAttrs_list PySem.F.slot_list_pop PySem.F.type_list_pop mt_pop (pv 2))) (pss_one (ps_if (pt_cmpR (op_notInD (u65_of hr)) (pv 3) (pv 1) (by rfl)) (pss_cons (ps_expr (pe_bm PySem.F.plainAttrs_list PySem.F.slot_list_append PySem.F.type_list_append mt_append (pv 1) (pa_cons (pv 3) pa_nil))) (pss_one (ps_set (i := 2) sc__law_within.nd rfl (by first | exact Or.inl rfl | exact Or.inr rfl) (pe_op op_cat (pv 2) (pe_callTy call_list_of (by rfl) T.z_list (by decide +kernel) (pa_cons (pe_slice sl_tupA (pv 3) (po_some pe_int) po_none) pa_nil)))))) pss_nil)))) (pss_one (ps_ret (pe_callBK (call_sortK (ok__law_key T) (hr.mono (by first | decide | omega)) T.b__law_key) (by rfl) T.z_sorted (by decide +kernel) (pa_cons (pv 1) pa_nil) (pk_cons (pe_glob (v := .ref T.a__law_key) rfl T.m__law_key rfl) pk_nil))))))), ?_⟩
    refine ⟨Nat.zero_le _, fun fo nfo => ⟨_, rfl, a, xs, rfl, .inl (L2.Same.seq (same_new nfo) hs), fun l0 nl0 => ?_⟩⟩
    obtain ⟨nfl, nl0'⟩ := none_ne nl0
    have hlay : ∀ x ∈ Tm.pres ts, (Tm.data x).canLay0 = true := fun x h => pres_lay ts x (canLay_tms ts fun t ht => (hts t ht).2) h
    have hdp : ∀ x ∈ Tm.pres ts, dpt x ≤ 39 := fun x h => Nat.le_trans (pres_dpt ts x h) (dpts_le ts fun t ht => (hts t ht).1)
    refine ⟨withinW K a fo ts H, ⟨(Tm.pres ts.reverse).length, l0, xs.reverse, ts.reverse, [], [], none, rfl, (same_new nfo).upd nl0', nl0', nfl, by rw [upd_ne nfl, upd_same], by rw [upd_same, List.reverse_reverse], ?_, .nil, List.nodup_nil, (fun x h => nomatch h), ?_, (fun x h => nomatch h), fun t ht => .inr (List.mem_reverse.mpr ht), by rw [pres_rev_len]; exact Nat.le_of_eq (Nat.zero_add _), rfl⟩, ?_⟩
    · rw [Tm.datas_rev]
      exact DpAll.rev hx
    · intro x h
      exact mem_pres.mpr ⟨x, List.mem_reverse.mp h, mem_pre_self x⟩
    rintro m σ H' ⟨l, zs, ls, us, F, w1, rfl, s1, nl, nfl, h1, h2, dz, du, c1, c2, c3, c4, c5, c6, rfl⟩
    have hzl2 : zs.length = ls.length := by rw [dz.len, Tm.datas_len]
    have hul : us.length = F.length := by rw [du.len, Tm.datas_len]
    have hpl := Tm.pres_len ls
    refine ⟨_, rfl, l, zs.reverse, rfl, .inl (.inl (.inl h2)), _, _, rfl, rfl, _, rfl, ?_⟩
    match ls, zs, dz, hzl2, c3, c4, c5, c6, hpl, h2 with
    | [], zs, dz, hzl2, c3, c4, c5, c6, hpl, h2 =>
      have ez := DpAll.nilD dz
      subst ez
      have hcl : ∀ x ∈ F, ∀ p ∈ x.parts, p ∈ F := fun x hx p hp => (c4 x hx p hp).elim id fun z => nomatch z
      have hin : ∀ t ∈ ts, t ∈ F := fun t ht => (c5 t ht).elim id fun z => nomatch z
      refine ⟨_, rfl, fo, us, F.map skeyD, rfl, rfl, .inl (.inl h1), by rw [List.length_map, hul], skeys_alike _, .inl (fun d hd => ?_), (fun d hd => ?_), (fun i x d hx hdx H2 s2 => ?_), fun q H2 s2 nq => ?_⟩
      · obtain ⟨t, _, rfl⟩ := List.mem_map.mp hd
        exact ⟨_, _, rfl⟩
      · obtain ⟨t, ht, rfl⟩ := List.mem_map.mp hd
        have := hdp t (c2 t ht)
        rw [skey_depth]
        omega
      · have hi : i < F.length := by
          have := (List.getElem?_eq_some_iff.mp hx).1
          omega
        have hti : F[i]? = some F[i] := List.getElem?_eq_getElem hi
        rw [List.getElem?_map, hti] at hdx
        cases hdx
        have hdi : (Tm.datas F)[i]? = some F[i].data := by rw [Tm.datas_map, List.getElem?_map, hti]; rfl
        have hm := c2 _ (List.getElem_mem hi)
        have h40 := hdp _ hm
        have hpr := pres_mem_len ts _ hm
        exact ⟨x, F[i], rfl, Dp.same (s1.trans s2) _ _ (du.get hx hdi), by omega, by omega, fun H3 r s3 hr => ⟨s3, hr⟩⟩
      · have s3 := (s1.trans s2).trans (same_new (o := .lst (srt us (F.map skeyD))) nq)
        exact k _ q us F s3 ((s1.trans s2).free nq) upd_same (DpAll.same s3 _ _ du) c1 fun x => ⟨c2 x, fun hx => pres_closed hcl ts x hin hx⟩
    | t1 :: ls, zs, dz, hzl2, c3, c4, c5, c6, hpl, h2 =>
      obtain ⟨y, zs, rfl, d1, dz2⟩ := DpAll.consD (by rw [Tm.datas] at dz; exact dz)
      have eb : decide ((0 : Int) < (((y :: zs).reverse.length : Nat) : Int)) = true := decide_eq_true (by rw [List.length_reverse, List.length_cons]; omega)
      rw [eb]
      refine ⟨fun σ' H' => ∃ m', m' < (Tm.pres (t1 :: ls)).length ∧ withinW K a fo ts H m' σ' H', fun _ _ z => z, ?_⟩
      obtain ⟨b, ys, rfl, hsq, hys⟩ := DpAll.ref d1
      have hm1 := c3 t1 (List.mem_cons_self ..)
      have ht1 := hdp t1 hm1
      have hp1 : (Tm.pres (t1 :: ls)).length = (Tm.pre t1).length + (Tm.pres ls).length := by rw [Tm.pres, List.length_append]
      have hpp := Tm.pre_pos t1
      refine ⟨_, rfl, .inl ⟨rfl, _, .inl (.inl h2)⟩, l, _, _, rfl, rfl, h2, last_rev (.ref b) zs, ?_⟩
      rw [drop_rev]
      have s2 : Same H (upd H' l (.lst zs.reverse)) := s1.upd nl
      have h1' : upd H' l (.lst zs.reverse) fo = some (.lst us) := by rw [upd_ne nfl]; exact h1
      have h2' : upd H' l (.lst zs.reverse) l = some (.lst zs.reverse) := upd_same
      have hzs : zs.length = ls.length := by rw [dz2.len, Tm.datas_len]
      refine ⟨_, rfl, _, rfl, Tm.data t1, Tm.datas F, Dp.same s2 _ _ d1, .lst (.inl (.inl h1')) (DpAll.same s2 _ _ du), shaped_tm (hlay t1 hm1) (by omega), shaped_tms (fun x hx => hlay x (c2 x hx)) (fun x hx => by have := hdp x (c2 x hx); omega), _, rfl, ?_⟩
      by_cases hin : t1 ∈ F
      · rw [(any_eqv t1 F).mpr hin]
        refine ⟨(Tm.pres ls).length, by omega, l, zs, ls, us, F, _, rfl, s2, nl, nfl, h1', h2', dz2, du, c1, c2, (fun x hx => c3 x (List.mem_cons_of_mem _ hx)), ?_, ?_, by omega, rfl⟩
        · intro x hx p hp
          rcases c4 x hx p hp with h | h
          · exact .inl h
          · rcases List.mem_cons.mp h with q | q
            · rw [q]
              exact .inl hin
            · exact .inr q
        · intro t ht
          rcases c5 t ht with h | h
          · exact .inl h
          · rcases List.mem_cons.mp h with q | q
            · rw [q]
              exact .inl hin
            · exact .inr q
      · have ean : ((Tm.datas F).any fun z => PyData.eqv z (Tm.data t1)) = false := by
          cases e : (Tm.datas F).any fun z => PyData.eqv z (Tm.data t1) with
          | false => rfl
          | true => exact absurd ((any_eqv t1 F).mp e) hin
        rw [ean]
        refine ⟨_, rfl, .inl ⟨rfl, _, .inl (.inl h1')⟩, _, rfl, fo, _, _, rfl, rfl, h1', by omega, ?_⟩
        have s3 := s2.upd (o := .lst (us ++ [.ref b])) nfo
        have h2'' : upd (upd H' l (.lst zs.reverse)) fo (.lst (us ++ [.ref b])) l = some (.lst zs.reverse) := by rw [upd_ne nfl.symm, upd_same]
        have h1'' : upd (upd H' l (.lst zs.reverse)) fo (.lst (us ++ [.ref b])) fo = some (.lst (us ++ [.ref b])) := upd_same
        generalize upd (upd H' l (.lst zs.reverse)) fo (.lst (us ++ [.ref b])) = H3 at s3 h2'' h1'' ⊢
        obtain ⟨sg, ps⟩ := t1
        have hyl : ys.length = ps.length := by rw [hys.len, Tm.datas_len]; rfl
        have hpre : (Tm.pre (.mk sg ps)).length = (Tm.pres ps).length + 1 := by rw [Tm.pre, List.length_cons]
        have hpsl := Tm.pres_len ps
        have hlsl := Tm.pres_len ls
        refine ⟨_, rfl, _, rfl, 1, rfl, b, _, rfl, SqT.same hsq s3, fun z => absurd z (whole_not ys.length none), fun _ q1 nq1 => ?_⟩
        rw [cutV_tail (α := V)]
        refine ⟨q1, ys, rfl, .inr (.inl (.inl upd_same)), fun q2 nq2 => ?_⟩
        have s5 := (same_new (o := .tup ys) nq1).trans (same_new (o := .lst ys) nq2)
        refine ⟨l, q2, zs.reverse, ys, rfl, rfl, s5 _ _ h2'', upd_same, by rw [List.length_reverse]; omega, fun r nr => ?_⟩
        have s6 := s5.trans (same_new (o := .lst (zs.reverse ++ ys)) nr)
        have s7 := s3.trans s6
        have er : zs.reverse ++ ys = (ys.reverse ++ zs).reverse := by rw [List.reverse_append, List.reverse_reverse]
        have hpr : (Tm.pres (ps.reverse ++ ls)).length = (Tm.pres ps).length + (Tm.pres ls).length := by rw [Tm.pres_app, List.length_append, pres_rev_len]
        refine ⟨(Tm.pres (ps.reverse ++ ls)).length, by omega, r, ys.reverse ++ zs, ps.reverse ++ ls, us ++ [.ref b], F ++ [.mk sg ps], _, rfl, s7, (s3.trans s5).free nr, ne_of_none (s5 _ _ h1'') nr, s6 _ _ h1'', by rw [← er]; exact upd_same, ?_, ?_, ?_, ?_, ?_, ?_, ?_, ?_, rfl⟩
        · rw [Tm.datas_app, Tm.datas_rev]
          exact (DpAll.rev hys).app dz2
        · rw [Tm.datas_app]
          exact du.app (.cons d1 .nil)
        · rw [List.nodup_append]
          exact ⟨c1, (by simp : [Tm.mk sg ps].Nodup), fun x hx y hy e => hin (by rw [← List.mem_singleton.mp hy, ← e]; exact hx)⟩
        · intro x hx
          rcases List.mem_append.mp hx with h | h
          · exact c2 x h
          · rw [List.mem_singleton.mp h]
            exact hm1
        · intro x hx
          rcases List.mem_append.mp hx with h | h
          · exact pres_trans ts _ x hm1 (part_mem_pre (List.mem_reverse.mp h))
          · exact c3 x (List.mem_cons_of_mem _ h)
        · intro x hx p hp
          rcases List.mem_append.mp hx with h | h
          · rcases c4 x h p hp with q | q
            · exact .inl (List.mem_append_left _ q)
            · rcases List.mem_cons.mp q with z | z
              · rw [z]
                exact .inl (List.mem_append_right _ (List.mem_singleton.mpr rfl))
              · exact .inr (List.mem_append_right _ z)
          · rw [List.mem_singleton.mp h] at hp
            exact .inr (List.mem_append_left _ (List.mem_reverse.mpr hp))
        · intro t ht
          rcases c5 t ht with q | q
          · exact .inl (List.mem_append_left _ q)
          · rcases List.mem_cons.mp q with z | z
            · rw [z]
              exact .inl (List.mem_append_right _ (List.mem_singleton.mpr rfl))
            · exact .inr (List.mem_append_right _ z)
        · rw [List.length_append, List.length_singleton]
          omega

end NB

namespace NB
open PySem PySem.Spec PyProof.Rows L2 LamX
/-! ### _law_told -/
theorem sc__law_told : FnScope ["_law_lines_here", "_law_line"] ["_law_lines_here"] (defScope s__law_told) := ⟨rfl, rfl, rfl, by decide +kernel, rfl, by decide +kernel, by decide +kernel⟩
theorem mem_toldB {ls : List Ln} {x : Tm} : x ∈ toldB ls ↔ ∃ l ∈ ls, x ∈ Tm.pre l.1 ∨ x ∈ Tm.pre l.2 := by
  unfold toldB
  rw [mem_addLs]
  exact ⟨fun h => h.elim (fun z => nomatch z) id, .inr⟩
theorem nodup_toldB (ls : List Ln) : (toldB ls).Nodup := nodup_addLs List.nodup_nil
def sp__law_told (K : PySem.W.Frag) : Sp := fun vs H Q _ => ∃ v ls, vs = [v] ∧ Dp K H v (lnsD ls) ∧ (∀ l ∈ ls, (dpt l.1 ≤ 39 ∧ (Tm.data l.1).canLay0 = true) ∧ dpt l.2 ≤ 39 ∧ (Tm.data l.2).canLay0 = true) ∧ cntL ls ≤ 50000 ∧ ls.length ≤ 40000 ∧
  ∀ H' p us F, Same H H' → H p = none → H' p = some (.lst (srt us (F.map skeyD))) → DpAll K H' us (Tm.datas F) → F.Nodup → (∀ x, x ∈ F ↔ x ∈ toldB ls) → Q (.ref p) H'
theorem ok__law_told {P : Program} {w : World} {K : PySem.W.Frag} {mg : Str → Option Value} {base : Heap} (T : Tx K mg)  : FnOk P w K mg base CX0 45 T.a__law_told T.d__law_told ["_law_lines_here"] (sp__law_told K) := by
  refine T.F__law_told.ok sc__law_told (fun vs H Q E h => ?_) (fun cdv A outer s H vs Q E hr h => ?_)
  · obtain ⟨v, ls, rfl, _⟩ := h
    rfl
  · obtain ⟨v, ls, rfl, hd, hls, hn, hll, k⟩ := h
    have hzl : 100000 < sizeLine := by decide
    obtain ⟨a, xs, rfl, hs, ha⟩ := lnsAt hd
    have hxl : xs.length = ls.length := by rw [ha.len, List.length_map]
    refine ⟨_, (pss_one (ps_ret (pe_call (ok__law_within T) (hr.mono (by first | decide | omega)) rfl T.m__law_within T.F__law_within.kp T.b__law_within .nil pass0 (pa_cons (pe_op op_cat (pe_lc (own := [("_law_line", 1)]) rfl sc__law_told.nd (pi_tup (pv 0)) (blkOk_by (own := [("_law_line", 1)]) (N := ["_law_lines_here", "_law_line"]) (sc := defScope s__law_told) (by decide +kernel)) (fun _ _ _ _ _ => (pg_name (i := 1) sc__law_told.nd rfl (by first | exact Or.inl rfl | exact Or.inr rfl))) (fun _ _ _ _ _ => pts_nil) (fun _ _ _ _ _ => (pe_ix (show IxR _ (rIxT K) from ix_tup) (pv 1) pe_int (fun _ _ => rfl)))) (pe_lc (own := [("_law_line", 1)]) rfl sc__law_told.nd (pi_tup (pv 0)) (blkOk_by (own := [("_law_line", 1)]) (N := ["_law_lines_here", "_law_line"]) (sc := defScope s__law_told) (by decide +kernel)) (fun _ _ _ _ _ => (pg_name (i := 1) sc__law_told.nd rfl (by first | exact Or.inl rfl | exact Or.inr rfl))) (fun _ _ _ _ _ => pts_nil) (fun _ _ _ _ _ => (pe_ix (show IxR _ (rIxT K) from ix_tup) (pv 1) pe_int (fun _ _ => rfl))))) pa_nil)))), ?_⟩
    refine ⟨_, rfl, a, rfl, ⟨_, hs⟩, fun D nD => ?_⟩
    refine lc_tup (K := K) (a := a) (xs := xs) (fun i H' => Same H H' ∧ ∃ us, H' D = some (.lst us) ∧ us.length = i ∧ DpAll K H us (Tm.datas ((ls.take i).map (·.1))))
      ⟨same_new nD, [], upd_same, rfl, .nil⟩ (fun i H' _ q => SqT.same hs q.1) (fun i x H' hx q => ?_) (fun H1 q => ?_)
    · have hi : i < ls.length := by
        have := (List.getElem?_eq_some_iff.mp hx).1
        omega
      have hli : ls[i]? = some ls[i] := List.getElem?_eq_getElem hi
      obtain ⟨b, x1, x2, rfl, hsb, d1, d2⟩ := lnAt (ha.get hx (show (ls.map lnD)[i]? = some (lnD ls[i]) by rw [List.getElem?_map, hli]; rfl))
      obtain ⟨qs, us, qd, ql, qa⟩ := q
      refine ⟨rfl, _, rfl, b, _, _, _, rfl, rfl, SqT.same hsb qs, atI_nat (j := 0) rfl, us, qd, by omega, qs.upd nD, us ++ [x1], upd_same, by rw [List.length_append, ql]; rfl, ?_⟩
      rw [take_snoc hli, List.map_append, Tm.datas_app]
      exact qa.app (.cons d1 .nil)
    · obtain ⟨s1, us, hD, hul, hus⟩ := q
      rw [hxl, List.take_length] at hus
      refine ⟨_, rfl, a, rfl, ⟨_, SqT.same hs s1⟩, fun D2 nD2 => ?_⟩
      have nD2H := s1.free nD2
      refine lc_tup (K := K) (a := a) (xs := xs) (fun i H' => Same H1 H' ∧ ∃ vs, H' D2 = some (.lst vs) ∧ vs.length = i ∧ DpAll K H vs (Tm.datas ((ls.take i).map (·.2))))
        ⟨same_new nD2, [], upd_same, rfl, .nil⟩ (fun i H' _ q => SqT.same (SqT.same hs s1) q.1) (fun i x H' hx q => ?_) (fun H2 q => ?_)
      · have hi : i < ls.length := by
          have := (List.getElem?_eq_some_iff.mp hx).1
          omega
        have hli : ls[i]? = some ls[i] := List.getElem?_eq_getElem hi
        obtain ⟨b, x1, x2, rfl, hsb, d1, d2⟩ := lnAt (ha.get hx (show (ls.map lnD)[i]? = some (lnD ls[i]) by rw [List.getElem?_map, hli]; rfl))
        obtain ⟨qs, vs, qd, ql, qa⟩ := q
        refine ⟨rfl, _, rfl, b, _, _, _, rfl, rfl, SqT.same hsb (s1.trans qs), atI_nat (j := 1) rfl, vs, qd, by omega, qs.upd nD2, vs ++ [x2], upd_same, by rw [List.length_append, ql]; rfl, ?_⟩
        rw [take_snoc hli, List.map_append, Tm.datas_app]
        exact qa.app (.cons d2 .nil)
      · obtain ⟨s2, vs, hD2, hvl, hvs⟩ := q
        rw [hxl, List.take_length] at hvs
        refine ⟨D, D2, us, vs, rfl, rfl, s2 _ _ hD, hD2, by omega, fun r nr => ?_⟩
        have s3 := (s1.trans s2).trans (same_new (o := .lst (us ++ vs)) nr)
        refine ⟨r, us ++ vs, sidesL ls, rfl, .inl (.inl upd_same), ?_, fun t ht => ?_, by rw [pres_sides]; exact hn, fun H' p us' F s4 np hp dF nF mF => ?_⟩
        · unfold sidesL
          rw [Tm.datas_app]
          exact (DpAll.same s3 _ _ hus).app (DpAll.same s3 _ _ hvs)
        · unfold sidesL at ht
          rcases List.mem_append.mp ht with h | h
          · obtain ⟨l, h3, rfl⟩ := List.mem_map.mp h
            exact (hls l h3).1
          · obtain ⟨l, h3, rfl⟩ := List.mem_map.mp h
            exact (hls l h3).2
        · exact k H' p us' F (s3.trans s4) (s3.free np) hp dF nF fun x => by rw [mF, mem_sides, mem_toldB]

end NB

namespace NB
open PySem PySem.Spec PyProof.Rows L2 LamX
/-! ### _law_lore -/
theorem sc__law_lore : FnScope ["_law_pool_here", "_law_most", "_law_deep_here", "_law_signs_here", "_law_lines_here"] ["_law_pool_here", "_law_most", "_law_deep_here"] (defScope s__law_lore) := ⟨rfl, rfl, rfl, by decide +kernel, rfl, by decide +kernel, by decide +kernel⟩
theorem toldB_len {ls : List Ln} {F : List Tm} (h1 : F.Nodup) (h2 : ∀ x, x ∈ F ↔ x ∈ toldB ls) : F.length = (toldB ls).length :=
  Nat.le_antisymm (len_of_nodup h1 fun x hx => (h2 x).mp hx) (len_of_nodup (nodup_toldB ls) fun x hx => (h2 x).mpr hx)
def sp__law_lore (K : PySem.W.Frag) : Sp := fun vs H Q _ => ∃ p cs z k cells, ∃ m d : Nat, vs = [.ref p, .int (m : Int), .int (d : Int)] ∧ PoolAt H p cs z k cells ∧ d < 39 ∧ m ≤ 1000 ∧ m * (2 * siz d) ≤ 50000 ∧ k + ((4 + m * drl d : Nat) : Int) ≤ 999999990 ∧
  ∀ H' r sa lv sg ls k' cells', Sm [p, cs] H H' → PoolAt H' p cs z k' cells' → k ≤ k' → k' ≤ k + ((4 + m * drl d : Nat) : Int) → SqT K H' r [.ref sa, lv] → SgsAt K H' sa sg → SgOk sg → Dp K H' lv (lnsD ls) → (∀ l ∈ ls, LnDr sg d l) → ls.length ≤ m → (toldB ls).length ≤ 40 → Q (.ref r) H'
theorem ok__law_lore {P : Program} {w : World} {K : PySem.W.Frag} {mg : Str → Option Value} {base : Heap} (T : Tx K mg)  : FnOk P w K mg base CX0 46 T.a__law_lore T.d__law_lore ["_law_pool_here", "_law_most", "_law_deep_here"] (sp__law_lore K) := by
  refine T.F__law_lore.ok sc__law_lore (fun vs H Q E h => ?_) (fun cdv A outer s H vs Q E hr h => ?_)
  · obtain ⟨p, cs, z, k, cells, m, d, rfl, _⟩ := h
    rfl
  · obtain ⟨p, cs, z, k, cells, m, d, rfl, hp, hd, hm, hsz, hk, q⟩ := h
    have hzl : 100000 < sizeLine := by decide
    refine ⟨_, (pss_cons (ps_set (i := 3) sc__law_lore.nd rfl (by first | exact Or.inl rfl | exact Or.inr rfl) (pe_call (ok__law_signs T) (hr.mono (by first | decide | omega)) rfl T.m__law_signs T.F__law_signs.kp T.b__law_signs .nil pass0 (pa_cons (pv 0) pa_nil))) (pss_cons (ps_set (i := 4) sc__law_lore.nd rfl (by first | exact Or.inl rfl | exact Or.inr rfl) (pe_call (ok__law_lines T) (hr.mono (by first | decide | omega)) rfl T.m__law_lines T.F__law_lines.kp T.b__law_lines .nil pass0 (pa_cons (pv 0) (pa_cons (pv 3) (pa_cons (pv 1) (pa_cons (pv 2) pa_nil)))))) (pss_cons (ps_while PassesOwn.never (pt_cmpR op_gt (pe_callB call_len_seq (by rfl) T.z_len (by decide +kernel) (pa_cons (pe_call (ok__law_told T) (hr.mono (by first | decide | omega)) rfl T.m__law_told T.F__law_told.kp T.b__law_told .nil pass0 (pa_cons (pv 4) pa_nil)) pa_nil)) pe_int (nomark _)) (pss_one (ps_set (i := 4) sc__law_lore.nd rfl (by first | exact Or.inl rfl | exact Or.inr rfl) (pe_slice sl_tupA (pv 4) po_none (po_some (pe_un un_neg pe_int)))))) (pss_one (ps_ret (pe_tup (pa_cons (pv 3) (pa_cons (pv 4) pa_nil)))))))), ?_⟩
    refine ⟨_, rfl, p, cs, z, k, cells, rfl, hp, by omega, fun H1 sa i j l c1 sm1 hsg hi hj hl hp1 => ?_⟩
    have ok := sgOf_ok (i := i) (j := j) (l := l) (by omega) (by omega) (by omega)
    refine ⟨_, rfl, _, rfl, _, rfl, _, rfl, p, cs, z, k + 3, c1, sa, sgOf (1 + i) j l, m, d, rfl, hp1, hsg, ok, hd, hm, by omega, fun H2 lv ls0 k2 c2 sm2 hp2 k21 k22 dl0 hls0 hll0 => ?_⟩
    have hsg2 := hsg.imm (sm2.imm hp1.ow)
    generalize sgOf (1 + i) j l = sg at hsg ok hsg2 hls0
    dsimp only [gName]
    refine seq_open (fun σ' H' => ∃ lv ls, σ' = [some (.ref p), some (.int (m : Int)), some (.int (d : Int)), some (.ref sa), some lv] ∧ Same H2 H' ∧ Dp K H' lv (lnsD ls) ∧ ls.length ≤ m ∧ (∀ l ∈ ls, LnDr sg d l) ∧ (toldB ls).length ≤ 40)
      (fun NX hNX => ?_) (fun σ' H3 h => ?_)
    · refine ⟨fun n σ' H' => ∃ lv ls, σ' = [some (.ref p), some (.int (m : Int)), some (.int (d : Int)), some (.ref sa), some lv] ∧ Same H2 H' ∧ Dp K H' lv (lnsD ls) ∧ ls.length ≤ m ∧ (∀ l ∈ ls, LnDr sg d l) ∧ n = ls.length, ⟨_, lv, ls0, rfl, Same.refl _, dl0, hll0, hls0, rfl⟩, ?_⟩
      rintro n σ' H3 ⟨lv, ls, rfl, s3, dl, hll, hls, rfl⟩
      have hcn : cntL ls ≤ 50000 := by
        have h1 := cntL_le (n := siz d) fun x hx => ⟨(hls x hx).one.sz, (hls x hx).two.sz⟩
        have h2 : ls.length * (2 * siz d) ≤ m * (2 * siz d) := Nat.mul_le_mul_right _ hll
        omega
      refine ⟨_, rfl, lv, ls, rfl, dl, (fun x hx => ⟨⟨by have := (hls x hx).one.dp; omega, (hls x hx).one.ok.lay⟩, by have := (hls x hx).two.dp; omega, (hls x hx).two.ok.lay⟩), hcn, by omega, fun H4 pF us F s4 npF hpF dF nF mF => ?_⟩
      have hul : us.length = (F.map skeyD).length := by rw [dF.len, Tm.datas_len, List.length_map]
      have hsl : (srt us (F.map skeyD)).length = (toldB ls).length := by rw [(srt_perm hul).length_eq, dF.len, Tm.datas_len, toldB_len nF mF]
      refine ⟨pF, _, rfl, .inl (.inl (.inl hpF)), _, _, rfl, rfl, _, rfl, ?_⟩
      rw [hsl]
      by_cases h40 : (40 : Int) < (((toldB ls).length : Nat) : Int)
      · rw [decide_eq_true h40]
        refine ⟨fun σ' H' => ∃ m', m' < ls.length ∧ ∃ lv ls, σ' = [some (.ref p), some (.int (m : Int)), some (.int (d : Int)), some (.ref sa), some lv] ∧ Same H2 H' ∧ Dp K H' lv (lnsD ls) ∧ ls.length ≤ m ∧ (∀ l ∈ ls, LnDr sg d l) ∧ m' = ls.length, fun _ _ z => z, ?_⟩
        obtain ⟨la, xs, rfl, hs, ha⟩ := lnsAt dl
        have hxl : xs.length = ls.length := by rw [ha.len, List.length_map]
        have hl0 : 0 < ls.length := by
          cases ls with
          | nil => exact absurd h40 (by show ¬ (40 : Int) < ((([] : List Tm).length : Nat) : Int); decide)
          | cons x ls => rw [List.length_cons]; omega
        refine ⟨_, rfl, _, rfl, _, rfl, la, xs, rfl, SqT.same hs s4, fun z => absurd z (init_not (by omega)), fun _ r nr => ?_⟩
        rw [cutV_init]
        have s5 := s4.trans (same_new (o := .tup xs.dropLast) nr)
        refine ⟨ls.dropLast.length, by rw [List.length_dropLast]; omega, .ref r, ls.dropLast, rfl, s3.trans s5, ?_, by rw [List.length_dropLast]; omega, fun x hx => hls x (List.dropLast_subset _ hx), rfl⟩
        refine .tup (.inl (.inl upd_same)) ?_
        rw [List.map_dropLast]
        exact DpAll.init (DpAll.same s5 _ _ ha)
      · rw [decide_eq_false h40]
        exact hNX _ _ ⟨lv, ls, rfl, s3.trans s4, Dp.same s4 _ _ dl, hll, hls, by omega⟩
    · obtain ⟨lv, ls, rfl, s3, dl, hll, hls, h40⟩ := h
      refine ⟨_, rfl, _, rfl, (by show 2 ≤ sizeLine; decide), fun r nr => ?_⟩
      have s4 := s3.trans (same_new (o := .tup [.ref sa, lv]) nr)
      exact q _ r sa lv sg ls k2 c2 ((sm1.trans sm2).trans (Sm.same s4)) (hp2.same s4) (by omega) (by omega) (.inl (.inl upd_same)) (hsg2.imm (Imm.of s4)) ok (Dp.same (same_new (o := .tup [.ref sa, lv]) nr) _ _ dl) hls hll h40

end NB

namespace NB
open PySem PySem.Spec PyProof.Rows L2 LamX
/-! ### _law_is_term -/
theorem sc__law_is_term : FnScope ["_law_signs_here", "_law_thing", "_law_part"] ["_law_signs_here", "_law_thing"] (defScope s__law_is_term) := ⟨rfl, rfl, rfl, by decide +kernel, rfl, by decide +kernel, by decide +kernel⟩
def sp__law_is_term (K : PySem.W.Frag) (n : Nat) : Sp := fun vs H Q _ => ∃ sa sg v d, vs = [.ref sa, v] ∧ SgsAt K H sa sg ∧ SgFit sg ∧ Jp K H v d ∧ shortD d = true ∧ d.canLay0 = true ∧ d.depth < n ∧ n ≤ 60 ∧ ∀ H', Same H H' → Q (.bl (fitsD sg.reverse d)) H'
theorem ok__law_is_term {P : Program} {w : World} {K : PySem.W.Frag} {mg : Str → Option Value} {base : Heap} (T : Tx K mg) : ∀ n : Nat, FnOk P w K mg base CX0 n T.a__law_is_term T.d__law_is_term ["_law_signs_here", "_law_thing"] (sp__law_is_term K n)
  | 0 => FnOk.never fun vs H Q E ⟨sa, sg, v, d, _, _, _, _, _, _, h, _⟩ => absurd h (Nat.not_lt_zero _)
  | n + 1 => by
    have GRight := ok__law_is_term (P := P) (w := w) (base := base) T n
    refine T.F__law_is_term.ok (k := n) sc__law_is_term (fun vs H Q E h => ?_) (fun cdv A outer s H vs Q E hr h => ?_)
    · obtain ⟨sa, sg, v, d, rfl, _⟩ := h
      rfl
    · obtain ⟨sa, sg, v, d, rfl, hsg, ok, j, hsh, hly, hn, hn60, k⟩ := h
      have hzl : 100000 < sizeLine := by decide
      refine ⟨_, (pss_cons (ps_if (PW.pt (pw_or (pt_not (pt_val (pe_callB call_isi (by rfl) T.z_isinstance (by decide +kernel) (pa_cons (pv 1) (pa_cons (pe_bltn (v := .ty "tuple") (u := .type "tuple") (by rfl) T.z_tuple (by decide +kernel) rfl) pa_nil))))) (pw_or (pt_cmpR op_eq (pe_callB call_len_seq (by rfl) T.z_len (by decide +kernel) (pa_cons (pv 1) pa_nil)) pe_int (nomark _)) (pw_or1 (pt_not (pt_val (pe_callB call_isi (by rfl) T.z_isinstance (by decide +kernel) (pa_cons (pe_ix ix_tup (pv 1) pe_int (fun _ _ => rfl)) (pa_cons (pe_bltn (v := .ty "str") (u := .type "str") (by rfl) T.z_str (by decide +kernel) rfl) pa_nil))))))))) (pss_one (ps_ret pe_bl)) pss_nil) (pss_cons (ps_if (pt_cmpR (op_notInT (u65_of hr)) (pe_tup (pa_cons (pe_ix ix_tup (pv 1) pe_int (fun _ _ => rfl)) (pa_cons (pe_op op_sub (pe_callB call_len_seq (by rfl) T.z_len (by decide +kernel) (pa_cons (pv 1) pa_nil)) pe_int) pa_nil))) (pv 0) (by rfl)) (pss_one (ps_ret pe_bl)) pss_nil) (pss_one (ps_ret (pe_callB (cr_all rfl) (by rfl) T.z_all (by decide +kernel) (pa_cons (pe_lc (own := [("_law_part", 2)]) rfl sc__law_is_term.nd (pi_tup (pe_slice sl_tupA (pv 1) (po_some pe_int) po_none)) (blkOk_by (own := [("_law_part", 2)]) (N := ["_law_signs_here", "_law_thing", "_law_part"]) (sc := defScope s__law_is_term) (by decide +kernel)) (fun _ _ _ _ _ => (pg_name (i := 2) sc__law_is_term.nd rfl (by first | exact Or.inl rfl | exact Or.inr rfl))) (fun _ _ _ _ _ => pts_nil) (fun _ _ _ _ _ => (pe_call GRight (hr.mono (by first | decide | omega)) rfl T.m__law_is_term T.F__law_is_term.kp T.b__law_is_term .nil pass0 (pa_cons (pv 0) (pa_cons (pv 2) pa_nil))))) pa_nil)))))), ?_⟩
      obtain ⟨t, t1, t2⟩ := j.tyTup
      refine ⟨_, rfl, _, _, t, _, _, rfl, .ty "tuple", t1, t2, _, rfl, ?_⟩
      cases j with
      | bl b => exact k H (Same.refl H)
      | int i => exact k H (Same.refl H)
      | str x => exact k H (Same.refl H)
      | oth q1 q2 => exact k H (Same.refl H)
      | @tup a xs ds hs ha =>
        refine ⟨_, rfl, a, xs, rfl, .inr hs, rfl, _, rfl, ?_⟩
        cases ha with
        | nil => exact k H (Same.refl H)
        | @cons y0 ys d0 ps j0 ha =>
          have e0 : decide (V.int (((y0 :: ys).length : Nat) : Int) = V.int 0) = false := decide_eq_false fun z => by
            have := V.int.inj z
            rw [List.length_cons] at this
            omega
          rw [e0]
          refine ⟨_, rfl, a, _, _, _, rfl, rfl, hs, atI_nat (j := 0) rfl, ?_⟩
          obtain ⟨u, u1, u2⟩ := j0.tyStr
          refine ⟨_, _, u, _, _, rfl, .ty "str", u1, u2, _, rfl, ?_⟩
          cases j0 with
          | bl b => exact k H (Same.refl H)
          | int i => exact k H (Same.refl H)
          | tup q1 q2 => exact k H (Same.refl H)
          | oth q1 q2 => exact k H (Same.refl H)
          | str x =>
            have hyl : ys.length = ps.length := ha.len
            obtain ⟨hshl, hshs⟩ := shortD_tup hsh
            rw [List.length_cons] at hshl
            have hshp : shortsD ps = true := (Bool.and_eq_true_iff.mp (show (shortD (.str x) && shortsD ps) = true from hshs)).2
            rw [PyData.canLay0, PyData.canLayAll0, PyData.canLay0, Bool.and_eq_true_iff] at hly
            obtain ⟨hlx, hlp⟩ := hly
            rw [PyData.depth, PyData.depthAll, PyData.depth] at hn
            refine ⟨_, rfl, a, _, _, _, rfl, rfl, hs, atI_nat (j := 0) rfl, _, rfl, a, _, rfl, .inr hs, _, _, rfl, rfl, (by show 2 ≤ sizeLine; decide), fun q1 nq1 => ?_⟩
            have s1 := same_new (o := .tup [.str x, .int ((((V.str x :: ys).length : Nat) : Int) - 1)]) nq1
            have en : (((V.str x :: ys).length : Nat) : Int) - 1 = (ps.length : Int) := by rw [List.length_cons]; omega
            have hsg1 := hsg.imm (Imm.of s1)
            refine ⟨_, rfl, .tuple [.str x, .int ((((V.str x :: ys).length : Nat) : Int) - 1)], sg.map sg1, .tup (.inl (.inl upd_same)) (.cons (.str _) (.cons (.int _) .nil)), hsg1.dp, ?_, ok.shaped, _, rfl, ?_⟩
            · unfold SeqAt.shaped
              rw [PyData.canLay0, PyData.canLayAll0, PyData.canLayAll0, PyData.canLayAll0, PyData.canLay0, PyData.canLay0, hlx]
              rfl
            rw [sg_in, en, sgF_fit ok]
            rw [fitsD_nodeP] at k
            cases e1 : okPl (lookS sg.reverse x) (ps.length : Int) with
            | false =>
              rw [e1] at k
              exact k _ s1
            | true =>
              rw [e1] at k
              have hs1 := SqT.same hs s1
              have ha1 := JpAll.same s1 _ _ ha
              generalize upd H q1 _ = H1 at s1 hsg1 hs1 ha1 ⊢
              refine ⟨_, rfl, 1, rfl, a, _, rfl, hs1, fun z => absurd z (whole_not ys.length none), fun _ q2 nq2 => ?_⟩
              rw [cutV_tail (α := V)]
              have s2 := same_new (o := .tup ys) nq2
              refine ⟨q2, rfl, ⟨_, .inl (.inl upd_same)⟩, fun D nD => ?_⟩
              have hfa := fitsA_all sg.reverse ps
              refine lc_tup (K := K) (a := q2) (xs := ys) (fun i H' => Same (upd H1 q2 (.tup ys)) H' ∧ H' D = some (.lst ((ps.take i).map fun d => V.bl (fitsD sg.reverse d))))
                ⟨same_new nD, upd_same⟩ (fun i H' _ q => SqT.same (.inl (.inl upd_same)) q.1) (fun i y H' hy q => ?_) (fun H' q => ?_)
              · have hi : i < ps.length := by
                  have := (List.getElem?_eq_some_iff.mp hy).1
                  omega
                have hdi : ps[i]? = some ps[i] := List.getElem?_eq_getElem hi
                obtain ⟨d', hd', jd'⟩ := ha1.get hy
                rw [hdi] at hd'
                cases hd'
                have hmem : ps[i] ∈ ps := List.getElem_mem hi
                have hdep := depthAll_mem hmem
                refine ⟨rfl, _, rfl, _, rfl, sa, sg, y, ps[i], rfl, hsg1.imm (Imm.of (s2.trans q.1)), ok, Jp.same (s2.trans q.1) _ _ jd', shortsD_get hshp hdi, canLay_mem hlp hmem, by omega, by omega, fun H2 s3 => ⟨_, s3 _ _ q.2, ?_, (q.1.trans s3).upd nD, ?_⟩⟩
                · rw [List.length_map, List.length_take]
                  omega
                · rw [upd_same, take_snoc hdi, List.map_append]
                  rfl
              · rw [hyl, List.take_length] at q
                refine ⟨D, ps.map (fitsD sg.reverse), rfl, .inl (.inl (by rw [q.2, List.map_map]; rfl)), ?_⟩
                rw [all_map, ← hfa]
                exact k _ (s1.trans (s2.trans q.1))

end NB

namespace NB
open PySem PySem.Spec PyProof.Rows L2 LamX
/-! ### _law_word -/
theorem sc__law_word : FnScope ["_law_door", "_law_lore_here", "_law_one", "_law_other", "_law_found", "e"] ["_law_door", "_law_lore_here", "_law_one", "_law_other"] (defScope s__law_word) := ⟨rfl, rfl, rfl, by decide +kernel, rfl, by decide +kernel, by decide +kernel⟩
theorem tC_open2 {v : V} {σ : L2.St} {H : Hp} {Q : VK} (h : Q v H) : tC v σ H Q := h
def wd15 (P : Program) (w : World) (K : PySem.W.Frag) (C N f0 f1 f2 : Addr) (Tt : List (Addr × Str)) : Addr → Sp → Prop := fun f sp => (f = f0 ∧ sp = sp_class_of P w K C N Tt) ∨ (f = f1 ∧ sp = sp_size K C N) ∨ (f = f2 ∧ sp = sp_term_text K C N Tt)
theorem wd15_held {P : Program} {w : World} {K : PySem.W.Frag} {mg : Str → Option Value} {base : Heap} (T : Tx K mg) (Tt : List (Addr × Str)) (GCls : FnOk P w K mg base (L2.CX P w) 10 T.a_class_of T.d_class_of ["lore", "term"] (sp_class_of P w K T.c_Lore T.c_NoTerm Tt)) : ∀ f sp, wd15 P w K T.c_Lore T.c_NoTerm T.a_class_of T.a_size T.a_term_text Tt f sp → ∃ (fd : FuncData) (ps : List Str), FnOk P w K mg base (L2.CX P w) 12 f fd ps sp ∧ PySem.W.keepIn K (.ref f) = true ∧ L2.Binds K fd ps [] := by
  rintro f sp (⟨rfl, rfl⟩ | ⟨rfl, rfl⟩ | ⟨rfl, rfl⟩)
  · exact ⟨_, _, GCls.mono (by decide), T.F_class_of.kp, T.b_class_of⟩
  · exact ⟨_, _, (ok_size T).mono (by decide), T.F_size.kp, T.b_size⟩
  · exact ⟨_, _, (ok_term_text T Tt).mono (by decide), T.F_term_text.kp, T.b_term_text⟩
def sp__law_word (K : PySem.W.Frag) (C : Addr) (Tt : List (Addr × Str)) : Sp := fun vs H Q _ => ∃ (door : Nat) (p : Addr) (v1 v2 : V) (d1 : PyData) (sg : List Sg) (ls : List Ln), vs = [.int (door : Int), .ref p, v1, v2] ∧ Tabs Tt H ∧ LoreAt K C H p sg ls ∧ (∀ q ∈ sg, q.1.length ≤ 100) ∧ cntL ls ≤ 50000 ∧ ls.length ≤ 50000 ∧ (∀ t ∈ toldB ls, (Tm.pre t).length ≤ 100000) ∧ Jp K H v1 d1 ∧ shortD d1 = true ∧ cntD d1 ≤ 100000 ∧
  ((door < 3 ∧ ∀ H', Fr Tt [] H H' → Q (.str (if fitsD sg.reverse d1 then "let" else "term")) H') ∨
   (door = 3 ∧ ∃ d2, Jp K H v2 d2 ∧ shortD d2 = true ∧ cntD d2 ≤ 100000 ∧ ∀ H', Fr Tt [] H H' → Q (.str (if fitsD sg.reverse d1 && fitsD sg.reverse d2 then "let" else "term")) H'))
theorem ok__law_word {P : Program} {w : World} {K : PySem.W.Frag} {mg : Str → Option Value} {base : Heap} (T : Tx K mg) (Tt : List (Addr × Str)) (GT : FnOk P w K mg base CX0 4 T.a_Bank_take T.d_Bank_take ["self", "term"] (sp_Bank_take P w K T.c_Bank Tt)) (GAsc : FnOk P w K mg base CX0 5 T.a_ascending T.d_ascending ["bank"] (sp_ascending P w K T.c_Bank Tt)) (GSpt : FnOk P w K mg base CX0 6 T.a_Spots_spot_of T.d_Spots_spot_of ["self", "term"] (sp_Spots_spot_of P w K T.c_Spots Tt)) (GCls : FnOk P w K mg base (L2.CX P w) 10 T.a_class_of T.d_class_of ["lore", "term"] (sp_class_of P w K T.c_Lore T.c_NoTerm Tt)) : FnOk P w K mg base CX0 22 T.a__law_word T.d__law_word ["_law_door", "_law_lore_here", "_law_one", "_law_other"] (sp__law_word K T.c_Lore Tt) := by
  refine T.F__law_word.ok sc__law_word (fun vs H Q E h => ?_) (fun cdv A outer s H vs Q E hr h => ?_)
  · obtain ⟨door, p, v1, v2, d1, sg, ls, rfl, _⟩ := h
    rfl
  · obtain ⟨door, p, v1, v2, d1, sg, ls, rfl, hT, hp, hw, hcl, hll, hpre, j1, hsh1, hc1, h⟩ := h
    have hu := hu_of hr
    refine ⟨_, (pss_cons (ps_set (i := 4) sc__law_word.nd rfl (by first | exact Or.inl rfl | exact Or.inr rfl) pe_str) (pss_cons (ps_try_as (i := 5) rfl rfl sc__law_word.nd rfl rfl ⟨rfl, by decide, .inl T.m_LoreError⟩ L2.takes0 (fun W pn xe tk po => by exact (pss_one (ps_if (pt_cmpR op_lt (pv 0) pe_int (nomark _)) (pss_one (ps_expr (pe_callXS (S := wd15 P w K T.c_Lore T.c_NoTerm T.a_class_of T.a_size T.a_term_text Tt) (wd15_held T Tt GCls) (hr.mono (by first | decide | omega)) (fun σ => passAt tk σ) (pe_ix (show IxR _ (rIxL K) from ix_list) (pe_lst (pa_cons (pe_glob (v := .ref T.a_class_of) rfl T.m_class_of rfl) (pa_cons (pe_glob (v := .ref T.a_size) rfl T.m_size rfl) (pa_cons (pe_glob (v := .ref T.a_term_text) rfl T.m_term_text rfl) pa_nil)))) (pv 0) (fun _ _ => rfl)) (pa_cons (pv 1) (pa_cons (pv 2) pa_nil))))) (pss_one (ps_expr (pe_callS (ok_equal (P := P) (w := w) T Tt GT GAsc GSpt) (hr.mono (by first | decide | omega)) rfl T.m_equal T.F_equal.kp T.b_equal (fun σ => passAt tk σ) (pa_cons (pv 1) (pa_cons (pv 2) (pa_cons (pv 3) pa_nil))))))))) (fun a oe cls d pn hz hf => by exact (pss_one (ps_set (i := 4) sc__law_word.nd rfl (by first | exact Or.inl rfl | exact Or.inr rfl) (pe_ifExp (PW.pt (pw_and (pt_val (pe_callB (call_isM hz hf) (by rfl) T.z_isinstance (by decide +kernel) (by exact (pa_cons (pv 5) (pa_cons (pe_glob (v := .ref T.c_NoTerm) rfl T.m_NoTerm rfl) pa_nil))))) (pw_and1 (pt_val (pe_callB (call_isM hz hf) (by rfl) T.z_isinstance (by decide +kernel) (by exact (pa_cons (pv 5) (pa_cons (pe_bltn (v := .ty "ValueError") (u := .type "ValueError") (by rfl) T.z_ValueError (by decide +kernel) rfl) pa_nil)))))))) pe_str pe_str))))) (pss_one (ps_ret (pv 4))))), ?_⟩
    refine seq_asg ?_
    refine tC_open2 ?_
    dsimp only [gName]
    rcases h with ⟨hd, k⟩ | ⟨rfl, d2, j2, hsh2, hc2, k⟩
    · refine ⟨_, rfl, _, _, rfl, rfl, _, rfl, ?_⟩
      dsimp only
      rw [if_pos (show decide ((door : Int) < 3) = true from decide_eq_true (by omega))]
      rcases (show door = 0 ∨ door = 1 ∨ door = 2 by omega) with rfl | rfl | rfl
      · refine ⟨(by show 3 ≤ sizeLine; decide), fun L nL => ⟨_, rfl, L, _, _, _, rfl, rfl, .inl (.inl upd_same), atI_nat (j := 0) rfl, T.a_class_of, _, rfl, .inl ⟨rfl, rfl⟩, _, rfl, _, rfl, ?_⟩⟩
        have s1 := same_new (o := .lst [.ref T.a_class_of, .ref T.a_size, .ref T.a_term_text]) nL
        have f1 := Fr.same (T := Tt) (S := []) s1
        refine ⟨p, v1, d1, sg, ls, rfl, hp.fr f1, Jp.same s1 _ _ j1, hsh1, hc1, hcl, hll, hpre, hT.ext s1, fun t _ e H' o f => ?_, fun e H' f => ?_⟩
        · have g := k H' (f1.trans f)
          rw [e, if_pos rfl] at g
          exact ⟨_, rfl, g⟩
        · have f2 := f1.trans f
          refine ⟨true, T.e_NoTerm_LoreError, fun _ a na => ?_, fun z => absurd z (by decide)⟩
          refine ⟨_, rfl, T.c_NoTerm, rfl, rfl, T.ex_NoTerm, _, _, true, rfl, (fun u hu => hu), T.k_NoTerm_NoTerm, _, rfl, ?_⟩
          dsimp only
          rw [if_pos rfl]
          refine ⟨_, rfl, T.c_NoTerm, rfl, rfl, T.ex_NoTerm, _, _, true, rfl, (fun u hu => hu), T.k_NoTerm_ValueError, _, rfl, ?_⟩
          dsimp only
          rw [if_pos rfl]
          refine tC_open2 ?_
          dsimp only [gName]
          have g := k _ f2
          rw [e, if_neg (by decide)] at g
          exact ⟨_, rfl, g⟩
      · refine ⟨(by show 3 ≤ sizeLine; decide), fun L nL => ⟨_, rfl, L, _, _, _, rfl, rfl, .inl (.inl upd_same), atI_nat (j := 1) rfl, T.a_size, _, rfl, .inr (.inl ⟨rfl, rfl⟩), _, rfl, _, rfl, ?_⟩⟩
        have s1 := same_new (o := .lst [.ref T.a_class_of, .ref T.a_size, .ref T.a_term_text]) nL
        have f1 := Fr.same (T := Tt) (S := []) s1
        refine ⟨p, v1, d1, sg, ls, rfl, hp.fr f1, Jp.same s1 _ _ j1, hsh1, hc1, fun t _ e H' s2 => ?_, fun e H' s2 => ?_⟩
        · have f := Fr.same (T := Tt) (S := []) s2
          have g := k H' (f1.trans f)
          rw [e, if_pos rfl] at g
          exact ⟨_, rfl, g⟩
        · have f := Fr.same (T := Tt) (S := []) s2
          have f2 := f1.trans f
          refine ⟨true, T.e_NoTerm_LoreError, fun _ a na => ?_, fun z => absurd z (by decide)⟩
          refine ⟨_, rfl, T.c_NoTerm, rfl, rfl, T.ex_NoTerm, _, _, true, rfl, (fun u hu => hu), T.k_NoTerm_NoTerm, _, rfl, ?_⟩
          dsimp only
          rw [if_pos rfl]
          refine ⟨_, rfl, T.c_NoTerm, rfl, rfl, T.ex_NoTerm, _, _, true, rfl, (fun u hu => hu), T.k_NoTerm_ValueError, _, rfl, ?_⟩
          dsimp only
          rw [if_pos rfl]
          refine tC_open2 ?_
          dsimp only [gName]
          have g := k _ f2
          rw [e, if_neg (by decide)] at g
          exact ⟨_, rfl, g⟩
      · refine ⟨(by show 3 ≤ sizeLine; decide), fun L nL => ⟨_, rfl, L, _, _, _, rfl, rfl, .inl (.inl upd_same), atI_nat (j := 2) rfl, T.a_term_text, _, rfl, .inr (.inr ⟨rfl, rfl⟩), _, rfl, _, rfl, ?_⟩⟩
        have s1 := same_new (o := .lst [.ref T.a_class_of, .ref T.a_size, .ref T.a_term_text]) nL
        have f1 := Fr.same (T := Tt) (S := []) s1
        refine ⟨p, v1, d1, sg, ls, rfl, hp.fr f1, Jp.same s1 _ _ j1, hsh1, hc1, hw, fun t _ e H' f => ?_, fun e H' f => ?_⟩
        · have g := k H' (f1.trans f)
          rw [e, if_pos rfl] at g
          exact ⟨_, rfl, g⟩
        · have f2 := f1.trans f
          refine ⟨true, T.e_NoTerm_LoreError, fun _ a na => ?_, fun z => absurd z (by decide)⟩
          refine ⟨_, rfl, T.c_NoTerm, rfl, rfl, T.ex_NoTerm, _, _, true, rfl, (fun u hu => hu), T.k_NoTerm_NoTerm, _, rfl, ?_⟩
          dsimp only
          rw [if_pos rfl]
          refine ⟨_, rfl, T.c_NoTerm, rfl, rfl, T.ex_NoTerm, _, _, true, rfl, (fun u hu => hu), T.k_NoTerm_ValueError, _, rfl, ?_⟩
          dsimp only
          rw [if_pos rfl]
          refine tC_open2 ?_
          dsimp only [gName]
          have g := k _ f2
          rw [e, if_neg (by decide)] at g
          exact ⟨_, rfl, g⟩
    · refine ⟨_, rfl, _, _, rfl, rfl, _, rfl, ?_⟩
      dsimp only
      rw [if_neg (show ¬ decide (((3 : Nat) : Int) < 3) = true from by decide)]
      refine ⟨_, rfl, _, rfl, _, rfl, p, v1, d1, v2, d2, sg, ls, rfl, hp, j1, hsh1, hc1, j2, hsh2, hc2, hcl, hll, hpre, hT, fun e1 e2 H' b f => ?_, fun e H' f => ?_⟩
      · have g := k H' f
        rw [e1, e2] at g
        exact ⟨_, rfl, g⟩
      · have f1 : Fr Tt [] H H := Fr.refl H
        have e' : (fitsD sg.reverse d1 && fitsD sg.reverse d2) = false := by
          rcases e with e | e
          · rw [e, Bool.false_and]
          · rw [e, Bool.and_false]
        rw [e'] at k
        have f2 := f1.trans f
        refine ⟨true, T.e_NoTerm_LoreError, fun _ a na => ?_, fun z => absurd z (by decide)⟩
        refine ⟨_, rfl, T.c_NoTerm, rfl, rfl, T.ex_NoTerm, _, _, true, rfl, (fun u hu => hu), T.k_NoTerm_NoTerm, _, rfl, ?_⟩
        dsimp only
        rw [if_pos rfl]
        refine ⟨_, rfl, T.c_NoTerm, rfl, rfl, T.ex_NoTerm, _, _, true, rfl, (fun u hu => hu), T.k_NoTerm_ValueError, _, rfl, ?_⟩
        dsimp only
        rw [if_pos rfl]
        refine tC_open2 ?_
        dsimp only [gName]
        have g := k _ f2
        rw [if_neg (by decide)] at g
        exact ⟨_, rfl, g⟩

end NB

namespace NB
open PySem PySem.Spec PyProof.Rows L2 LamX
/-- what a turn knows: its spec and its lore -/
structure K4 (K : PySem.W.Frag) (C : Addr) (Tt : List (Addr × Str)) (p cs : Addr) (z : Int) (r sa : Addr) (lv : V) (sg : List Sg) (ls : List Ln) (lo : Addr) (k : Int) (c : List Int) (H : Hp) : Prop where
  turn : TurnAt K C Tt p cs z r sa lv sg ls k H
  lore : LoreAt K C H lo sg ls
  pool : PoolAt H p cs z k c
section
variable {K : PySem.W.Frag} {C : Addr} {Tt : List (Addr × Str)} {p cs : Addr} {z : Int} {r sa lo : Addr} {lv : V} {sg : List Sg} {ls : List Ln} {k k' : Int} {c c' : List Int} {H H' : Hp}
theorem K4.fr (h : K4 K C Tt p cs z r sa lv sg ls lo k c H) (f : Fr Tt [] H H') : K4 K C Tt p cs z r sa lv sg ls lo k c H' := ⟨h.turn.fr f, h.lore.fr f, h.pool.fr f⟩
theorem K4.same (h : K4 K C Tt p cs z r sa lv sg ls lo k c H) (s : Same H H') : K4 K C Tt p cs z r sa lv sg ls lo k c H' := h.fr (Fr.same s)
theorem K4.sm (h : K4 K C Tt p cs z r sa lv sg ls lo k c H) (e : Sm [p, cs] H H') (hp : PoolAt H' p cs z k' c') : K4 K C Tt p cs z r sa lv sg ls lo k' c' H' := ⟨h.turn.sm e hp, h.lore.sm h.pool e, hp⟩
end
section
variable {K : PySem.W.Frag} {O : List Addr} {H1 : Hp} {σ : L2.St} {c e n : Nat} {t : TE} {ts : TA}
theorem GE.var {i : Nat} {v : V} (h : σ[i]? = some (some v)) (g : Gd K O c e H1 v) : GE K O H1 σ c e (tVar i) := fun H Q s q => ⟨v, h, q H v (Same.refl H) (g.same s)⟩
theorem GE.intA (h1 : 1 ≤ c) {i : Int} : GE K O H1 σ c e (tC (.int i)) := GE.con fun _ => Gd.int h1
/-- a sign of one letter and nothing under it -/
theorem GE.leaf (hO : ∀ b ∈ O, ∃ ys, H1 b = some (.lst ys)) {x : Str} (h2 : x.length ≤ 100000) (h3 : PyData.strOk x = true) : GE K O H1 σ 2 (e + 1) (tTupZ (tCons (tC (.str x)) tNil)) := GE.tupZ hO (JE.cons (GE.strA (Nat.le_refl 1) h2 h3) JE.nil) (by decide)
theorem GE.deep (hO : ∀ b ∈ O, ∃ ys, H1 b = some (.lst ys)) (h1 : 1 ≤ c) : GE K O H1 σ c e (tCall (sp__law_deep K) [] E0 tNil) := fun H Q s q =>
  ⟨rfl, fun G2 r xs s3 nl hl => q _ _ s3 (Gd.lst h1 hl fun m => by
    obtain ⟨ys, hy⟩ := hO r m
    have := s _ _ hy
    rw [nl] at this
    cases this)⟩
/-- a list's item that can be judged -/
theorem GA.item {H : Hp} {vs : List V} {j : Nat} (g : GdAll K O c e H vs) (h : j < vs.length) : ∃ v, vs[j]? = some v ∧ Gd K O c e H v := ⟨_, List.getElem?_eq_getElem h, g _ (List.getElem_mem h)⟩
end
theorem tupZ_open {K : PySem.W.Frag} {O : List Addr} {H1 H : Hp} {σ : L2.St} {c e n : Nat} {ts : TA} {Q : VK} (h : JE K O H1 σ n c e ts) (hn : n ≤ 100000) (s : Same H1 H)
    (q : ∀ H' xs l o, Same H H' → JGAll K O H' xs n c e → xs.length = n → H' l = some (.frz o (.tup xs)) → Q (.ref l) H') : tTupZ ts σ H Q :=
  h H _ s fun H2 vs s2 g l2 => ⟨by rw [l2]; have : 100000 < sizeLine := by decide
                                   omega, fun p o h1 h2 np => q _ _ _ o (s2.trans (same_new np)) (g.same (same_new np)) l2 upd_same⟩
theorem asg_open {te : TE} {g : TG} {D : Ends} {σ : L2.St} {H : Hp} (h : te σ H fun x H1 => g x σ H1 D.nx) : tAsg te g D σ H := h
theorem lst_cons {t : TE} {ts : TA} {σ : L2.St} {H : Hp} {Q : VK} (h : t σ H fun x H1 => ts σ H1 fun xs H2 => (x :: xs).length ≤ sizeLine ∧ ∀ p, H2 p = none → Q (.ref p) (upd H2 p (.lst (x :: xs)))) : tLst (tCons t ts) σ H Q := h
theorem ne_word {K : PySem.W.Frag} {H : Hp} {x : Str} {Q : VK} (hx : SeqAt.shaped (.str x) = true) (h : Q (.bl false) H) : rNeD K (.str x) (.str x) H Q := ⟨.str x, .str x, .str x, .str x, hx, hx, by rw [SeqAt.eqv_refl _ (SeqAt.canLay_of_shaped hx)]; exact h⟩
/-- 'term' or 'let', by a truth value -/
theorem pickW {K : PySem.W.Frag} {σ : L2.St} {H : Hp} {Q : VK} {te : TE} {b : Bool} (h : ∀ (G : Hp) (Q' : VK), Same H G → Q' (.bl b) G → te σ G Q') (q : ∀ H', Same H H' → Q (.str (if b then "let" else "term")) H') :
    tOp (rIxL K) (tLst (tCons (tC (.str "term")) (tCons (tC (.str "let")) tNil))) (tCB (fun xs H Q => (∃ i, xs = [V.int i] ∧ Q (V.int i) H) ∨ ∃ k, xs = [V.bl k] ∧ Q (V.int (if k = true then 1 else 0)) H) (tCons te tNil)) σ H Q := by
  refine ⟨(by show 2 ≤ sizeLine; decide), fun M nM => ?_⟩
  have sM := same_new (o := .lst [V.str "term", .str "let"]) nM
  refine h _ _ sM (.inr ⟨b, rfl, ?_⟩)
  cases b with
  | true => exact ⟨M, _, _, _, rfl, rfl, .inl (.inl upd_same), atI_nat (j := 1) rfl, q _ sM⟩
  | false => exact ⟨M, _, _, _, rfl, rfl, .inl (.inl upd_same), atI_nat (j := 0) rfl, q _ sM⟩
theorem ne_pick {K : PySem.W.Frag} {H : Hp} {b : Bool} {Q : VK} (h : Q (.bl false) H) : rNeD K (.str (if b then "let" else "term")) (.str (if b then "let" else "term")) H Q := by
  cases b with
  | true => exact ne_word (x := "let") (by decide +kernel) h
  | false => exact ne_word (x := "term") (by decide +kernel) h
theorem signs_100 {sg : List Sg} (h : signsD (sgsD sg) = true) : ∀ q ∈ sg, q.1.length ≤ 100 := by
  obtain ⟨n12, hall, _⟩ := signs_parts h
  intro e m
  have q1 := List.all_eq_true.mp hall (sg1 e) (List.mem_map.mpr ⟨e, m, rfl⟩)
  unfold sg1 placedD at q1
  rw [Bool.and_eq_true_iff] at q1
  have q2 : signS e.1 = true := q1.1
  unfold signS at q2
  rw [Bool.and_eq_true_iff, Bool.and_eq_true_iff] at q2
  have q3 := of_decide_eq_true q2.2.1
  omega
/-- what is told by drawn lines is small -/
theorem told_small {sg : List Sg} {ls : List Ln} {d : Nat} (h : ∀ l ∈ ls, LnDr sg d l) : ∀ t ∈ toldB ls, (Tm.pre t).length ≤ siz d := fun t m => by
  unfold toldB at m
  rw [mem_addLs] at m
  rcases m with z | ⟨l, hl, z | z⟩
  · exact nomatch z
  · exact Nat.le_trans (pre_mem_len _ _ z) (h l hl).one.sz
  · exact Nat.le_trans (pre_mem_len _ _ z) (h l hl).two.sz
/-- a turn with two things, a term, and what is right of the two -/
structure K15 (K : PySem.W.Frag) (C : Addr) (Tt : List (Addr × Str)) (p cs : Addr) (z : Int) (r sa : Addr) (lv : V) (sg : List Sg) (ls : List Ln) (lo : Addr) (k : Int) (c : List Int) (y1 y2 v : V) (d1 d2 : PyData) (t : Tm) (D : Addr) (b1 b2 : Bool) (H : Hp) : Prop where
  base : K4 K C Tt p cs z r sa lv sg ls lo k c H
  one : Jp K H y1 d1
  two : Jp K H y2 d2
  tm : Jp K H v (Tm.data t)
  list : H D = some (.lst [.bl b1, .bl b2])
theorem K15.fr {K : PySem.W.Frag} {C : Addr} {Tt : List (Addr × Str)} {p cs : Addr} {z : Int} {r sa : Addr} {lv : V} {sg : List Sg} {ls : List Ln} {lo : Addr} {k : Int} {c : List Int} {y1 y2 v : V} {d1 d2 : PyData} {t : Tm} {D : Addr} {b1 b2 : Bool} {H H' : Hp}
    (h : K15 K C Tt p cs z r sa lv sg ls lo k c y1 y2 v d1 d2 t D b1 b2 H) (f : Fr Tt [] H H') : K15 K C Tt p cs z r sa lv sg ls lo k c y1 y2 v d1 d2 t D b1 b2 H' :=
  ⟨h.base.fr f, Jp.ext f.kp.ext _ _ h.one, Jp.ext f.kp.ext _ _ h.two, Jp.ext f.kp.ext _ _ h.tm, f.kp D _ h.list (fun z => nomatch z) (fun _ z => nomatch z)⟩

end NB

namespace NB
open PySem PySem.Spec PyProof.Rows L2 LamX
/-! ### law -/
theorem sc_law : FnScope ["_law_script", "_law_pool_here", "_law_turn", "_law_spec", "_law_lore_here", "_law_term_here", "_law_odd", "_law_one", "_law_other", "_law_thing", "_law_right", "_law_door"] ["_law_script"] (defScope s_law) := ⟨rfl, rfl, rfl, by decide +kernel, rfl, by decide +kernel, by decide +kernel⟩
def sp_law (K : PySem.W.Frag) (Tt : List (Addr × Str)) : Sp := fun vs H Q _ => ∃ (a : Addr) (ns : List Int), vs = [.ref a] ∧ SqL K H a (ns.map V.int) ∧ ns.length ≤ 63 ∧ Tabs Tt H ∧ ∀ H', Q (.bl true) H'
theorem ok_law {P : Program} {w : World} {K : PySem.W.Frag} {mg : Str → Option Value} {base : Heap} (T : Tx K mg) (Tt : List (Addr × Str)) (GT : FnOk P w K mg base CX0 4 T.a_Bank_take T.d_Bank_take ["self", "term"] (sp_Bank_take P w K T.c_Bank Tt)) (GAsc : FnOk P w K mg base CX0 5 T.a_ascending T.d_ascending ["bank"] (sp_ascending P w K T.c_Bank Tt)) (GSpt : FnOk P w K mg base CX0 6 T.a_Spots_spot_of T.d_Spots_spot_of ["self", "term"] (sp_Spots_spot_of P w K T.c_Spots Tt)) (GCls : FnOk P w K mg base (L2.CX P w) 10 T.a_class_of T.d_class_of ["lore", "term"] (sp_class_of P w K T.c_Lore T.c_NoTerm Tt)) (hIns : ∀ H a dx fs, H a = some (.ins T.c_Lore dx fs) → TyX K H (.ref a) (.ref T.c_Lore)) (hOth : othOk K (.ref T.c_Lore)) : FnOk P w K mg base CX0 61 T.a_law T.d_law ["_law_script"] (sp_law K Tt) := by
  refine T.F_law.ok sc_law (fun vs H Q E h => ?_) (fun cdv A outer s H vs Q E hr h => ?_)
  · obtain ⟨a, ns, rfl, _⟩ := h
    rfl
  · obtain ⟨a, ns, rfl, hs, hl, hT, q⟩ := h
    have GTerm := ok__law_term (P := P) (w := w) (base := base) T 39
    have GRight := ok__law_is_term (P := P) (w := w) (base := base) T 60
    have hu := hu_of hr
    have hzl : 100000 < sizeLine := by decide
    refine ⟨_, (pss_cons (ps_set (i := 1) sc_law.nd rfl (by first | exact Or.inl rfl | exact Or.inr rfl) (pe_call (ok__law_pool T) (hr.mono (by first | decide | omega)) rfl T.m__law_pool T.F__law_pool.kp T.b__law_pool .nil pass0 (pa_cons (pv 0) pa_nil))) (pss_cons (ps_for PassesOwn.never rfl (pi_range1 (by rfl) T.z_range (pa_cons pe_int pa_nil)) (pg_name (i := 2) sc_law.nd rfl (by first | exact Or.inl rfl | exact Or.inr rfl)) (pss_cons (ps_set (i := 3) sc_law.nd rfl (by first | exact Or.inl rfl | exact Or.inr rfl) (pe_call (ok__law_lore T) (hr.mono (by first | decide | omega)) rfl T.m__law_lore T.F__law_lore.kp T.b__law_lore .nil pass0 (pa_cons (pv 1) (pa_cons pe_int (pa_cons pe_int pa_nil))))) (pss_cons (ps_set (i := 4) sc_law.nd rfl (by first | exact Or.inl rfl | exact Or.inr rfl) (pe_call (ok__law_made (P := P) (w := w) T Tt GT) (hr.mono (by first | decide | omega)) rfl T.m__law_made T.F__law_made.kp T.b__law_made .nil pass0 (pa_cons (pv 3) pa_nil))) (pss_cons (ps_set (i := 5) sc_law.nd rfl (by first | exact Or.inl rfl | exact Or.inr rfl) (pe_call GTerm (hr.mono (by first | decide | omega)) rfl T.m__law_term T.F__law_term.kp T.b__law_term .nil pass0 (pa_cons (pv 1) (pa_cons (pe_ix ix_tup (pv 3) pe_int (fun _ _ => rfl)) (pa_cons pe_int pa_nil))))) (pss_cons (ps_set (i := 6) sc_law.nd rfl (by first | exact Or.inl rfl | exact Or.inr rfl) (pe_lst (pa_cons pe_non (pa_cons pe_int (pa_cons pe_bl (pa_cons pe_str (pa_cons (pe_lst (pa_cons pe_str pa_nil)) (pa_cons (pe_tupZ pa_nil) (pa_cons (pe_tupZ (pa_cons pe_str pa_nil)) (pa_cons (pe_tupZ (pa_cons pe_str pa_nil)) (pa_cons (pe_tupZ (pa_cons pe_non pa_nil)) (pa_cons (pe_tupZ (pa_cons pe_str (pa_cons (pe_tupZ (pa_cons pe_str pa_nil)) pa_nil))) (pa_cons (pe_op op_catA (pv 5) (pe_tupZ (pa_cons (pe_tupZ (pa_cons pe_str pa_nil)) pa_nil))) (pa_cons (pe_tupZ (pa_cons (pv 5) pa_nil)) (pa_cons pe_dnewK (pa_cons (pv 4) (pa_cons (pe_call0 (ok__law_deep T) (hr.mono (by first | decide | omega)) rfl T.m__law_deep T.F__law_deep.kp T.b__law_deep .nil pass0) pa_nil))))))))))))))))) (pss_cons (ps_set (i := 6) sc_law.nd rfl (by first | exact Or.inl rfl | exact Or.inr rfl) (pe_op op_cat (pv 6) (pe_lst (pa_cons (pe_tupZ (pa_cons (pe_ix ix_tup (pv 5) pe_int (fun _ _ => rfl)) (pa_cons (pv 5) (pa_cons (pv 5) pa_nil)))) (pa_cons (pe_slice sl_tupA (pv 5) po_none (po_some (pe_un un_neg pe_int))) (pa_cons (pv 5) pa_nil)))))) (pss_cons (ps_par (i := 7) (j := 8) (by rfl) sc_law.nd rfl rfl (by decide) rfl rfl (pa_cons (pe_ix ix_list (pv 6) (pe_call (ok__law_draw T) (hr.mono (by first | decide | omega)) rfl T.m__law_draw T.F__law_draw.kp T.b__law_draw .nil pass0 (pa_cons (pv 1) (pa_cons pe_int pa_nil))) (fun _ _ => rfl)) (pa_cons (pe_ix ix_list (pv 6) (pe_call (ok__law_draw T) (hr.mono (by first | decide | omega)) rfl T.m__law_draw T.F__law_draw.kp T.b__law_draw .nil pass0 (pa_cons (pv 1) (pa_cons pe_int pa_nil))) (fun _ _ => rfl)) pa_nil)) (by rfl)) (pss_cons (ps_setLc (i := 10) (own := [("_law_thing", 9)]) rfl sc_law.nd rfl rfl (sw_true rfl rfl rfl (by decide +kernel)) (pi_tup (pe_tupZ (pa_cons (pv 7) (pa_cons (pv 8) pa_nil)))) (blkOk_by (own := [("_law_thing", 9)]) (N := ["_law_script", "_law_pool_here", "_law_turn", "_law_spec", "_law_lore_here", "_law_term_here", "_law_odd", "_law_one", "_law_other", "_law_thing", "_law_right", "_law_door"]) (sc := defScope s_law) (by decide +kernel)) (fun _ _ _ _ _ => (pg_name (i := 9) sc_law.nd rfl (by first | exact Or.inl rfl | exact Or.inr rfl))) (fun _ _ _ _ _ => pts_nil) (fun _ _ _ _ _ => (pe_call GRight (hr.mono (by first | decide | omega)) rfl T.m__law_is_term T.F__law_is_term.kp T.b__law_is_term .nil pass0 (pa_cons (pe_ix (show IxR _ (rIxT K) from ix_tup) (pv 3) pe_int (fun _ _ => rfl)) (pa_cons (pv 9) pa_nil))))) (pss_cons (ps_for PassesOwn.never rfl (pi_range1 (by rfl) T.z_range (pa_cons pe_int pa_nil)) (pg_name (i := 11) sc_law.nd rfl (by first | exact Or.inl rfl | exact Or.inr rfl)) (pss_one (ps_if (PW.pt (pw_or (pt_cmpR (op_neD hr.units) (pe_call (ok__law_word (P := P) (w := w) T Tt GT GAsc GSpt GCls) (hr.mono (by first | decide | omega)) rfl T.m__law_word T.F__law_word.kp T.b__law_word .nil pass0 (pa_cons (pv 11) (pa_cons (pv 4) (pa_cons (pv 7) (pa_cons pe_non pa_nil))))) (pe_ix ix_list (pe_lst (pa_cons pe_str (pa_cons pe_str pa_nil))) (pe_callTy call_int1 (by rfl) T.z_int (by decide +kernel) (pa_cons (pe_ix ix_list (pv 10) pe_int (fun _ _ => rfl)) pa_nil)) (fun _ _ => rfl)) (nomark _)) (pw_or1 (pt_cmpR (op_neD hr.units) (pe_call (ok__law_word (P := P) (w := w) T Tt GT GAsc GSpt GCls) (hr.mono (by first | decide | omega)) rfl T.m__law_word T.F__law_word.kp T.b__law_word .nil pass0 (pa_cons (pv 11) (pa_cons (pv 4) (pa_cons (pv 5) (pa_cons pe_non pa_nil))))) pe_str (nomark _))))) (pss_one (ps_ret pe_bl)) pss_nil))) (pss_cons (ps_if (PW.pt (pw_or (pt_cmpR (op_neD hr.units) (pe_call (ok__law_word (P := P) (w := w) T Tt GT GAsc GSpt GCls) (hr.mono (by first | decide | omega)) rfl T.m__law_word T.F__law_word.kp T.b__law_word .nil pass0 (pa_cons pe_int (pa_cons (pv 4) (pa_cons (pv 7) (pa_cons (pv 8) pa_nil))))) (pe_ix ix_list (pe_lst (pa_cons pe_str (pa_cons pe_str pa_nil))) (pe_callTy call_int1 (by rfl) T.z_int (by decide +kernel) (pa_cons (pe_and (pe_ix ix_list (pv 10) pe_int (fun _ _ => rfl)) (pe_one (pe_ix ix_list (pv 10) pe_int (fun _ _ => rfl)))) pa_nil)) (fun _ _ => rfl)) (nomark _)) (pw_or1 (pt_cmpR (op_neD hr.units) (pe_call (ok__law_word (P := P) (w := w) T Tt GT GAsc GSpt GCls) (hr.mono (by first | decide | omega)) rfl T.m__law_word T.F__law_word.kp T.b__law_word .nil pass0 (pa_cons pe_int (pa_cons (pv 4) (pa_cons (pv 5) (pa_cons (pv 5) pa_nil))))) pe_str (nomark _))))) (pss_one (ps_ret pe_bl)) pss_nil) (pss_one (ps_if (pt_cmpR (op_neD hr.units) (pe_call (ok__law_word (P := P) (w := w) T Tt GT GAsc GSpt GCls) (hr.mono (by first | decide | omega)) rfl T.m__law_word T.F__law_word.kp T.b__law_word .nil pass0 (pa_cons pe_int (pa_cons (pv 4) (pa_cons (pv 5) (pa_cons (pv 8) pa_nil))))) (pe_ix ix_list (pe_lst (pa_cons pe_str (pa_cons pe_str pa_nil))) (pe_callTy call_int1 (by rfl) T.z_int (by decide +kernel) (pa_cons (pe_ix ix_list (pv 10) pe_int (fun _ _ => rfl)) pa_nil)) (fun _ _ => rfl)) (nomark _)) (pss_one (ps_ret pe_bl)) pss_nil)))))))))))) (pss_one (ps_ret pe_bl)))), ?_⟩
    refine ⟨_, rfl, a, ns, rfl, hs, hl, fun H1 p cs z cells0 s1 np ncs hp1 => ?_⟩
    have hT1 := hT.ext s1
    dsimp only [gName]
    refine seq_open (fun σ' H' => True) (fun NX hNX => ?_) (fun σ' H2 h => q _)
    refine ⟨6, rfl, by decide, by decide, for_range (lo := 0) (n := 6) (fun i σ H' => ∃ w2 w3 w4 w5 w6 w7 w8 w10 w11 k c, σ = [some (.ref a), some (.ref p), w2, w3, w4, w5, w6, w7, w8, none, w10, w11] ∧ Tabs Tt H' ∧ PoolAt H' p cs z k c ∧ 0 ≤ k ∧ k ≤ 400 * (i : Int))
      ⟨none, none, none, none, none, none, none, none, none, 0, cells0, rfl, hT1, hp1, Int.le_refl _, Int.le_refl _⟩ ?_ (fun σ H' _ => hNX _ _ trivial)⟩
    rintro i σ H2 hi ⟨w2, w3, w4, w5, w6, w7, w8, w10, w11, k, c, rfl, hT2, hp2, k0, k1⟩
    have en : (4 + 4 * drl 2 : Nat) = 100 := by decide
    refine ⟨_, rfl, p, cs, z, k, c, 4, 2, rfl, hp2, by decide, by decide, by decide, by rw [en]; omega, fun H3 r sa lv sg ls k3 c3 sm3 hp3 k31 k32 hr3 hsg3 ok dl3 hls hll hto => ?_⟩
    rw [en] at k32
    have t3 : TurnAt K T.c_Lore Tt p cs z r sa lv sg ls k3 H3 := ⟨⟨c3, hp3⟩, hr3, hsg3, dl3, sm3.tabs hp2.ow hT2⟩
    have hlok : ∀ x ∈ ls, LnOk sg x := fun x hx => (hls x hx).ok (by decide)
    have hcn : cntL ls ≤ 56 := by
      have h1 := cntL_le (n := siz 2) fun x hx => ⟨(hls x hx).one.sz, (hls x hx).two.sz⟩
      have h2 : ls.length * (2 * siz 2) ≤ 4 * (2 * siz 2) := Nat.mul_le_mul_right _ (by omega)
      have h3 : 4 * (2 * siz 2) = 56 := by decide
      omega
    have es2 : siz 2 = 7 := by decide
    have hpre : ∀ t ∈ toldB ls, (Tm.pre t).length ≤ 100000 := fun t m => Nat.le_trans (told_small hls t m) (by rw [es2]; decide)
    have hw := signs_100 ok.signs
    clear hp2 hT2 sm3 hr3 hsg3 dl3
    refine ⟨_, rfl, r, sa, lv, sg, ls, rfl, t3.spec, t3.signs, ok.signs, ok.short, t3.lines, by omega, hlok, by omega, by omega, t3.tabs, fun H4 lo f4 nlo hlo4 => ?_⟩
    have g4 : K4 K T.c_Lore Tt p cs z r sa lv sg ls lo k3 c3 H4 := ⟨t3.fr f4, hlo4, hp3.fr f4⟩
    clear t3 hp3 f4 nlo hlo4
    have ed2 : drw 2 = 10 := by decide
    dsimp only [gName]
    refine ⟨_, rfl, _, rfl, r, _, _, _, rfl, rfl, g4.turn.spec, atI_nat (j := 0) rfl, p, cs, z, k3, c3, sa, sg, 2, rfl, g4.pool, g4.turn.signs, ok, by decide, by rw [ed2]; omega, fun H5 v1 t1 k5 c5 sm5 hp5 k51 k52 dv1 dr1 => ?_⟩
    rw [ed2] at k52
    have g5 := g4.sm sm5 hp5
    clear g4 sm5 hp5
    have hsz1 := dr1.sz
    have hdp1 := dr1.dp
    have hO5 := g5.pool.lsts
    have gv1 : Gd K [p, cs] 14 3 H5 v1 := (tm_gd dv1 dr1.ok.short dr1.ok.lay hO5).mono (by omega) (by omega)
    have hpl : TmPl t1 := ⟨dr1.ok.short, dr1.ok.lay⟩
    have ft1 : fitsD sg.reverse (Tm.data t1) = true := dr1.ok.fit
    have glo : Gd K [p, cs] 1 0 H5 (.ref lo) := by
      obtain ⟨dx, sa', lv', hx, _⟩ := g5.lore
      refine ⟨.none, .oth (hIns _ _ _ _ (hid_at (fun m => ?_) hx)) hOth, GB.none (Nat.le_refl 1)⟩
      obtain ⟨zs, hz⟩ := hO5 _ m
      rw [hx] at hz
      cases hz
    obtain ⟨b, ys, rfl, hsb, hyb⟩ := DpAll.ref dv1
    have up : ∀ {c e : Nat} {t : TE} {σ : L2.St} {G : Hp}, GE K [p, cs] G σ c e t → c ≤ 60 → e ≤ 10 → GE K [p, cs] G σ 60 10 t := fun h h1 h2 => h.mono h1 h2
    have ab : PyData.strOk "a" = true ∧ (Str.ofString "a").length ≤ 100000 ∧ PyData.strOk "zz" = true ∧ (Str.ofString "zz").length ≤ 100000 ∧ PyData.strOk "" = true ∧ (Str.ofString "").length ≤ 100000 := by decide +kernel
    obtain ⟨oka, lna, okz, lnz, oke, lne⟩ := ab
    have upO : ∀ {G : Hp}, Same H5 G → ∀ x ∈ [p, cs], ∃ ys, G x = some (.lst ys) := fun s x hx => by
      obtain ⟨zs, hz⟩ := hO5 x hx
      exact ⟨zs, s _ _ hz⟩
    have gsg : ∀ {G : Hp} {e : Nat}, Gd K [p, cs] 1 e G (.str t1.sg) := fun {G e} => by
      obtain ⟨s', ps'⟩ := t1
      exact Gd.str (Nat.le_refl 1) hpl.sgn.1 hpl.sgn.2
    have hyl : ys.length ≤ 6 := by
      obtain ⟨s', ps'⟩ := t1
      have h1 := Tm.pres_len ps'
      rw [Tm.pre, List.length_cons] at hsz1
      rw [hyb.len, Tm.datas_len]
      show ps'.length ≤ 6
      omega
    have jt : ∀ {G : Hp}, Same H5 G → JGAll K [p, cs] G (V.str t1.sg :: ys) 7 13 3 := fun {G} s => by
      have gs := @gsg G 3
      obtain ⟨s', ps'⟩ := t1
      have h1 := Tm.pres_len ps'
      rw [Tm.pre, List.length_cons] at hsz1
      rw [dpt] at hdp1
      obtain ⟨t3, t4⟩ := hpl.parts
      have q : JGAll K [p, cs] G ys ps'.length (2 * (Tm.pres ps').length) 3 := (tms_jg (ps := ps') (DpAll.same s _ _ hyb) t3 t4 (upO s)).mono (Nat.le_refl _) (Nat.le_refl _) (by omega)
      exact (JGAll.cons gs q).mono (by omega) (by omega) (Nat.le_refl 3)
    dsimp only [gName]
    show tSeq _ _ _ [some (.ref a), some (.ref p), some (.int (0 + (i : Int))), some (.ref r), some (.ref lo), some (.ref b), w6, w7, w8, none, w10, w11] _
    refine seq_asg ?_
    refine GA.lstN (n := 15) (H1 := H5) (O := [p, cs]) (K := K) (c := 60) (e := 10)
      (.cons (.con fun _ => Gd.non (by decide)) <| .cons (GE.intA (by decide)) <| .cons (.con fun _ => Gd.bl (by decide)) <| .cons (.strA (by decide) lna oka) <|
       .cons (up (GE.lst (e := 0) hO5 (.cons (.strA (Nat.le_refl 1) lna oka) .nil) (by decide) (Nat.le_refl 1)) (by decide) (by decide)) <|
       .cons (up (GE.tupZ (e := 0) hO5 .nil (by decide)) (by decide) (by decide)) <| .cons (up (GE.leaf (e := 0) hO5 lnz okz) (by decide) (by decide)) <| .cons (up (GE.leaf (e := 0) hO5 lne oke) (by decide) (by decide)) <|
       .cons (up (GE.tupZ (e := 0) hO5 (.cons (.con fun _ => Gd.non (Nat.le_refl 1)) .nil) (by decide)) (by decide) (by decide)) <|
       .cons (up (GE.tupZ (e := 1) hO5 (.cons (.strA (Nat.le_refl 1) lna oka) (.cons (GE.leaf (e := 0) hO5 lna oka) .nil)) (by decide)) (by decide) (by decide)) <|
       .cons ?a11 <| .cons (up (GE.tupZ hO5 (.cons (GE.var rfl gv1) .nil) (by decide)) (by decide) (by decide)) <| .cons (GE.dct hO5 (by decide)) <| .cons (up (GE.var rfl glo) (by decide) (by decide)) <| .cons (GE.deep hO5 (by decide)) .nil) (by decide) (Same.refl H5) (fun H7 vs L s7 ga7 l7 hL7 nL => ?_)
    case a11 =>
      intro G Q s qq
      refine ⟨_, rfl, (by show 1 ≤ sizeLine; decide), fun p1 o1 _ _ np1 => ⟨(by show 1 ≤ sizeLine; decide), fun p2 o2 _ _ np2 => ?_⟩⟩
      have z1 := same_new (o := .frz o1 (.tup [.str "a"])) np1
      have z2 := same_new (o := .frz o2 (.tup [.ref p1])) np2
      refine catA_any (SqT.same (SqT.same hsb s) (z1.trans z2)) (.inl (.inr ⟨o2, upd_same⟩)) (by rw [List.length_cons]; show _ + 1 + 1 ≤ _; omega) fun G2 r s3 hr => ?_
      have z := (z1.trans z2).trans s3
      refine qq _ _ z ?_
      have ga : Gd K [p, cs] 2 3 G2 (.ref p1) := (Gd.tup (n := 1) (c := 1) (e := 0) (.inl (.inr ⟨o1, z2.trans s3 _ _ upd_same⟩)) (JGAll.cons (Gd.str (Nat.le_refl 1) lna oka) (JGAll.nil (n := 0) (c := 0))) (by decide) (upO (s.trans z))).mono (by decide) (by decide)
      exact (Gd.tup hr ((jt (s.trans z)).app (JGAll.cons ga (JGAll.nil (n := 0) (c := 0)))) (by decide) (upO (s.trans z))).mono (by decide) (by decide)
    have nLp := g5.pool.nn nL
    dsimp only [gName]
    show tSeq _ _ _ [some (.ref a), some (.ref p), some (.int (0 + (i : Int))), some (.ref r), some (.ref lo), some (.ref b), some (.ref L), w7, w8, none, w10, w11] _
    refine seq_asg ?_
    refine ⟨_, rfl, ?_⟩
    have hO7 := upO s7
    have gw1 := gv1.same s7
    refine GA.lstN (n := 3) (H1 := H7) (O := [p, cs]) (K := K) (c := 60) (e := 10)
      (.cons (up (GE.tupZ hO7 (.cons (c1 := 1) ?n1 (.cons (GE.var rfl gw1) (.cons (GE.var rfl gw1) .nil))) (by decide)) (by decide) (by decide)) <| .cons ?n2 <| .cons (up (GE.var rfl gw1) (by decide) (by decide)) .nil) (by decide) (Same.refl H7) (fun H8 us M s8 ga8 l8 hM8 nM => ?_)
    case n1 =>
      intro G Q s qq
      exact ⟨_, rfl, b, _, _, _, rfl, rfl, SqT.same hsb (s7.trans s), atI_nat (j := 0) rfl, qq _ _ (Same.refl G) gsg⟩
    case n2 =>
      intro G Q s qq
      refine ⟨_, rfl, _, rfl, _, rfl, slA_any (SqT.same hsb (s7.trans s)) fun G2 r s3 hr => ?_⟩
      refine qq _ _ s3 ?_
      rw [cutV_init] at hr
      have sz := (s7.trans s).trans s3
      have j2 : JGAll K [p, cs] G2 (V.str t1.sg :: ys).dropLast 7 13 3 := JGAll.init (jt sz)
      exact (Gd.tup hr j2 (by decide) (upO sz)).mono (by decide) (by decide)
    refine ⟨L, M, vs, us, rfl, rfl, s8 _ _ hL7, hM8, by omega, fun N nN => ?_⟩
    have s9 := same_new (o := .lst (vs ++ us)) nN
    have s59 := (s7.trans s8).trans s9
    have nNp := g5.pool.nn ((s7.trans s8).free nN)
    have g9 := g5.same s59
    have ga9 : GdAll K [p, cs] 60 10 (upd H8 N (.lst (vs ++ us))) (vs ++ us) := fun x m => by
      rcases List.mem_append.mp m with z | z
      · exact (ga7 x z).same (s8.trans s9)
      · exact (ga8 x z).same s9
    have l9 : (vs ++ us).length = 18 := by rw [List.length_append]; omega
    have hN9 : upd H8 N (.lst (vs ++ us)) N = some (.lst (vs ++ us)) := upd_same
    have gt9 := Dp.same s59 _ _ dv1
    generalize vs ++ us = ws at ga9 l9 hN9 g9 gt9 s9 s59 ⊢
    generalize upd H8 N (.lst ws) = H9 at ga9 hN9 g9 gt9 s9 s59 ⊢
    dsimp only [gName]
    show tSeq _ _ _ [some (.ref a), some (.ref p), some (.int (0 + (i : Int))), some (.ref r), some (.ref lo), some (.ref b), some (.ref N), w7, w8, none, w10, w11] _
    refine ⟨_, rfl, _, rfl, p, cs, z, k5, c5, 18, rfl, by decide, by decide, g9.pool, by omega, fun H10 r10 c10 sm10 hp10 r100 r101 => ?_⟩
    obtain ⟨j10, rfl, hj10⟩ := nat_of r100 r101
    obtain ⟨y1, hy1, gy1⟩ := GA.item ga9 (show j10 < ws.length by omega)
    have hN10 := sm10 _ _ hN9 nNp
    have g10 := g9.sm sm10 hp10
    have ga10 : GdAll K [p, cs] 60 10 H10 ws := fun x m => (ga9 x m).sm sm10
    refine ⟨N, _, _, _, rfl, rfl, .inl (.inl hN10), atI_nat hy1, ?_⟩
    refine ⟨_, rfl, _, rfl, p, cs, z, k5 + 1, c10, 18, rfl, by decide, by decide, g10.pool, by omega, fun H11 r11 c11 sm11 hp11 r110 r111 => ?_⟩
    obtain ⟨j11, rfl, hj11⟩ := nat_of r110 r111
    obtain ⟨y2, hy2, gy2⟩ := GA.item ga10 (show j11 < ws.length by omega)
    have hN11 := sm11 _ _ hN10 nNp
    have g11 := g10.sm sm11 hp11
    refine ⟨N, _, _, _, rfl, rfl, .inl (.inl hN11), atI_nat hy2, ?_⟩
    have ga1 := (gy1.sm sm10).sm sm11
    have ga2 := gy2.sm sm11
    have gt11 := Dp.imm (sm11.imm g10.pool.ow) _ _ (Tm.nl_data t1) (Dp.imm (sm10.imm g9.pool.ow) _ _ (Tm.nl_data t1) gt9)
    obtain ⟨d1, jp1, gb1⟩ := ga1
    obtain ⟨d2, jp2, gb2⟩ := ga2
    refine ⟨_, _, rfl, ?_⟩
    dsimp only
    show tSeq _ _ _ [some (.ref a), some (.ref p), some (.int (0 + (i : Int))), some (.ref r), some (.ref lo), some (.ref b), some (.ref N), some y1, some y2, none, w10, w11] _
    refine seq_asg ?_
    refine ⟨_, rfl, _, rfl, (by show 2 ≤ sizeLine; decide), fun l o _ _ nl => ⟨l, rfl, ⟨_, .inl (.inr ⟨o, upd_same⟩)⟩, fun D nD => ?_⟩⟩
    have sl := same_new (o := .frz o (.tup [y1, y2])) nl
    have hl11 : upd H11 l (.frz o (.tup [y1, y2])) l = some (.frz o (.tup [y1, y2])) := upd_same
    have g12 := g11.same sl
    have j1 := Jp.same sl _ _ jp1.out
    have j2 := Jp.same sl _ _ jp2.out
    have jt12 := Jp.same sl _ _ (Jp.same (Same.refl H11) _ _ (Dp.jp _ _ (jd_data t1) gt11))
    have sh1 := gb1.short
    have ly1 := gb1.lay
    have cn1 := gb1.cnt
    have dp1 := gb1.dp
    have sh2 := gb2.short
    have ly2 := gb2.lay
    have cn2 := gb2.cnt
    have dp2 := gb2.dp
    have sht := hpl.short
    have cnt1 := cnt_data t1
    clear ga9 hN9 g9 gt9 s9 s59 hN10 g10 ga10 hN11 gy1 gy2 gt11 jp1 jp2 gb1 gb2 ga7 ga8 hL7 hM8 gw1 hO7 gv1 glo dv1 hsb hyb jt gsg upO hO5
    generalize upd H11 l (.frz o (.tup [y1, y2])) = H12 at nD hl11 g12 j1 j2 jt12 sl ⊢
    have sam : ∀ {G : Hp}, Sm [D] H12 G → Same H12 G := fun sm b o e => sm b o e fun m => ne_of_none e nD (mem1 m)
    refine lc_tup (K := K) (a := l) (xs := [y1, y2]) (fun m G => Sm [D] H12 G ∧ G D = some (.lst ([V.bl (fitsD sg.reverse d1), V.bl (fitsD sg.reverse d2)].take m)))
      ⟨Sm.upd (List.mem_singleton.mpr rfl), upd_same⟩ (fun m G _ q => .inl (.inr ⟨o, sam q.1 _ _ hl11⟩)) (fun m x G hx q => ?_) (fun G q => ?_)
    · have sg12 := sam q.1
      have gG := g12.same sg12
      refine ⟨rfl, _, rfl, r, _, _, _, rfl, rfl, gG.turn.spec, atI_nat (j := 0) rfl, _, rfl, ?_⟩
      match m, hx with
      | 0, hx =>
        cases hx
        refine ⟨sa, sg, y1, d1, rfl, gG.turn.signs, ok.fit, Jp.same sg12 _ _ j1, sh1, ly1, by omega, by decide, fun G2 s2 => ⟨_, s2 _ _ q.2, (by show 0 < sizeLine; decide), ?_, upd_same⟩⟩
        exact (q.1.trans (Sm.same s2)).trans (Sm.upd (List.mem_singleton.mpr rfl))
      | 1, hx =>
        cases hx
        refine ⟨sa, sg, y2, d2, rfl, gG.turn.signs, ok.fit, Jp.same sg12 _ _ j2, sh2, ly2, by omega, by decide, fun G2 s2 => ⟨_, s2 _ _ q.2, (by show 1 < sizeLine; decide), ?_, upd_same⟩⟩
        exact (q.1.trans (Sm.same s2)).trans (Sm.upd (List.mem_singleton.mpr rfl))
    · have sg12 := sam q.1
      have g13 : K15 K T.c_Lore Tt p cs z r sa lv sg ls lo (k5 + 1 + 1) c11 y1 y2 (.ref b) d1 d2 t1 D (fitsD sg.reverse d1) (fitsD sg.reverse d2) G := ⟨g12.same sg12, Jp.same sg12 _ _ j1, Jp.same sg12 _ _ j2, Jp.same sg12 _ _ jt12, q.2⟩
      clear g12 j1 j2 jt12 sl q
      dsimp only [gName]
      show tSeq _ _ _ [some (.ref a), some (.ref p), some (.int (0 + (i : Int))), some (.ref r), some (.ref lo), some (.ref b), some (.ref N), some y1, some y2, none, some (.ref D), w11] _
      -- the three doors
      refine seq_open (fun σ' H' => ∃ w, σ' = [some (.ref a), some (.ref p), some (.int (0 + (i : Int))), some (.ref r), some (.ref lo), some (.ref b), some (.ref N), some y1, some y2, none, some (.ref D), w] ∧ K15 K T.c_Lore Tt p cs z r sa lv sg ls lo (k5 + 1 + 1) c11 y1 y2 (.ref b) d1 d2 t1 D (fitsD sg.reverse d1) (fitsD sg.reverse d2) H') (fun NX2 hNX2 => ?_) (fun σ' G3 h => ?_)
      · refine ⟨3, rfl, by decide, by decide, for_range (lo := 0) (n := 3) (fun j σ H' => ∃ w, σ = [some (.ref a), some (.ref p), some (.int (0 + (i : Int))), some (.ref r), some (.ref lo), some (.ref b), some (.ref N), some y1, some y2, none, some (.ref D), w] ∧ K15 K T.c_Lore Tt p cs z r sa lv sg ls lo (k5 + 1 + 1) c11 y1 y2 (.ref b) d1 d2 t1 D (fitsD sg.reverse d1) (fitsD sg.reverse d2) H')
          ⟨w11, rfl, g13⟩ ?_ (fun σ H' ⟨w, h1, h2⟩ => hNX2 _ _ ⟨w, h1, h2⟩)⟩
        rintro j σ G1 hj ⟨w, rfl, x1⟩
        have ej : (0 : Int) + (j : Int) = ((j : Nat) : Int) := Int.zero_add _
        dsimp only [gName]
        rw [ej]
        refine ⟨_, rfl, _, rfl, _, rfl, j, lo, y1, .non, d1, sg, ls, rfl, x1.base.turn.tabs, x1.base.lore, hw, by omega, by omega, hpre, x1.one, sh1, by omega, .inl ⟨hj, fun G2 f2 => ?_⟩⟩
        have x2 := x1.fr f2
        refine pickW (b := fitsD sg.reverse d1) (fun G Q' s q' => ⟨_, rfl, D, _, _, _, rfl, rfl, .inl (.inl (s _ _ x2.list)), atI_nat (j := 0) rfl, q'⟩) fun G3 s3 => ?_
        have x3 := x2.fr (Fr.same s3)
        refine ne_pick ⟨_, rfl, ?_⟩
        refine ⟨_, rfl, _, rfl, _, rfl, j, lo, .ref b, .non, Tm.data t1, sg, ls, rfl, x3.base.turn.tabs, x3.base.lore, hw, by omega, by omega, hpre, x3.tm, sht, by omega, .inl ⟨hj, fun G4 f4 => ?_⟩⟩
        rw [ft1, if_pos rfl]
        refine tC_open2 ?_
        refine ne_word (x := "let") (by decide +kernel) ?_
        refine ⟨_, rfl, ?_⟩
        exact ⟨_, rfl, x3.fr f4⟩
      · obtain ⟨w, rfl, x1⟩ := h
        clear g13
        -- both
        refine seq_open (fun σ' H' => σ' = [some (.ref a), some (.ref p), some (.int (0 + (i : Int))), some (.ref r), some (.ref lo), some (.ref b), some (.ref N), some y1, some y2, none, some (.ref D), w] ∧ K15 K T.c_Lore Tt p cs z r sa lv sg ls lo (k5 + 1 + 1) c11 y1 y2 (.ref b) d1 d2 t1 D (fitsD sg.reverse d1) (fitsD sg.reverse d2) H') (fun NX3 hNX3 => ?_) (fun σ' G4 h => ?_)
        · refine ⟨_, rfl, _, rfl, _, rfl, 3, lo, y1, y2, d1, sg, ls, rfl, x1.base.turn.tabs, x1.base.lore, hw, by omega, by omega, hpre, x1.one, sh1, by omega, .inr ⟨rfl, d2, x1.two, sh2, by omega, fun G2 f2 => ?_⟩⟩
          have x2 := x1.fr f2
          refine pickW (b := fitsD sg.reverse d1 && fitsD sg.reverse d2) (fun G Q' s q' => ?_) fun G4 s3 => ?_
          · have xs := s _ _ x2.list
            refine ⟨_, rfl, D, _, _, _, rfl, rfl, .inl (.inl xs), atI_nat (j := 0) rfl, _, rfl, ?_⟩
            cases e1 : fitsD sg.reverse d1 with
            | true =>
              rw [e1, Bool.true_and] at q'
              exact ⟨_, rfl, D, _, _, _, rfl, rfl, .inl (.inl xs), atI_nat (j := 1) rfl, q'⟩
            | false =>
              rw [e1, Bool.false_and] at q'
              exact q'
          · have x3 := x2.fr (Fr.same s3)
            refine ne_pick ⟨_, rfl, ?_⟩
            refine ⟨_, rfl, _, rfl, _, rfl, 3, lo, .ref b, .ref b, Tm.data t1, sg, ls, rfl, x3.base.turn.tabs, x3.base.lore, hw, by omega, by omega, hpre, x3.tm, sht, by omega, .inr ⟨rfl, Tm.data t1, x3.tm, sht, by omega, fun G5 f5 => ?_⟩⟩
            rw [ft1, if_pos (by rfl)]
            refine tC_open2 ?_
            refine ne_word (x := "let") (by decide +kernel) ?_
            refine ⟨_, rfl, ?_⟩
            exact hNX3 _ _ ⟨rfl, x3.fr f5⟩
        · obtain ⟨rfl, x4⟩ := h
          clear x1
          refine ⟨_, rfl, _, rfl, _, rfl, 3, lo, .ref b, y2, Tm.data t1, sg, ls, rfl, x4.base.turn.tabs, x4.base.lore, hw, by omega, by omega, hpre, x4.tm, sht, by omega, .inr ⟨rfl, d2, x4.two, sh2, by omega, fun G5 f5 => ?_⟩⟩
          have x5 := x4.fr f5
          rw [ft1, Bool.true_and]
          refine pickW (b := fitsD sg.reverse d2) (fun G Q' s q' => ⟨_, rfl, D, _, _, _, rfl, rfl, .inl (.inl (s _ _ x5.list)), atI_nat (j := 1) rfl, q'⟩) fun G6 s6 => ?_
          have x6 := x5.fr (Fr.same s6)
          refine ne_pick ⟨_, rfl, ?_⟩
          exact ⟨_, _, _, _, _, _, _, _, _, _, _, rfl, x6.base.turn.tabs, x6.base.pool, by omega, by omega⟩

end NB

set_option maxHeartbeats 0
namespace NB
open PySem PySem.Spec PyProof.Rows L2 LamX
theorem fun_ofD {K : PySem.W.Frag} {x q : Str} {st : Stmt} {f : Addr} {fd : FuncData} {dvs : List V} {kws : List (Str × V)} (e : dvs = []) (F : FunD K x q (defArgs st) (defBody st) (defScope st) dvs kws f fd) : Fun K x q st f fd := by
  obtain ⟨oc, od, dV, kV, doc, pm, an, cdv, ct, osl, e1, lk, hc, hD, hK⟩ := F.ex
  rcases hD with ⟨_, rfl⟩ | ⟨z, _⟩
  · exact ⟨⟨oc, od, kV, doc, pm, an, cdv, ct, osl, e1, lk, hc⟩, F.kp⟩
  · exact absurd e z
theorem codeFun_of {K : PySem.W.Frag} {x q : Str} {st : Stmt} {p : Str × Option Str} {fd : FuncData} (F : Fun K x q st (He.fAd K p) fd) : CodeFun K x q st (He.fAd K p) fd (He.codeOf K p) := by
  obtain ⟨oc, od, kV, doc, pm, an, cdv, ct, osl, e1, lk, hc⟩ := F.ex
  obtain ⟨c, rfl⟩ := He.codeIn_ref hc
  have e := He.codeOf_eq (c := c) lk (by rw [e1] <;> rfl)
  rw [e]
  exact ⟨oc, od, kV, doc, pm, an, ct, osl, e1, lk, hc⟩
theorem pairs_ok {K : PySem.W.Frag} {H : Hp} : ∀ {es : List (Str × Int)} {us : List Value}, pairsB K es us = true → ∃ xs, Vals xs us ∧ DpAll K H xs (es.map sg1)
  | [], [], _ => ⟨[], .nil, .nil⟩
  | [], _ :: _, h => nomatch h
  | _ :: _, [], h => nomatch h
  | e :: es, u :: us, h => by
    obtain ⟨h1, h2⟩ := He.ba (show (pairB K e u && pairsB K es us) = true from h)
    obtain ⟨xs, h3, h4⟩ := pairs_ok (H := H) h2
    unfold pairB at h1
    split at h1
    · rename_i q
      split at h1
      · rename_i c od its n sl hk
        obtain ⟨h5, h6⟩ := He.ba h1
        obtain ⟨h7, h8⟩ := He.ba h6
        exact ⟨.ref q :: xs, .cons rfl h3, .cons (.tup (.inr ⟨_, its, n, hk, congrArg Value.type (of_decide_eq_true h5), rfl, of_decide_eq_true h7, He.relAll_ok h8⟩) (.cons (.str _) (.cons (.int _) .nil))) h4⟩
      · cases h1
    · cases h1
theorem tupP_ok {K : PySem.W.Frag} {x : Str} {es : List (Str × Int)} (h : tupPB K x es = true) (H : Hp) : SgsAt K H (He.ga K x) es := by
  unfold tupPB at h
  split at h
  · rename_i c its n sl hk
    obtain ⟨h1, h2⟩ := He.ba h
    obtain ⟨h3, h4⟩ := He.ba h2
    obtain ⟨xs, h5, h6⟩ := pairs_ok (H := H) h4
    exact ⟨xs, .inr ⟨_, its, n, hk, congrArg Value.type (of_decide_eq_true h1), rfl, rfl, of_decide_eq_true h3, h5⟩, h6⟩
  · cases h
theorem ownEq_ok {K : PySem.W.Frag} {C : Str} (h : ownEqB K C = true) : OwnEqC K (He.ga K C) (He.ma K (He.ga K C) "__eq__") := by
  obtain ⟨h1, h2⟩ := He.ba h
  obtain ⟨h3, h4⟩ := He.ba h2
  obtain ⟨h5, h6⟩ := He.ba h4
  exact ⟨He.eqO_ok h1, h3, He.eqO_ok h5, of_decide_eq_true h6⟩
theorem ins_ok {K : PySem.W.Frag} {C : Str} (h : insB K C = true) (c : Cls K (He.ga K C)) : ∀ (H : Hp) (a dx : Addr) (fs : List (Str × V)), H a = some (.ins (He.ga K C) dx fs) → TyX K H (.ref a) (.ref (He.ga K C)) := fun H a dx fs e => by
  obtain ⟨h1, h2⟩ := He.ba h
  obtain ⟨h3, h4⟩ := He.ba h2
  obtain ⟨h5, h6⟩ := He.ba h4
  exact .base (.ins e c (He.eqO_ok h1) (He.eqO_ok h3) (of_decide_eq_true h5) (of_decide_eq_true h6))
theorem oex_ok {K : PySem.W.Frag} {x : Str} (h : oexB K x = true) : OexC K (He.ga K x) ∧ PySem.W.findIn K (.ref (He.ga K x)) "__init__" = some (some (.ref (He.ma K (He.ga K x) "__init__"))) ∧ PySem.W.typeIn K (.ref (He.ma K (He.ga K x) "__init__")) = some (.type "function") := by
  obtain ⟨q, h1⟩ := He.ba h
  obtain ⟨h2, h3⟩ := He.ba h1
  obtain ⟨h4, h5⟩ := He.ba h3
  obtain ⟨h6, h7⟩ := He.ba h5
  obtain ⟨h8, h9⟩ := He.ba h7
  obtain ⟨ha, hb⟩ := He.ba h9
  refine ⟨⟨?_, He.eqO_ok h2, of_decide_eq_true h4, of_decide_eq_true h6, h8⟩, He.eqO_ok ha, of_decide_eq_true hb⟩
  split at q
  · rename_i dd cd sl ho
    split at q
    · rename_i C' bm k0 k1 k2 k3 n k5 hm hs
      simp only [Bool.and_eq_true, beq_iff_eq, Bool.not_eq_true'] at q
      obtain ⟨rfl, rfl, hdel, hdi, ht⟩ := q
      obtain ⟨nm, bs, mro, ns, qn, hd, sn, sub, ab, col, del⟩ := cd
      dsimp only at hm hdel hdi
      subst hm hdel hdi
      have hsl : sl = #[k0, k1, k2, k3, some (.builtin "ValueError.__new__"), k5] := by
        obtain ⟨l⟩ := sl
        simp only at hs
        rw [hs]
      subst hsl
      exact ⟨nm, qn, ns, bs, bm, sn, sub, ab, col, dd, k0, k1, k2, k3, k5, ho, ht⟩
    · cases q
  · cases q
theorem exi_ok {K : PySem.W.Frag} {x : Str} (h : exiB K x = true) : ExcC K (He.ga K x) := by
  obtain ⟨h1, h⟩ := He.ba h
  obtain ⟨h2, h⟩ := He.ba h
  obtain ⟨h3, h⟩ := He.ba h
  obtain ⟨h4, h⟩ := He.ba h
  obtain ⟨h5, h⟩ := He.ba h
  obtain ⟨h6, h⟩ := He.ba h
  obtain ⟨h7, h8⟩ := He.ba h
  exact ⟨He.eqO_ok h1, He.eqO_ok h2, of_decide_eq_true h3, h4, He.eqO_ok h5, He.eqO_ok h6, of_decide_eq_true h7, of_decide_eq_true h8⟩
theorem xbase_ok {K : PySem.W.Frag} {x : Str} (h : xbaseB K x = true) : PySem.W.specialIn K (.ref (He.ga K x)) "__getattribute__" = some (some (.builtin "type.__getattribute__")) ∧ PySem.W.typeIn K (.ref (He.ga K x)) = some (.type "type") ∧ PySem.W.readsIn K (He.ga K x) (.type "type") = true ∧ PySem.W.findCls K (.ref (He.ga K x)) (.type "type") "__init__" = some (.val (.builtin "ValueError.__init__")) := by
  obtain ⟨h1, h2⟩ := He.ba h
  obtain ⟨h3, h4⟩ := He.ba h2
  obtain ⟨h5, h6⟩ := He.ba h4
  exact ⟨He.eqO_ok h1, of_decide_eq_true h3, h5, isVI_ok h6⟩
theorem tabs_starts {l : List (Addr × Str)} {H : Hp} (h : ∀ x ∈ l, H x.1 = some (.tbl #[])) : Tabs l H := fun x hx => ⟨#[], h x hx, by first | trivial | exact .nil | decide, fun pos cv hc => by cases hc⟩
theorem hu_all : ∀ {l : List (Addr × Str)}, (l.map (·.1)).Nodup → ∀ x ∈ l, ∀ p ∈ l, p.1 = x.1 → p.2 = x.2
  | [], _, x, hx, _, _, _ => nomatch hx
  | a :: l, nd, x, hx, p, hp, e => by
    rw [List.map_cons, List.nodup_cons] at nd
    rcases List.mem_cons.mp hx with z | z
    · rcases List.mem_cons.mp hp with y | y
      · rw [z, y]
      · exact absurd (List.mem_map.mpr ⟨p, y, e.trans (congrArg Prod.fst z)⟩) nd.1
    · rcases List.mem_cons.mp hp with y | y
      · exact absurd (List.mem_map.mpr ⟨x, z, (congrArg Prod.fst y).symm.trans e |>.symm⟩) nd.1
      · exact hu_all nd.2 x z p y e
def hdTt (K : PySem.W.Frag) : List (Addr × Str) := [((He.cT K ("Bank", some "take")).2, lamTake), ((He.cT K ("ascending", none)).2, lamAsc), ((He.cT K ("Spots", some "spot_of")).2, lamSpot), ((He.cT K ("class_of", none)).2, lamCls)]
theorem hd_tx {w : World} {K : PySem.W.Frag} {h : Heap} {mg : Str → Option Value} (X : K.In h) (G : h.Ns mainGlobals mg) (c : He.SaysX hdFa hdFn [] hdTf hdEx w h K) : ∃ T : Tx K mg, T.a_law = He.fAd K ("law", none) ∧ T.a_Bank_take = He.fAd K ("Bank", some "take") ∧ T.a_ascending = He.fAd K ("ascending", none) ∧ T.a_Spots_spot_of = He.fAd K ("Spots", some "spot_of") ∧ T.a_class_of = He.fAd K ("class_of", none) ∧ T.c_Bank = He.ga K "Bank" ∧ T.c_Merger = He.ga K "Merger" ∧ T.c_Hall = He.ga K "Hall" ∧ T.c_Spots = He.ga K "Spots" ∧ T.c_Lore = He.ga K "Lore" ∧ True := by
  have cd := c.t.d
  obtain ⟨d_fits, F_fits⟩ := cd.def_ 0 (d := dd_fits) rfl
  obtain ⟨d_nodes, F_nodes⟩ := cd.def_ 1 (d := dd_nodes) rfl
  obtain ⟨d_words, F_words⟩ := cd.def_ 2 (d := dd_words) rfl
  obtain ⟨d_from_within, F_from_within⟩ := cd.def_ 3 (d := dd_from_within) rfl
  obtain ⟨d_Bank___init__, F_Bank___init__⟩ := cd.def_ 4 (d := dd_Bank___init__) rfl
  obtain ⟨d_Bank_number_of, F_Bank_number_of⟩ := cd.def_ 5 (d := dd_Bank_number_of) rfl
  obtain ⟨d_Bank_take, F_Bank_take⟩ := cd.def_ 6 (d := dd_Bank_take) rfl
  obtain ⟨d_Bank_take_lines, F_Bank_take_lines⟩ := cd.def_ 7 (d := dd_Bank_take_lines) rfl
  obtain ⟨d_ascending, F_ascending⟩ := cd.def_ 8 (d := dd_ascending) rfl
  obtain ⟨d_Merger___init__, F_Merger___init__⟩ := cd.def_ 9 (d := dd_Merger___init__) rfl
  obtain ⟨d_Merger_home, F_Merger_home⟩ := cd.def_ 10 (d := dd_Merger_home) rfl
  obtain ⟨d_Merger_unite, F_Merger_unite⟩ := cd.def_ 11 (d := dd_Merger_unite) rfl
  obtain ⟨d_Merger_unite_likes, F_Merger_unite_likes⟩ := cd.def_ 12 (d := dd_Merger_unite_likes) rfl
  obtain ⟨d_united, F_united⟩ := cd.def_ 13 (d := dd_united) rfl
  obtain ⟨d_Hall___init__, F_Hall___init__⟩ := cd.def_ 14 (d := dd_Hall___init__) rfl
  obtain ⟨d_Hall_worth, F_Hall_worth⟩ := cd.def_ 15 (d := dd_Hall_worth) rfl
  obtain ⟨d_Spots___init__, F_Spots___init__⟩ := cd.def_ 16 (d := dd_Spots___init__) rfl
  obtain ⟨d_Spots_spot, F_Spots_spot⟩ := cd.def_ 17 (d := dd_Spots_spot) rfl
  obtain ⟨d_Spots_spot_of, F_Spots_spot_of⟩ := cd.def_ 18 (d := dd_Spots_spot_of) rfl
  obtain ⟨d_Spots_are_one, F_Spots_are_one⟩ := cd.def_ 19 (d := dd_Spots_are_one) rfl
  obtain ⟨d_NoTerm___init__, F_NoTerm___init__⟩ := cd.def_ 20 (d := dd_NoTerm___init__) rfl
  obtain ⟨d_is_integer, F_is_integer⟩ := cd.def_ 21 (d := dd_is_integer) rfl
  obtain ⟨d_is_number_below, F_is_number_below⟩ := cd.def_ 22 (d := dd_is_number_below) rfl
  obtain ⟨d_is_tuple_of, F_is_tuple_of⟩ := cd.def_ 23 (d := dd_is_tuple_of) rfl
  obtain ⟨d_is_sign, F_is_sign⟩ := cd.def_ 24 (d := dd_is_sign) rfl
  obtain ⟨d_is_placed_sign, F_is_placed_sign⟩ := cd.def_ 25 (d := dd_is_placed_sign) rfl
  obtain ⟨d_are_signs, F_are_signs⟩ := cd.def_ 26 (d := dd_are_signs) rfl
  obtain ⟨d_Lore___init__, F_Lore___init__⟩ := cd.def_ 27 (d := dd_Lore___init__) rfl
  obtain ⟨d_Lore___eq__, F_Lore___eq__⟩ := cd.def_ 28 (d := dd_Lore___eq__) rfl
  obtain ⟨d_flat, F_flat⟩ := cd.def_ 29 (d := dd_flat) rfl
  obtain ⟨d_fits_line, F_fits_line⟩ := cd.def_ 30 (d := dd_fits_line) rfl
  obtain ⟨d_bank_of_told, F_bank_of_told⟩ := cd.def_ 31 (d := dd_bank_of_told) rfl
  obtain ⟨d_told_in, F_told_in⟩ := cd.def_ 32 (d := dd_told_in) rfl
  obtain ⟨d_is_term, F_is_term⟩ := cd.def_ 33 (d := dd_is_term) rfl
  obtain ⟨d_need_term, F_need_term⟩ := cd.def_ 34 (d := dd_need_term) rfl
  obtain ⟨d_size, F_size⟩ := cd.def_ 35 (d := dd_size) rfl
  obtain ⟨d_class_of, F_class_of⟩ := cd.def_ 36 (d := dd_class_of) rfl
  obtain ⟨d_equal, F_equal⟩ := cd.def_ 37 (d := dd_equal) rfl
  obtain ⟨d_sign_text, F_sign_text⟩ := cd.def_ 38 (d := dd_sign_text) rfl
  obtain ⟨d_text_of, F_text_of⟩ := cd.def_ 39 (d := dd_text_of) rfl
  obtain ⟨d_term_text, F_term_text⟩ := cd.def_ 40 (d := dd_term_text) rfl
  obtain ⟨d__law_pool, F__law_pool⟩ := cd.def_ 41 (d := dd__law_pool) rfl
  obtain ⟨d__law_draw, F__law_draw⟩ := cd.def_ 42 (d := dd__law_draw) rfl
  obtain ⟨d__law_deep, F__law_deep⟩ := cd.def_ 43 (d := dd__law_deep) rfl
  obtain ⟨d__law_signs, F__law_signs⟩ := cd.def_ 44 (d := dd__law_signs) rfl
  obtain ⟨d__law_term, F__law_term⟩ := cd.def_ 45 (d := dd__law_term) rfl
  obtain ⟨d__law_lines, F__law_lines⟩ := cd.def_ 46 (d := dd__law_lines) rfl
  obtain ⟨d__law_lore, F__law_lore⟩ := cd.def_ 47 (d := dd__law_lore) rfl
  obtain ⟨d__law_made, F__law_made⟩ := cd.def_ 48 (d := dd__law_made) rfl
  obtain ⟨d__law_size, F__law_size⟩ := cd.def_ 49 (d := dd__law_size) rfl
  obtain ⟨d__law_key, F__law_key⟩ := cd.def_ 50 (d := dd__law_key) rfl
  obtain ⟨d__law_within, F__law_within⟩ := cd.def_ 51 (d := dd__law_within) rfl
  obtain ⟨d__law_told, F__law_told⟩ := cd.def_ 52 (d := dd__law_told) rfl
  obtain ⟨d__law_is_term, F__law_is_term⟩ := cd.def_ 53 (d := dd__law_is_term) rfl
  obtain ⟨d__law_word, F__law_word⟩ := cd.def_ 54 (d := dd__law_word) rfl
  obtain ⟨d_law, F_law⟩ := cd.def_ 55 (d := dd_law) rfl
  have cm : hdEx K = true := c.more
  unfold hdEx at cm
  obtain ⟨x0, cm⟩ := He.ba cm
  obtain ⟨x1, cm⟩ := He.ba cm
  obtain ⟨x2, cm⟩ := He.ba cm
  obtain ⟨x3, cm⟩ := He.ba cm
  obtain ⟨x4, cm⟩ := He.ba cm
  obtain ⟨x5, cm⟩ := He.ba cm
  obtain ⟨x6, cm⟩ := He.ba cm
  obtain ⟨x7, cm⟩ := He.ba cm
  obtain ⟨x8, cm⟩ := He.ba cm
  obtain ⟨x9, cm⟩ := He.ba cm
  obtain ⟨x10, cm⟩ := He.ba cm
  obtain ⟨x11, cm⟩ := He.ba cm
  obtain ⟨x12, cm⟩ := He.ba cm
  refine ⟨{
    a_fits := He.fAd K ("fits", none),
    d_fits := d_fits,
    F_fits := fun_ofD rfl F_fits,
    b_fits := FunD.bindsN F_fits fun _ _ _ _ _ _ us hl => match us, hl with | [_, _], _ => rfl,
    m_fits := He.glo_ok X G (cd.fact 0 (f := .glo "fits") rfl),
    a_nodes := He.fAd K ("nodes", none),
    d_nodes := d_nodes,
    F_nodes := fun_ofD rfl F_nodes,
    b_nodes := FunD.bindsN F_nodes fun _ _ _ _ _ _ us hl => match us, hl with | [_], _ => rfl,
    m_nodes := He.glo_ok X G (cd.fact 1 (f := .glo "nodes") rfl),
    a_words := He.fAd K ("words", none),
    d_words := d_words,
    F_words := fun_ofD rfl F_words,
    b_words := FunD.bindsN F_words fun _ _ _ _ _ _ us hl => match us, hl with | [_], _ => rfl,
    m_words := He.glo_ok X G (cd.fact 2 (f := .glo "words") rfl),
    a_from_within := He.fAd K ("from_within", none),
    d_from_within := d_from_within,
    F_from_within := fun_ofD rfl F_from_within,
    b_from_within := FunD.bindsN F_from_within fun _ _ _ _ _ _ us hl => match us, hl with | [_, _], _ => rfl,
    m_from_within := He.glo_ok X G (cd.fact 3 (f := .glo "from_within") rfl),
    a_Bank___init__ := He.fAd K ("Bank", some "__init__"),
    d_Bank___init__ := d_Bank___init__,
    F_Bank___init__ := fun_ofD rfl F_Bank___init__,
    b_Bank___init__ := FunD.bindsN F_Bank___init__ fun _ _ _ _ _ _ us hl => match us, hl with | [_], _ => rfl,
    a_Bank_number_of := He.fAd K ("Bank", some "number_of"),
    d_Bank_number_of := d_Bank_number_of,
    F_Bank_number_of := fun_ofD rfl F_Bank_number_of,
    b_Bank_number_of := FunD.bindsN F_Bank_number_of fun _ _ _ _ _ _ us hl => match us, hl with | [_, _, _], _ => rfl,
    a_Bank_take := He.fAd K ("Bank", some "take"),
    d_Bank_take := d_Bank_take,
    F_Bank_take := fun_ofD rfl F_Bank_take,
    b_Bank_take := FunD.bindsN F_Bank_take fun _ _ _ _ _ _ us hl => match us, hl with | [_, _], _ => rfl,
    a_Bank_take_lines := He.fAd K ("Bank", some "take_lines"),
    d_Bank_take_lines := d_Bank_take_lines,
    F_Bank_take_lines := fun_ofD rfl F_Bank_take_lines,
    b_Bank_take_lines := FunD.bindsN F_Bank_take_lines fun _ _ _ _ _ _ us hl => match us, hl with | [_, _], _ => rfl,
    a_ascending := He.fAd K ("ascending", none),
    d_ascending := d_ascending,
    F_ascending := fun_ofD rfl F_ascending,
    b_ascending := FunD.bindsN F_ascending fun _ _ _ _ _ _ us hl => match us, hl with | [_], _ => rfl,
    m_ascending := He.glo_ok X G (cd.fact 4 (f := .glo "ascending") rfl),
    a_Merger___init__ := He.fAd K ("Merger", some "__init__"),
    d_Merger___init__ := d_Merger___init__,
    F_Merger___init__ := fun_ofD rfl F_Merger___init__,
    b_Merger___init__ := FunD.bindsN F_Merger___init__ fun _ _ _ _ _ _ us hl => match us, hl with | [_, _], _ => rfl,
    a_Merger_home := He.fAd K ("Merger", some "home"),
    d_Merger_home := d_Merger_home,
    F_Merger_home := fun_ofD rfl F_Merger_home,
    b_Merger_home := FunD.bindsN F_Merger_home fun _ _ _ _ _ _ us hl => match us, hl with | [_, _], _ => rfl,
    a_Merger_unite := He.fAd K ("Merger", some "unite"),
    d_Merger_unite := d_Merger_unite,
    F_Merger_unite := fun_ofD rfl F_Merger_unite,
    b_Merger_unite := FunD.bindsN F_Merger_unite fun _ _ _ _ _ _ us hl => match us, hl with | [_, _, _, _], _ => rfl,
    a_Merger_unite_likes := He.fAd K ("Merger", some "unite_likes"),
    d_Merger_unite_likes := d_Merger_unite_likes,
    F_Merger_unite_likes := fun_ofD rfl F_Merger_unite_likes,
    b_Merger_unite_likes := FunD.bindsN F_Merger_unite_likes fun _ _ _ _ _ _ us hl => match us, hl with | [_, _], _ => rfl,
    a_united := He.fAd K ("united", none),
    d_united := d_united,
    F_united := fun_ofD rfl F_united,
    b_united := FunD.bindsN F_united fun _ _ _ _ _ _ us hl => match us, hl with | [_, _], _ => rfl,
    m_united := He.glo_ok X G (cd.fact 5 (f := .glo "united") rfl),
    a_Hall___init__ := He.fAd K ("Hall", some "__init__"),
    d_Hall___init__ := d_Hall___init__,
    F_Hall___init__ := fun_ofD rfl F_Hall___init__,
    b_Hall___init__ := FunD.bindsN F_Hall___init__ fun _ _ _ _ _ _ us hl => match us, hl with | [_, _], _ => rfl,
    a_Hall_worth := He.fAd K ("Hall", some "worth"),
    d_Hall_worth := d_Hall_worth,
    F_Hall_worth := fun_ofD rfl F_Hall_worth,
    b_Hall_worth := FunD.bindsN F_Hall_worth fun _ _ _ _ _ _ us hl => match us, hl with | [_], _ => rfl,
    a_Spots___init__ := He.fAd K ("Spots", some "__init__"),
    d_Spots___init__ := d_Spots___init__,
    F_Spots___init__ := fun_ofD rfl F_Spots___init__,
    b_Spots___init__ := FunD.bindsN F_Spots___init__ fun _ _ _ _ _ _ us hl => match us, hl with | [_, _], _ => rfl,
    a_Spots_spot := He.fAd K ("Spots", some "spot"),
    d_Spots_spot := d_Spots_spot,
    F_Spots_spot := fun_ofD rfl F_Spots_spot,
    b_Spots_spot := FunD.bindsN F_Spots_spot fun _ _ _ _ _ _ us hl => match us, hl with | [_, _, _], _ => rfl,
    a_Spots_spot_of := He.fAd K ("Spots", some "spot_of"),
    d_Spots_spot_of := d_Spots_spot_of,
    F_Spots_spot_of := fun_ofD rfl F_Spots_spot_of,
    b_Spots_spot_of := FunD.bindsN F_Spots_spot_of fun _ _ _ _ _ _ us hl => match us, hl with | [_, _], _ => rfl,
    a_Spots_are_one := He.fAd K ("Spots", some "are_one"),
    d_Spots_are_one := d_Spots_are_one,
    F_Spots_are_one := fun_ofD rfl F_Spots_are_one,
    b_Spots_are_one := FunD.bindsN F_Spots_are_one fun _ _ _ _ _ _ us hl => match us, hl with | [_, _, _], _ => rfl,
    a_NoTerm___init__ := He.fAd K ("NoTerm", some "__init__"),
    d_NoTerm___init__ := d_NoTerm___init__,
    F_NoTerm___init__ := fun_ofD rfl F_NoTerm___init__,
    b_NoTerm___init__ := FunD.bindsN F_NoTerm___init__ fun _ _ _ _ _ _ us hl => match us, hl with | [_], _ => rfl,
    a_is_integer := He.fAd K ("is_integer", none),
    d_is_integer := d_is_integer,
    F_is_integer := fun_ofD rfl F_is_integer,
    b_is_integer := FunD.bindsN F_is_integer fun _ _ _ _ _ _ us hl => match us, hl with | [_], _ => rfl,
    m_is_integer := He.glo_ok X G (cd.fact 6 (f := .glo "is_integer") rfl),
    a_is_number_below := He.fAd K ("is_number_below", none),
    d_is_number_below := d_is_number_below,
    F_is_number_below := fun_ofD rfl F_is_number_below,
    b_is_number_below := FunD.bindsN F_is_number_below fun _ _ _ _ _ _ us hl => match us, hl with | [_, _], _ => rfl,
    m_is_number_below := He.glo_ok X G (cd.fact 7 (f := .glo "is_number_below") rfl),
    a_is_tuple_of := He.fAd K ("is_tuple_of", none),
    d_is_tuple_of := d_is_tuple_of,
    F_is_tuple_of := fun_ofD rfl F_is_tuple_of,
    b_is_tuple_of := FunD.bindsN F_is_tuple_of fun _ _ _ _ _ _ us hl => match us, hl with | [_, _], _ => rfl,
    m_is_tuple_of := He.glo_ok X G (cd.fact 8 (f := .glo "is_tuple_of") rfl),
    a_is_sign := He.fAd K ("is_sign", none),
    d_is_sign := d_is_sign,
    F_is_sign := fun_ofD rfl F_is_sign,
    b_is_sign := FunD.bindsN F_is_sign fun _ _ _ _ _ _ us hl => match us, hl with | [_], _ => rfl,
    m_is_sign := He.glo_ok X G (cd.fact 9 (f := .glo "is_sign") rfl),
    a_is_placed_sign := He.fAd K ("is_placed_sign", none),
    d_is_placed_sign := d_is_placed_sign,
    F_is_placed_sign := fun_ofD rfl F_is_placed_sign,
    b_is_placed_sign := FunD.bindsN F_is_placed_sign fun _ _ _ _ _ _ us hl => match us, hl with | [_], _ => rfl,
    m_is_placed_sign := He.glo_ok X G (cd.fact 10 (f := .glo "is_placed_sign") rfl),
    a_are_signs := He.fAd K ("are_signs", none),
    d_are_signs := d_are_signs,
    F_are_signs := fun_ofD rfl F_are_signs,
    b_are_signs := FunD.bindsN F_are_signs fun _ _ _ _ _ _ us hl => match us, hl with | [_], _ => rfl,
    m_are_signs := He.glo_ok X G (cd.fact 11 (f := .glo "are_signs") rfl),
    a_Lore___init__ := He.fAd K ("Lore", some "__init__"),
    d_Lore___init__ := d_Lore___init__,
    F_Lore___init__ := fun_ofD rfl F_Lore___init__,
    b_Lore___init__ := FunD.bindsN F_Lore___init__ fun _ _ _ _ _ _ us hl => match us, hl with | [_, _, _], _ => rfl,
    a_Lore___eq__ := He.fAd K ("Lore", some "__eq__"),
    d_Lore___eq__ := d_Lore___eq__,
    F_Lore___eq__ := fun_ofD rfl F_Lore___eq__,
    b_Lore___eq__ := FunD.bindsN F_Lore___eq__ fun _ _ _ _ _ _ us hl => match us, hl with | [_, _], _ => rfl,
    a_flat := He.fAd K ("flat", none),
    d_flat := d_flat,
    F_flat := fun_ofD rfl F_flat,
    b_flat := FunD.bindsN F_flat fun _ _ _ _ _ _ us hl => match us, hl with | [_], _ => rfl,
    m_flat := He.glo_ok X G (cd.fact 12 (f := .glo "flat") rfl),
    a_fits_line := He.fAd K ("fits_line", none),
    d_fits_line := d_fits_line,
    F_fits_line := fun_ofD rfl F_fits_line,
    b_fits_line := FunD.bindsN F_fits_line fun _ _ _ _ _ _ us hl => match us, hl with | [_, _], _ => rfl,
    m_fits_line := He.glo_ok X G (cd.fact 13 (f := .glo "fits_line") rfl),
    a_bank_of_told := He.fAd K ("bank_of_told", none),
    d_bank_of_told := d_bank_of_told,
    F_bank_of_told := fun_ofD rfl F_bank_of_told,
    b_bank_of_told := FunD.bindsN F_bank_of_told fun _ _ _ _ _ _ us hl => match us, hl with | [_], _ => rfl,
    m_bank_of_told := He.glo_ok X G (cd.fact 14 (f := .glo "bank_of_told") rfl),
    a_told_in := He.fAd K ("told_in", none),
    d_told_in := d_told_in,
    F_told_in := fun_ofD rfl F_told_in,
    b_told_in := FunD.bindsN F_told_in fun _ _ _ _ _ _ us hl => match us, hl with | [_], _ => rfl,
    m_told_in := He.glo_ok X G (cd.fact 15 (f := .glo "told_in") rfl),
    a_is_term := He.fAd K ("is_term", none),
    d_is_term := d_is_term,
    F_is_term := fun_ofD rfl F_is_term,
    b_is_term := FunD.bindsN F_is_term fun _ _ _ _ _ _ us hl => match us, hl with | [_, _], _ => rfl,
    m_is_term := He.glo_ok X G (cd.fact 16 (f := .glo "is_term") rfl),
    a_need_term := He.fAd K ("need_term", none),
    d_need_term := d_need_term,
    F_need_term := fun_ofD rfl F_need_term,
    b_need_term := FunD.bindsN F_need_term fun _ _ _ _ _ _ us hl => match us, hl with | [_, _], _ => rfl,
    m_need_term := He.glo_ok X G (cd.fact 17 (f := .glo "need_term") rfl),
    a_size := He.fAd K ("size", none),
    d_size := d_size,
    F_size := fun_ofD rfl F_size,
    b_size := FunD.bindsN F_size fun _ _ _ _ _ _ us hl => match us, hl with | [_, _], _ => rfl,
    m_size := He.glo_ok X G (cd.fact 18 (f := .glo "size") rfl),
    a_class_of := He.fAd K ("class_of", none),
    d_class_of := d_class_of,
    F_class_of := fun_ofD rfl F_class_of,
    b_class_of := FunD.bindsN F_class_of fun _ _ _ _ _ _ us hl => match us, hl with | [_, _], _ => rfl,
    m_class_of := He.glo_ok X G (cd.fact 19 (f := .glo "class_of") rfl),
    a_equal := He.fAd K ("equal", none),
    d_equal := d_equal,
    F_equal := fun_ofD rfl F_equal,
    b_equal := FunD.bindsN F_equal fun _ _ _ _ _ _ us hl => match us, hl with | [_, _, _], _ => rfl,
    m_equal := He.glo_ok X G (cd.fact 20 (f := .glo "equal") rfl),
    a_sign_text := He.fAd K ("sign_text", none),
    d_sign_text := d_sign_text,
    F_sign_text := fun_ofD rfl F_sign_text,
    b_sign_text := FunD.bindsN F_sign_text fun _ _ _ _ _ _ us hl => match us, hl with | [_, _], _ => rfl,
    m_sign_text := He.glo_ok X G (cd.fact 21 (f := .glo "sign_text") rfl),
    a_text_of := He.fAd K ("text_of", none),
    d_text_of := d_text_of,
    F_text_of := fun_ofD rfl F_text_of,
    b_text_of := FunD.bindsN F_text_of fun _ _ _ _ _ _ us hl => match us, hl with | [_], _ => rfl,
    m_text_of := He.glo_ok X G (cd.fact 22 (f := .glo "text_of") rfl),
    a_term_text := He.fAd K ("term_text", none),
    d_term_text := d_term_text,
    F_term_text := fun_ofD rfl F_term_text,
    b_term_text := FunD.bindsN F_term_text fun _ _ _ _ _ _ us hl => match us, hl with | [_, _], _ => rfl,
    m_term_text := He.glo_ok X G (cd.fact 23 (f := .glo "term_text") rfl),
    a__law_pool := He.fAd K ("_law_pool", none),
    d__law_pool := d__law_pool,
    F__law_pool := fun_ofD rfl F__law_pool,
    b__law_pool := FunD.bindsN F__law_pool fun _ _ _ _ _ _ us hl => match us, hl with | [_], _ => rfl,
    m__law_pool := He.glo_ok X G (cd.fact 24 (f := .glo "_law_pool") rfl),
    a__law_draw := He.fAd K ("_law_draw", none),
    d__law_draw := d__law_draw,
    F__law_draw := fun_ofD rfl F__law_draw,
    b__law_draw := FunD.bindsN F__law_draw fun _ _ _ _ _ _ us hl => match us, hl with | [_, _], _ => rfl,
    m__law_draw := He.glo_ok X G (cd.fact 25 (f := .glo "_law_draw") rfl),
    a__law_deep := He.fAd K ("_law_deep", none),
    d__law_deep := d__law_deep,
    F__law_deep := fun_ofD rfl F__law_deep,
    b__law_deep := FunD.bindsN F__law_deep fun _ _ _ _ _ _ us hl => match us, hl with | [], _ => rfl,
    m__law_deep := He.glo_ok X G (cd.fact 26 (f := .glo "_law_deep") rfl),
    a__law_signs := He.fAd K ("_law_signs", none),
    d__law_signs := d__law_signs,
    F__law_signs := fun_ofD rfl F__law_signs,
    b__law_signs := FunD.bindsN F__law_signs fun _ _ _ _ _ _ us hl => match us, hl with | [_], _ => rfl,
    m__law_signs := He.glo_ok X G (cd.fact 27 (f := .glo "_law_signs") rfl),
    a__law_term := He.fAd K ("_law_term", none),
    d__law_term := d__law_term,
    F__law_term := fun_ofD rfl F__law_term,
    b__law_term := FunD.bindsN F__law_term fun _ _ _ _ _ _ us hl => match us, hl with | [_, _, _], _ => rfl,
    m__law_term := He.glo_ok X G (cd.fact 28 (f := .glo "_law_term") rfl),
    a__law_lines := He.fAd K ("_law_lines", none),
    d__law_lines := d__law_lines,
    F__law_lines := fun_ofD rfl F__law_lines,
    b__law_lines := FunD.bindsN F__law_lines fun _ _ _ _ _ _ us hl => match us, hl with | [_, _, _, _], _ => rfl,
    m__law_lines := He.glo_ok X G (cd.fact 29 (f := .glo "_law_lines") rfl),
    a__law_lore := He.fAd K ("_law_lore", none),
    d__law_lore := d__law_lore,
    F__law_lore := fun_ofD rfl F__law_lore,
    b__law_lore := FunD.bindsN F__law_lore fun _ _ _ _ _ _ us hl => match us, hl with | [_, _, _], _ => rfl,
    m__law_lore := He.glo_ok X G (cd.fact 30 (f := .glo "_law_lore") rfl),
    a__law_made := He.fAd K ("_law_made", none),
    d__law_made := d__law_made,
    F__law_made := fun_ofD rfl F__law_made,
    b__law_made := FunD.bindsN F__law_made fun _ _ _ _ _ _ us hl => match us, hl with | [_], _ => rfl,
    m__law_made := He.glo_ok X G (cd.fact 31 (f := .glo "_law_made") rfl),
    a__law_size := He.fAd K ("_law_size", none),
    d__law_size := d__law_size,
    F__law_size := fun_ofD rfl F__law_size,
    b__law_size := FunD.bindsN F__law_size fun _ _ _ _ _ _ us hl => match us, hl with | [_], _ => rfl,
    m__law_size := He.glo_ok X G (cd.fact 32 (f := .glo "_law_size") rfl),
    a__law_key := He.fAd K ("_law_key", none),
    d__law_key := d__law_key,
    F__law_key := fun_ofD rfl F__law_key,
    b__law_key := FunD.bindsN F__law_key fun _ _ _ _ _ _ us hl => match us, hl with | [_], _ => rfl,
    m__law_key := He.glo_ok X G (cd.fact 33 (f := .glo "_law_key") rfl),
    a__law_within := He.fAd K ("_law_within", none),
    d__law_within := d__law_within,
    F__law_within := fun_ofD rfl F__law_within,
    b__law_within := FunD.bindsN F__law_within fun _ _ _ _ _ _ us hl => match us, hl with | [_], _ => rfl,
    m__law_within := He.glo_ok X G (cd.fact 34 (f := .glo "_law_within") rfl),
    a__law_told := He.fAd K ("_law_told", none),
    d__law_told := d__law_told,
    F__law_told := fun_ofD rfl F__law_told,
    b__law_told := FunD.bindsN F__law_told fun _ _ _ _ _ _ us hl => match us, hl with | [_], _ => rfl,
    m__law_told := He.glo_ok X G (cd.fact 35 (f := .glo "_law_told") rfl),
    a__law_is_term := He.fAd K ("_law_is_term", none),
    d__law_is_term := d__law_is_term,
    F__law_is_term := fun_ofD rfl F__law_is_term,
    b__law_is_term := FunD.bindsN F__law_is_term fun _ _ _ _ _ _ us hl => match us, hl with | [_, _], _ => rfl,
    m__law_is_term := He.glo_ok X G (cd.fact 36 (f := .glo "_law_is_term") rfl),
    a__law_word := He.fAd K ("_law_word", none),
    d__law_word := d__law_word,
    F__law_word := fun_ofD rfl F__law_word,
    b__law_word := FunD.bindsN F__law_word fun _ _ _ _ _ _ us hl => match us, hl with | [_, _, _, _], _ => rfl,
    m__law_word := He.glo_ok X G (cd.fact 37 (f := .glo "_law_word") rfl),
    a_law := He.fAd K ("law", none),
    d_law := d_law,
    F_law := fun_ofD rfl F_law,
    b_law := FunD.bindsN F_law fun _ _ _ _ _ _ us hl => match us, hl with | [_], _ => rfl,
    m_law := He.glo_ok X G (cd.fact 38 (f := .glo "law") rfl),
    c_Bank := He.ga K "Bank",
    cl_Bank := He.cls_ok (cd.fact 40 (f := .cls "Bank") rfl),
    m_Bank := He.glo_ok X G (cd.fact 39 (f := .glo "Bank") rfl),
    mk_Bank := He.mkr_ok (cd.fact 41 (f := .mkr "Bank") rfl),
    h_Bank_number_of := He.meth_ok (cd.fact 42 (f := .meth "Bank" "number_of") rfl),
    h_Bank_take := He.meth_ok (cd.fact 43 (f := .meth "Bank" "take") rfl),
    h_Bank_take_lines := He.meth_ok (cd.fact 44 (f := .meth "Bank" "take_lines") rfl),
    n_Bank_table := He.noat_ok (cd.fact 45 (f := .noat "Bank" "table") rfl),
    n_Bank_shapes := He.noat_ok (cd.fact 46 (f := .noat "Bank" "shapes") rfl),
    n_Bank_terms := He.noat_ok (cd.fact 47 (f := .noat "Bank" "terms") rfl),
    c_Merger := He.ga K "Merger",
    cl_Merger := He.cls_ok (cd.fact 49 (f := .cls "Merger") rfl),
    m_Merger := He.glo_ok X G (cd.fact 48 (f := .glo "Merger") rfl),
    mk_Merger := He.mkr_ok (cd.fact 50 (f := .mkr "Merger") rfl),
    h_Merger_home := He.meth_ok (cd.fact 51 (f := .meth "Merger" "home") rfl),
    h_Merger_unite := He.meth_ok (cd.fact 52 (f := .meth "Merger" "unite") rfl),
    h_Merger_unite_likes := He.meth_ok (cd.fact 53 (f := .meth "Merger" "unite_likes") rfl),
    n_Merger_homes := He.noat_ok (cd.fact 54 (f := .noat "Merger" "homes") rfl),
    n_Merger_edges := He.noat_ok (cd.fact 55 (f := .noat "Merger" "edges") rfl),
    c_Hall := He.ga K "Hall",
    cl_Hall := He.cls_ok (cd.fact 57 (f := .cls "Hall") rfl),
    m_Hall := He.glo_ok X G (cd.fact 56 (f := .glo "Hall") rfl),
    mk_Hall := He.mkr_ok (cd.fact 58 (f := .mkr "Hall") rfl),
    h_Hall_worth := He.meth_ok (cd.fact 59 (f := .meth "Hall" "worth") rfl),
    n_Hall_classes := He.noat_ok (cd.fact 60 (f := .noat "Hall" "classes") rfl),
    n_Hall_table := He.noat_ok (cd.fact 61 (f := .noat "Hall" "table") rfl),
    n_Hall_ways := He.noat_ok (cd.fact 62 (f := .noat "Hall" "ways") rfl),
    c_Spots := He.ga K "Spots",
    cl_Spots := He.cls_ok (cd.fact 64 (f := .cls "Spots") rfl),
    m_Spots := He.glo_ok X G (cd.fact 63 (f := .glo "Spots") rfl),
    mk_Spots := He.mkr_ok (cd.fact 65 (f := .mkr "Spots") rfl),
    h_Spots_spot := He.meth_ok (cd.fact 66 (f := .meth "Spots" "spot") rfl),
    h_Spots_spot_of := He.meth_ok (cd.fact 67 (f := .meth "Spots" "spot_of") rfl),
    h_Spots_are_one := He.meth_ok (cd.fact 68 (f := .meth "Spots" "are_one") rfl),
    n_Spots_table := He.noat_ok (cd.fact 69 (f := .noat "Spots" "table") rfl),
    n_Spots_further := He.noat_ok (cd.fact 70 (f := .noat "Spots" "further") rfl),
    c_Lore := He.ga K "Lore",
    cl_Lore := He.cls_ok (cd.fact 72 (f := .cls "Lore") rfl),
    m_Lore := He.glo_ok X G (cd.fact 71 (f := .glo "Lore") rfl),
    mk_Lore := He.mkr_ok (cd.fact 73 (f := .mkr "Lore") rfl),
    q_Lore := ownEq_ok x0,
    n_Lore_signs := He.noat_ok (cd.fact 74 (f := .noat "Lore" "signs") rfl),
    n_Lore_lines := He.noat_ok (cd.fact 75 (f := .noat "Lore" "lines") rfl),
    u_LETTERS := .str "abcdefghijklmnopqrstuvwxyz" (He.str_ok X G (cd.fact 79 (f := .str "LETTERS" "abcdefghijklmnopqrstuvwxyz") rfl)).choose,
    m_LETTERS := (He.str_ok X G (cd.fact 79 (f := .str "LETTERS" "abcdefghijklmnopqrstuvwxyz") rfl)).choose_spec,
    r_LETTERS := ⟨_, rfl⟩,
    u_MOST_LETTERS := .int 8 (He.int_ok X G (cd.fact 80 (f := .int "MOST_LETTERS" 8) rfl)).choose,
    m_MOST_LETTERS := (He.int_ok X G (cd.fact 80 (f := .int "MOST_LETTERS" 8) rfl)).choose_spec,
    r_MOST_LETTERS := ⟨_, rfl⟩,
    u_MOST_PLACES := .int 2 (He.int_ok X G (cd.fact 81 (f := .int "MOST_PLACES" 2) rfl)).choose,
    m_MOST_PLACES := (He.int_ok X G (cd.fact 81 (f := .int "MOST_PLACES" 2) rfl)).choose_spec,
    r_MOST_PLACES := ⟨_, rfl⟩,
    u_MOST_SIGNS := .int 12 (He.int_ok X G (cd.fact 82 (f := .int "MOST_SIGNS" 12) rfl)).choose,
    m_MOST_SIGNS := (He.int_ok X G (cd.fact 82 (f := .int "MOST_SIGNS" 12) rfl)).choose_spec,
    r_MOST_SIGNS := ⟨_, rfl⟩,
    u_MOST_LINES := .int 24 (He.int_ok X G (cd.fact 83 (f := .int "MOST_LINES" 24) rfl)).choose,
    m_MOST_LINES := (He.int_ok X G (cd.fact 83 (f := .int "MOST_LINES" 24) rfl)).choose_spec,
    r_MOST_LINES := ⟨_, rfl⟩,
    u_MOST_TOLD := .int 60 (He.int_ok X G (cd.fact 84 (f := .int "MOST_TOLD" 60) rfl)).choose,
    m_MOST_TOLD := (He.int_ok X G (cd.fact 84 (f := .int "MOST_TOLD" 60) rfl)).choose_spec,
    r_MOST_TOLD := ⟨_, rfl⟩,
    c_LoreError := He.ga K "LoreError",
    m_LoreError := He.glo_ok X G (cd.fact 76 (f := .glo "LoreError") rfl),
    g_LoreError := (xbase_ok x7).1,
    y_LoreError := (xbase_ok x7).2.1,
    rd_LoreError := (xbase_ok x7).2.2.1,
    v_LoreError := (xbase_ok x7).2.2.2,
    c_NoTerm := He.ga K "NoTerm",
    m_NoTerm := He.glo_ok X G (cd.fact 77 (f := .glo "NoTerm") rfl),
    o_NoTerm := (oex_ok x3).1,
    i_NoTerm := (oex_ok x3).2.1,
    t_NoTerm := (oex_ok x3).2.2,
    ex_NoTerm := exi_ok x4,
    k_NoTerm_NoTerm := of_decide_eq_true x5,
    k_NoTerm_ValueError := of_decide_eq_true x6,
    e_NoTerm_LoreError := He.exm_ok (cd.fact 78 (f := .exm "NoTerm" "LoreError" true) rfl),
    z_ValueError := He.free_ok X G (cd.fact 85 (f := .free "ValueError") rfl),
    z_abs := He.free_ok X G (cd.fact 86 (f := .free "abs") rfl),
    z_all := He.free_ok X G (cd.fact 87 (f := .free "all") rfl),
    z_any := He.free_ok X G (cd.fact 88 (f := .free "any") rfl),
    z_bool := He.free_ok X G (cd.fact 89 (f := .free "bool") rfl),
    z_dict := He.free_ok X G (cd.fact 90 (f := .free "dict") rfl),
    z_enumerate := He.free_ok X G (cd.fact 91 (f := .free "enumerate") rfl),
    z_int := He.free_ok X G (cd.fact 92 (f := .free "int") rfl),
    z_isinstance := He.free_ok X G (cd.fact 93 (f := .free "isinstance") rfl),
    z_len := He.free_ok X G (cd.fact 94 (f := .free "len") rfl),
    z_list := He.free_ok X G (cd.fact 95 (f := .free "list") rfl),
    z_max := He.free_ok X G (cd.fact 96 (f := .free "max") rfl),
    z_range := He.free_ok X G (cd.fact 97 (f := .free "range") rfl),
    z_reversed := He.free_ok X G (cd.fact 98 (f := .free "reversed") rfl),
    z_sorted := He.free_ok X G (cd.fact 99 (f := .free "sorted") rfl),
    z_str := He.free_ok X G (cd.fact 100 (f := .free "str") rfl),
    z_sum := He.free_ok X G (cd.fact 101 (f := .free "sum") rfl),
    z_tuple := He.free_ok X G (cd.fact 102 (f := .free "tuple") rfl),
    z_zip := He.free_ok X G (cd.fact 103 (f := .free "zip") rfl)}, rfl, rfl, rfl, rfl, rfl, rfl, rfl, rfl, rfl, rfl, True.intro⟩
end NB

namespace NB
open PySem PySem.Spec PyProof.Rows L2 LamX
theorem hd_law {w : World} {K : PySem.W.Frag} {h : Heap} {mg : Str → Option Value} {fa : Addr} (X : K.In h) (G : h.Ns mainGlobals mg) (hfa : mg "law" = some (.ref fa)) (c : He.SaysX hdFa hdFn [] hdTf hdEx w h K) :
    LawAtS PySem.Challenge.rw_neatbooks_k15_hall_refused w K CX0 61 63 "_law_script" mg fa h := by
  obtain ⟨T, e1, l_Bank_take, l_ascending, l_Spots_spot_of, l_class_of, c_Bank, c_Merger, c_Hall, c_Spots, c_Lore, _⟩ := hd_tx X G c
  have ea := hfa.symm.trans T.m_law
  cases ea
  refine ⟨T.d_law, hdTf.map (He.cT K), sp_law K (hdTt K), ?_, ?_, ?_, ?_, ?_, ?_⟩
  · intro p hp
    obtain ⟨q, hq, rfl⟩ := List.mem_map.mp hp
    exact c.empty q hq
  · intro p hp
    obtain ⟨q, hq, rfl⟩ := List.mem_map.mp hp
    exact c.out q hq
  · intro p hp
    obtain ⟨q, hq, rfl⟩ := List.mem_map.mp hp
    exact PySem.W.codeHd_of_K X (c.hd q hq)
  · intro s u
    obtain ⟨oc, od, kV, doc, pm, an, cdv, ct, osl, e, lk, hc⟩ := T.F_law.ex
    rw [e]
    exact .of_eq rfl
  · intro H a ns hl hb hH hS
    exact ⟨a, ns, rfl, hS, hl, tabs_starts (fun x hx => by
      obtain ⟨d, hd, e⟩ : ∃ d ∈ hdTf, x.1 = (He.cT K d).2 := by
        simp only [hdTt, List.mem_cons, List.not_mem_nil, or_false] at hx
        first
          | (rcases hx with rfl | rfl | rfl | rfl <;> exact ⟨_, by simp [hdTf], rfl⟩)
      rw [e]
      exact hH _ (List.mem_map.mpr ⟨d, hd, rfl⟩)), fun _ => rfl⟩
  · intro base KB GB TB
    have cm : hdEx K = true := c.more
    unfold hdEx at cm
    obtain ⟨x0, cm⟩ := He.ba cm
    obtain ⟨x1, cm⟩ := He.ba cm
    obtain ⟨x2, cm⟩ := He.ba cm
    obtain ⟨x3, cm⟩ := He.ba cm
    obtain ⟨x4, cm⟩ := He.ba cm
    obtain ⟨x5, cm⟩ := He.ba cm
    obtain ⟨x6, cm⟩ := He.ba cm
    obtain ⟨x7, cm⟩ := He.ba cm
    obtain ⟨x8, cm⟩ := He.ba cm
    obtain ⟨x9, cm⟩ := He.ba cm
    obtain ⟨x10, cm⟩ := He.ba cm
    obtain ⟨x11, cm⟩ := He.ba cm
    obtain ⟨x12, cm⟩ := He.ba cm
    have tnd : ((hdTt K).map (·.1)).Nodup := of_decide_eq_true x12
    have F0 := T.F_Bank_take
    have CF0 : CodeFun K "take" "Bank.take" s_Bank_take T.a_Bank_take T.d_Bank_take (He.cT K ("Bank", some "take")).1 := by
      rw [l_Bank_take] at F0 ⊢
      exact codeFun_of F0
    have M0 : ((He.cT K ("Bank", some "take")).2, lamTake) ∈ hdTt K := (List.mem_cons_self ..)
    have GL0 := ok_Bank_take (P := PySem.Challenge.rw_neatbooks_k15_hall_refused.prog) (w := w) (base := base) T (hdTt K) _ _ CF0 (TB _ (List.mem_cons_self ..)) M0 (hu_all tnd _ M0)
    have F1 := T.F_ascending
    have CF1 : CodeFun K "ascending" "ascending" s_ascending T.a_ascending T.d_ascending (He.cT K ("ascending", none)).1 := by
      rw [l_ascending] at F1 ⊢
      exact codeFun_of F1
    have M1 : ((He.cT K ("ascending", none)).2, lamAsc) ∈ hdTt K := (List.mem_cons_of_mem _ (List.mem_cons_self ..))
    have GL1 := ok_ascending (P := PySem.Challenge.rw_neatbooks_k15_hall_refused.prog) (w := w) (base := base) T (hdTt K) _ _ CF1 (TB _ (List.mem_cons_of_mem _ (List.mem_cons_self ..))) M1 (hu_all tnd _ M1)
    have F2 := T.F_Spots_spot_of
    have CF2 : CodeFun K "spot_of" "Spots.spot_of" s_Spots_spot_of T.a_Spots_spot_of T.d_Spots_spot_of (He.cT K ("Spots", some "spot_of")).1 := by
      rw [l_Spots_spot_of] at F2 ⊢
      exact codeFun_of F2
    have M2 : ((He.cT K ("Spots", some "spot_of")).2, lamSpot) ∈ hdTt K := (List.mem_cons_of_mem _ (List.mem_cons_of_mem _ (List.mem_cons_self ..)))
    have GL2 := ok_Spots_spot_of (P := PySem.Challenge.rw_neatbooks_k15_hall_refused.prog) (w := w) (base := base) T (hdTt K) _ _ CF2 (TB _ (List.mem_cons_of_mem _ (List.mem_cons_of_mem _ (List.mem_cons_self ..)))) M2 (hu_all tnd _ M2)
    have F3 := T.F_class_of
    have CF3 : CodeFun K "class_of" "class_of" s_class_of T.a_class_of T.d_class_of (He.cT K ("class_of", none)).1 := by
      rw [l_class_of] at F3 ⊢
      exact codeFun_of F3
    have M3 : ((He.cT K ("class_of", none)).2, lamCls) ∈ hdTt K := (List.mem_cons_of_mem _ (List.mem_cons_of_mem _ (List.mem_cons_of_mem _ (List.mem_cons_self ..))))
    have GL3 := ok_class_of (P := PySem.Challenge.rw_neatbooks_k15_hall_refused.prog) (w := w) (base := base) T (hdTt K) (GT := GL0) (GAsc := GL1) _ _ CF3 (TB _ (List.mem_cons_of_mem _ (List.mem_cons_of_mem _ (List.mem_cons_of_mem _ (List.mem_cons_self ..))))) M3 (hu_all tnd _ M3)
    refine ok_law T _ GL0 GL1 GL2 GL3 (fun H a dx fs e => ?_) ?_
    · rw [c_Lore] at e ⊢
      exact ins_ok x1 (by rw [← c_Lore]; exact T.cl_Lore) H a dx fs e
    · rw [c_Lore]
      exact ⟨of_decide_eq_true x8, of_decide_eq_true x9, of_decide_eq_true x10, of_decide_eq_true x11⟩
end NB
open PySem PySem.W PySem.Calls PyProof.Rows
theorem PySem.Challenge.cw_neatbooks_k15_hall_refused_holds : PySem.Challenge.rw_neatbooks_k15_hall_refused.Holds := by
  w_on; o_law
  refine HandSHeadRun.head_any (r := OpenLaw.row PySem.Challenge.rw_neatbooks_k15_hall_refused) (q := view (OpenLaw.row PySem.Challenge.rw_neatbooks_k15_hall_refused).prog [61]) (H := NB.hdK) (ob := NB.hdOb) (M := 20000) (loose := NB.hdLoose) (d := HandSHeadRun.topDef (OpenLaw.row PySem.Challenge.rw_neatbooks_k15_hall_refused).prog 61) (kwd := []) NB.hdOb_eq
    (by kernel_rfl) (fun s => by kernel_rfl) NB.hdRun (by kernel_rfl) (by kernel_rfl) (by kernel_rfl) (by rfl) (by first | assumption | decide +kernel) (by decide +kernel) ⟨rfl, rfl, rfl, rfl, rfl, by decide +kernel⟩ ?hw ?hc
  case hw => w_witness2
  case hc =>
    refine LamX.walk_ofTsE (l := PySem.Challenge.rw_neatbooks_k15_hall_refused) (n := 63) (k := 61) (x := "_law_script") (CX := fun _ => L2.CX0) rfl (by decide) (by kernel_rfl) ⟨rfl, by decide, by decide⟩ ?F (fun _ _ _ _ _ z => z)
    intro w mg fa h Y G hmg0
    obtain ⟨K, KX, c⟩ := Y
    have hmg : mg ("law" : PySem.Str) = some (.ref fa) := by
      have e : (HandSHeadRun.topDef (OpenLaw.row PySem.Challenge.rw_neatbooks_k15_hall_refused).prog 61).name = ("law" : PySem.Str) := by kernel_rfl
      rw [← e]
      exact hmg0
    exact ⟨K, KX, NB.hd_law KX G hmg c⟩

