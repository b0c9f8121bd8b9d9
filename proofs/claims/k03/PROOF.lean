import PyProof.Rows.All
import Wide.All
import OpenK.AllK
import Wide.FinOn
import HandS.ForMost
import HandS.Wide
import HandS.TupAny
import HandS.Style
import HandS.Walk
import HandS.Flow
import HandS.Zip
import HandS.IsInst
import KE.GoesEnum
import HandS.WideBits
import HandS.More
import HandS.Evl
import PyProof.ReprLen
import PyProof.Rows.StrJoinMade
import HandS.Conv
import HandS.Exc
import HandS.ExcOwn
import HandS.ExcIs
import HandS.CallLocal
import HandS.RaiseMore
import HandS.WordsExc
import HandS.Gcd
import KE.KMathGC
import HandS.SortRule
import PySem.Challenge.RW_everyexact_k03_whole_stretches_gone_thro
set_option Elab.async false
set_option linter.all false
set_option maxRecDepth 100000
set_option maxHeartbeats 8000000
namespace EE
open PySem PySem.Spec PyProof.Rows L2

/-! ### data in the heap -/
theorem Same.sqT {K : PySem.W.Frag} {H H' : Hp} {a : Addr} {xs : List V} (e : Same H H') (h : SqT K H a xs) : SqT K H' a xs := by
  rcases h with (h | ⟨o, h⟩) | h
  · exact Or.inl (Or.inl (e a _ h))
  · exact Or.inl (Or.inr ⟨o, e a _ h⟩)
  · exact Or.inr h
mutual
theorem dp_up {K : PySem.W.Frag} {H H' : Hp} (e : Same H H') : ∀ {d : PyData} {v : V}, Dp K H v d → Dp K H' v d
  | .none, _, h => by cases h; exact .non
  | .bool b, _, h => by cases h; exact .bl b
  | .int i, _, h => by cases h; exact .int i
  | .str x, _, h => by cases h; exact .str x
  | .list ds, _, h => by
    cases h with
    | lst hs ha => exact .lst (e.seq hs) (dps_up e ha)
  | .tuple ds, _, h => by
    cases h with
    | tup hs ha => exact .tup (Same.sqT e hs) (dps_up e ha)
  | .dict _, _, h => by cases h
theorem dps_up {K : PySem.W.Frag} {H H' : Hp} (e : Same H H') : ∀ {ds : List PyData} {vs : List V}, DpAll K H vs ds → DpAll K H' vs ds
  | [], _, h => by cases h; exact .nil
  | d :: ds, _, h => by
    cases h with
    | cons h1 h2 => exact .cons (dp_up e h1) (dps_up e h2)
end
theorem dps_len {K : PySem.W.Frag} {H : Hp} : ∀ {ds : List PyData} {vs : List V}, DpAll K H vs ds → vs.length = ds.length
  | [], _, h => by cases h; rfl
  | d :: ds, _, h => by
    cases h with
    | cons h1 h2 => rw [List.length_cons, List.length_cons, dps_len h2]
theorem dps_at {K : PySem.W.Frag} {H : Hp} : ∀ {ds : List PyData} {vs : List V} {i : Nat} {d : PyData}, DpAll K H vs ds → ds[i]? = some d → ∃ v, vs[i]? = some v ∧ Dp K H v d
  | [], _, i, _, h, e => by simp at e
  | d :: ds, _, 0, d', h, e => by
    cases h with
    | cons h1 h2 =>
      have : d = d' := by simpa using e
      subst this
      exact ⟨_, rfl, h1⟩
  | d :: ds, _, i + 1, d', h, e => by
    cases h with
    | cons h1 h2 =>
      obtain ⟨v, h3, h4⟩ := dps_at (i := i) (d := d') h2 (by simpa using e)
      exact ⟨v, by simpa using h3, h4⟩
theorem dps_at' {K : PySem.W.Frag} {H : Hp} {ds : List PyData} {vs : List V} {i : Nat} {v : V} (h : DpAll K H vs ds) (e : vs[i]? = some v) : ∃ d, ds[i]? = some d ∧ Dp K H v d := by
  have hl := dps_len h
  obtain ⟨hi, _⟩ := List.getElem?_eq_some_iff.mp e
  have hd : ds[i]? = some (ds[i]'(by omega)) := List.getElem?_eq_getElem _
  obtain ⟨v', h1, h2⟩ := dps_at h hd
  rw [e] at h1
  cases h1
  exact ⟨_, hd, h2⟩
theorem dps_app {K : PySem.W.Frag} {H : Hp} : ∀ {ds es : List PyData} {vs us : List V}, DpAll K H vs ds → DpAll K H us es → DpAll K H (vs ++ us) (ds ++ es)
  | [], _, _, _, h, k => by cases h; exact k
  | d :: ds, _, _, _, h, k => by
    cases h with
    | cons h1 h2 => exact .cons h1 (dps_app h2 k)
theorem dps_erase {K : PySem.W.Frag} {H : Hp} : ∀ {ds : List PyData} {vs : List V} (i : Nat), DpAll K H vs ds → DpAll K H (vs.eraseIdx i) (ds.eraseIdx i)
  | [], _, _, h => by cases h; exact .nil
  | d :: ds, _, 0, h => by
    cases h with
    | cons h1 h2 => exact h2
  | d :: ds, _, i + 1, h => by
    cases h with
    | cons h1 h2 => exact .cons h1 (dps_erase i h2)
theorem dps_set {K : PySem.W.Frag} {H : Hp} {w : V} {e : PyData} (k : Dp K H w e) : ∀ {ds : List PyData} {vs : List V} (i : Nat), DpAll K H vs ds → DpAll K H (vs.set i w) (ds.set i e)
  | [], _, _, h => by cases h; exact .nil
  | d :: ds, _, 0, h => by
    cases h with
    | cons h1 h2 => exact .cons k h2
  | d :: ds, _, i + 1, h => by
    cases h with
    | cons h1 h2 => exact .cons h1 (dps_set k i h2)
theorem dps_take {K : PySem.W.Frag} {H : Hp} : ∀ {ds : List PyData} {vs : List V} (i : Nat), DpAll K H vs ds → DpAll K H (vs.take i) (ds.take i)
  | _, _, 0, h => .nil
  | [], _, _ + 1, h => by cases h; exact .nil
  | d :: ds, _, i + 1, h => by
    cases h with
    | cons h1 h2 => exact .cons h1 (dps_take i h2)
theorem dps_drop {K : PySem.W.Frag} {H : Hp} : ∀ {ds : List PyData} {vs : List V} (i : Nat), DpAll K H vs ds → DpAll K H (vs.drop i) (ds.drop i)
  | _, _, 0, h => h
  | [], _, _ + 1, h => by cases h; exact .nil
  | d :: ds, _, i + 1, h => by
    cases h with
    | cons h1 h2 => exact dps_drop i h2
theorem dps_ints {K : PySem.W.Frag} {H : Hp} : ∀ {ns : List Int} {vs : List V}, DpAll K H vs (ns.map PyData.int) → vs = ns.map V.int
  | [], _, h => by cases h; rfl
  | n :: ns, _, h => by
    cases h with
    | cons h1 h2 =>
      cases h1
      rw [dps_ints h2]
      rfl
theorem dps_of_ints {K : PySem.W.Frag} {H : Hp} : ∀ (ns : List Int), DpAll K H (ns.map V.int) (ns.map PyData.int)
  | [] => .nil
  | n :: ns => .cons (.int n) (dps_of_ints ns)
theorem dps_bls {K : PySem.W.Frag} {H : Hp} : ∀ {ns : List Bool} {vs : List V}, DpAll K H vs (ns.map PyData.bool) → vs = ns.map V.bl
  | [], _, h => by cases h; rfl
  | n :: ns, _, h => by
    cases h with
    | cons h1 h2 =>
      cases h1
      rw [dps_bls h2]
      rfl

/-! ### repr of data -/
def rRepr (K : PySem.W.Frag) : List V → Hp → VK → Prop := fun vs H Q => ∃ a d, vs = [.ref a] ∧ Dp K H (.ref a) d ∧ d.showable = true ∧ d.depth ≤ 60 ∧ d.shown.length ≤ sizeLine ∧ Q (.str d.shown) H
mutual
theorem dp_noDict {K : PySem.W.Frag} {H : Hp} : ∀ {d : PyData} {v : V}, Dp K H v d → d.hasDict = false
  | .none, _, _ => by simp only [PyData.hasDict]
  | .bool _, _, _ => by simp only [PyData.hasDict]
  | .int _, _, _ => by simp only [PyData.hasDict]
  | .str _, _, _ => by simp only [PyData.hasDict]
  | .list ds, _, h => by
    cases h with
    | lst _ ha => simp only [PyData.hasDict]; exact dps_noDict ha
  | .tuple ds, _, h => by
    cases h with
    | tup _ ha => simp only [PyData.hasDict]; exact dps_noDict ha
  | .dict _, _, h => by cases h
theorem dps_noDict {K : PySem.W.Frag} {H : Hp} : ∀ {ds : List PyData} {vs : List V}, DpAll K H vs ds → PyData.hasDictAll ds = false
  | [], _, _ => by simp only [PyData.hasDictAll]
  | d :: ds, _, h => by
    cases h with
    | cons h1 h2 => simp only [PyData.hasDictAll, dp_noDict h1, dps_noDict h2, Bool.or_false]
end

section
variable {X : Cx}
theorem call_repr (hg : X.A.guards = some []) (hu : X.A.units + 64 < cLine) : CallR X (.builtin "repr") (rRepr X.K) := by
  intro pins s σ H xs us Q I r h
  obtain ⟨a, d, rfl, hd, hs, hdp, hz, q⟩ := h
  obtain ⟨u, rfl, ru⟩ := vals1 r
  obtain ⟨as, rd⟩ := Dp.reads I d (.ref a) u hd ru
  cases ru
  exact repr_of_reads' rd hs (PyData.noDict_hsm (dp_noDict hd)) hg (by omega) (fun _ _ e => e) (fun h' u tk k => ⟨.str d.shown, H, I.kept k, ⟨_, rfl⟩, q⟩) hz
/-! ### enumerate of a tuple -/
theorem meets_enumNew1 {v : Value} {o : Obj} {G : Heap → Prop} (B : Begins v o G) :
    Meets (Builtin.«enumerate.__new__» ⟨[.type "enumerate", v], []⟩) (fun _ R s => G s.heap ∧
      R (.ok (.ret (.ref (s.heap.push o).objs.size)))
        { s with heap := (s.heap.push o).push { cls := .type "enumerate", data := .fields #[.none, .bool false, .ref s.heap.objs.size, rawInt 0, .none, .none] } }) :=
  .of_wp fun prog w A R s h => by
    obtain ⟨hp, g, d, tk, os⟩ := s
    obtain ⟨g1, h⟩ := h
    have sub := sub_enumerate
    have its : ∀ {A' : Around} {E : Value → Shared → Prop} {Q : Value → Shared → Prop}, Q (.ref hp.objs.size) ⟨hp.push o, g, d, tk, os⟩ → wpAny (model prog w) A' (pyIter v) Q E ⟨hp, g, d, tk, os⟩ :=
      fun {A' E Q} q => B.iter prog w A' E ⟨hp, g, d, tk, os⟩ Q g1 q
    wp_walk using its
    refine wpAny_stack_any fun st => wpAny_pure ?_
    split
    · rename_i c _ _ _ _ _
      cases (c == Value.type "enumerate") <;> (wp_walk using its; exact ⟨_, rfl, h⟩)
    · wp_walk using its
      exact ⟨_, rfl, h⟩
theorem enum_tuple1 {prog : Program} {w : World} {A : Around} {E : Value → Shared → Prop} {s : Shared} {t : Addr} {items : Array Value} {Q : Value → Shared → Prop} (ht : s.heap.IsTuple t items)
    (h : ∀ h', IsEnum h' (s.heap.objs.size + 1) s.heap.objs.size 0 .none → h'.IsTupleIter s.heap.objs.size t 0 →
      (∀ b o, s.heap.get? b = some o → h'.get? b = some o) → Q (.ref (s.heap.objs.size + 1)) { s with heap := h' }) :
    wpAny (model prog w) A (call (.type "enumerate") [.ref t]) Q E s := by
  have B := begins_tuple t items
  refine callType_new F.called_enumerate (by decide) (F.typeCall_enumerate_1 _) (F.newCall_enumerate_1 _) (fun obj => F.args_object_init_2 obj _) F.entry_enumerate_new (meets_enumNew1 B) ⟨ht, ?_⟩
  generalize ho : ({ cls := .type "tuple_iterator", data := .fields #[.ref t, .int 0 0] } : Obj) = o at B
  have hz : (s.heap.push o).objs.size = s.heap.objs.size + 1 := Heap.size_push ..
  have g2 : ((s.heap.push o).push { cls := .type "enumerate", data := .fields #[.none, .bool false, .ref s.heap.objs.size, rawInt 0, .none, .none] }).get? (s.heap.objs.size + 1)
      = some { cls := .type "enumerate", data := .fields #[.none, .bool false, .ref s.heap.objs.size, rawInt 0, .none, .none] } := by
    rw [← hz]
    exact Heap.get?_push_size _ rfl
  have g1 : ((s.heap.push o).push { cls := .type "enumerate", data := .fields #[.none, .bool false, .ref s.heap.objs.size, rawInt 0, .none, .none] }).get? s.heap.objs.size = some o :=
    Heap.get?_push_of_some _ (Heap.get?_push_size _ B.free)
  show _ ∧ _
  rw [hz]
  subst ho
  exact ⟨⟨_, g2, rfl⟩, h _ g2 ⟨_, g1, rfl, rfl⟩ fun b ob e => Heap.get?_push_of_some _ (Heap.get?_push_of_some _ e)⟩
theorem enumT_end {prog : Program} {w : World} {A : Around} {E : Value → Shared → Prop} {s : Shared} {e it t : Addr} {i : Nat} {items : Array Value} {old : Value} {Q : Option Value → Shared → Prop} (hh : A.handled = none)
    (he : IsEnum s.heap e it ((i : Nat) : Int) old) (hit : s.heap.IsTupleIter it t i) (ht : s.heap.IsTuple t items) (hx : items[i]? = none)
    (h : ∀ h', Heap.ExtBut it s.heap h' → Q none { s with heap := h' }) : wpAny (model prog w) A (pyNext (.ref e)) Q E s := by
  have hT : s.TypeIs (.ref e) "enumerate" := ⟨_, he, rfl⟩
  unfold pyNext
  refine wpAny_bind (wpAny_attempt (wpAny_callSpecial?_slot (name := Str.ofString "__next__") hT F.slot_enumerate_next (wpAny_call_entry F.slot_enumerate_next hT F.entry_enumerate_next ?_ (F.args_enumerate_next_1 _))))
  show wpAny _ _ (field (.ref e) 2 >>= _) _ _ _
  refine wpAny_bind (wpAny_field he rfl (x := .ref it) rfl ?_)
  refine wpAny_bind (wpAny_nextOf_tuple_end (A := A.in1) hh hit ht hx fun h' x he' hx' => ?_)
  obtain ⟨o, ho, hc⟩ := hx'
  exact wpAny_bind (wpAny_isInstance (T := "StopIteration") (b := true) ⟨o, ho, hc⟩ isSubtype_stop (wpAny_pure (h _ he')))
def Itet (K : PySem.W.Frag) (a : Addr) : It where
  go := fun i H => ∃ (xs : List V) (x : V), SqT K H a xs ∧ xs[i]? = some x
  yld := fun i H v H' => ∃ T x, v = .ref T ∧ H T = none ∧ H' = upd H T (.tup [.int (i : Nat), x]) ∧ ∀ xs, SqT K H a xs → xs[i]? = some x
  stop := fun i H => ∃ xs : List V, SqT K H a xs ∧ xs.length ≤ i
theorem turn_enumT {P : Program} {w : World} {K : PySem.W.Frag} {elts : List Expr} {kk : Nat} {tpos : Pos} (a e it : Addr) :
    Turn P w K (.Tuple elts kk tpos) (Itet K a) [e, it] e (fun i h => (∃ old, IsEnum h e it ((i : Nat) : Int) old) ∧ h.IsTupleIter it a i ∧ e ≠ it) where
  mem := List.mem_cons_self ..
  obj := fun i h st b hb => by
    obtain ⟨⟨old, he⟩, ⟨o, ho, hc, hd⟩, _⟩ := st
    simp only [List.mem_cons, List.not_mem_nil, or_false] at hb
    rcases hb with rfl | rfl
    · exact ⟨_, he, fun v q => nomatch q⟩
    · exact ⟨o, ho, fun v q => by rw [hd] at q; cases q⟩
  keep := fun i h h' st k => by
    obtain ⟨⟨old, he⟩, hit, hne⟩ := st
    exact ⟨⟨old, k e (List.mem_cons_self ..) _ he⟩, hit.at fun o q => k it (List.mem_cons_of_mem _ (List.mem_cons_self ..)) o q, hne⟩
  item := by
    intro X hP hw hK hc i pins s σ H E I hf st hg
    subst hP hw hK
    obtain ⟨⟨old, he⟩, hit, hne⟩ := st
    obtain ⟨xs, x, hq, hx⟩ := hg
    obtain ⟨its, rv, p, hz⟩ := I.tuple hq
    have pT : s.heap.IsTuple a its.toArray := p
    have hai : a ≠ it := fun z => by
      obtain ⟨o, ho, hcl, _⟩ := hit
      obtain ⟨o2, ho2, hcl2, _⟩ := p
      rw [z, ho] at ho2
      cases ho2
      rw [hcl] at hcl2
      exact absurd hcl2 (by decide)
    obtain ⟨u, hu, ru⟩ := rv.get hx
    obtain ⟨hi', _⟩ := List.getElem?_eq_some_iff.mp hu
    have D := Draws.tuple (prog := X.prog) (w := X.w) (A := X.A.in1) (I.ok.hd hc) it a hai its.toArray
    have hea : e ≠ a := fun z => by
      obtain ⟨o2, ho2, hcl2, _⟩ := p
      rw [← z, show s.heap.get? e = some _ from he] at ho2
      cases ho2
      have bad : Value.type "enumerate" = Value.type "tuple" := hcl2
      exact absurd bad (by decide)
    have hfp : e ∉ [it, a] := by
      simp only [List.mem_cons, List.not_mem_nil, or_false, not_or]
      exact ⟨hne, hea⟩
    refine wpAny_pyNext_enum_itemD D he ⟨hit, pT⟩ (by simpa using hi') hne hfp fun y h' tk hy ho hst' hT hsz hk => ?_
    have ey : y = u := by
      have : its[i]? = some y := by simpa using hy
      rw [this] at hu
      exact Option.some.inj hu
    subst ey
    refine ⟨_, rfl, wpAny_letOwnedTupleGo_enum (s := { s with heap := h', toks := tk + 1 }) ho fun h2 he2 sb => ?_⟩
    have el : e < s.heap.objs.size := Heap.lt_size he
    have il : it < s.heap.objs.size := by
      obtain ⟨_, q, _⟩ := hit
      exact Heap.lt_size q
    have hT2 : h2.get? s.heap.objs.size = some { cls := .type "tuple", data := .seq #[.int i tk, y] } := (sb.2 _ (Nat.ne_of_gt el)).trans hT
    have new : ObjOk X.prog X.w (upd H s.heap.objs.size (.tup [.int (i : Nat), x])) h2 s.heap.objs.size (.tup [.int (i : Nat), x]) :=
      ⟨by show 2 ≤ sizeLine; decide, _, .cons ⟨tk, rfl⟩ (.cons ru .nil), ⟨_, hT2, rfl, _, rfl⟩⟩
    have I1 := I.turnedNew (h' := h2) (t' := tk + 1) (ch := [e, it]) (fun b ob hb q => by
      simp only [List.mem_cons, List.not_mem_nil, or_false, not_or] at hb
      exact (sb.2 b hb.1).trans (hk b ob hb.1 hb.2 q)) hf (Nat.le_refl _) new
    refine ⟨.ref s.heap.objs.size, _, I1, rfl, ⟨_, x, rfl, I.hok.fresh (Nat.le_refl _), rfl, fun ys hy2 => ?_⟩, ⟨⟨y, ?_⟩, hst'.1.at fun o q => (sb.2 it (Ne.symm hne)).trans q, hne⟩, fun b hb => ?_⟩
    · rw [I.tuple_inj hy2 hq]
      exact hx
    · rw [show ((i + 1 : Nat) : Int) = (i : Int) + 1 by omega]
      exact he2
    · have h0 := (hf b hb).1
      simp only [List.mem_cons, List.not_mem_nil, or_false] at hb
      have nb : b ≠ s.heap.objs.size := by
        rcases hb with z | z
        · rw [z]; exact Nat.ne_of_lt el
        · rw [z]; exact Nat.ne_of_lt il
      rw [upd_ne nb]
      exact h0
  done := by
    intro X hP hw hK hc i pins s σ H E I hf st hg
    subst hP hw hK
    obtain ⟨⟨old, he⟩, hit, hne⟩ := st
    obtain ⟨xs, hq, hx⟩ := hg
    obtain ⟨its, rv, p, hz⟩ := I.tuple hq
    have pT : s.heap.IsTuple a its.toArray := p
    have hai : a ≠ it := fun z => by
      obtain ⟨o, ho, hcl, _⟩ := hit
      obtain ⟨o2, ho2, hcl2, _⟩ := p
      rw [z, ho] at ho2
      cases ho2
      rw [hcl] at hcl2
      exact absurd hcl2 (by decide)
    obtain ⟨f0, f1, f2, f3, f4, f5⟩ := hf it (List.mem_cons_of_mem _ (List.mem_cons_self ..))
    have hl := rv.length
    exact enumT_end (I.ok.hd hc) he hit pT (by simp; omega) fun h' eb => ⟨rfl, I.turned (t' := s.toks) (fun b o hb q => eb b o hb q) f0 f1 f3 f4 f5⟩
  self := fun A i s Q E st h => let ⟨⟨_, he⟩, _⟩ := st; wpAny_pyIter_enum he h
def iEnumT (K : PySem.W.Frag) (ta : TA) : TI := fun σ H R => ta σ H fun vs H1 => ∃ a xs, vs = [.ref a] ∧ SqT K H1 a xs ∧ R (Itet K a) H1
theorem pi_enumT {e : Expr} {ta : TA} {p pos tpos : Pos} {elts : List Expr} {kk : Nat} (hg : Gl X "enumerate") (hm : X.mg "enumerate" = none) (ha : PA X [e] ta) (hs : starEach [e] X.env = [(false, eval e X.env)] := by rfl) :
    PI X (.Tuple elts kk tpos) (.Call (.Name "enumerate" p) [e] [] pos) (iEnumT X.K ta) := by
  refine ⟨fun pins s σ H R I h => ?_⟩
  have arg := ha.run pos pins s σ H _ I h
  refine Call_ (ld_blt I hg hm boot_enumerate (PyProof.Rows.callWith_type1 (thn arg fun us s1 ⟨vs, H1, I1, r1, q1⟩ => ?_) hs rfl))
  obtain ⟨a, xs, ex, hq, q⟩ := q1
  subst ex
  obtain rfl := Vals.ref1 r1
  obtain ⟨its, rv, p', hz⟩ := I1.tuple hq
  refine enum_tuple1 (items := its.toArray) p' fun h' he hit hk => wpAny_pyIter_enum he ?_
  refine ⟨s1.heap.objs.size + 1, [s1.heap.objs.size + 1, s1.heap.objs.size], _, _, H1, rfl, I1.kept (t' := s1.toks) hk, turn_enumT a _ s1.heap.objs.size, ⟨⟨.none, he⟩, hit, Nat.succ_ne_self _⟩, fun b hb => ?_, q⟩
  simp only [List.mem_cons, List.not_mem_nil, or_false] at hb
  have hle : s1.heap.objs.size ≤ b := by
    rcases hb with z | z
    · rw [z]; exact Nat.le_succ _
    · rw [z]; exact Nat.le_refl _
  exact I1.fpOk hle (I1.hok.fresh hle)
theorem walk_enumT {K : PySem.W.Frag} {a : Addr} {xs : List V} : Walk (Itet K a) xs.length (fun H => SqT K H a xs) (YPair (fun i => some (.int (i : Nat))) (fun i => xs[i]?)) := by
  refine ⟨fun i H hi q => ⟨xs, xs[i], q, List.getElem?_eq_getElem hi⟩, fun H q => ⟨xs, q, Nat.le_refl _⟩, fun i H v H' hi q y => ?_⟩
  obtain ⟨T, x, h1, h2, h3, h4⟩ := y
  exact ⟨T, .int (i : Nat), x, h1, h2, h3, rfl, h4 xs q⟩
end
end EE

namespace EE
open PySem PySem.Spec PyProof.Rows L2
/-! ### a def that shows things: it is called where nothing is being shown -/
structure FnG (P : Program) (w : World) (K : PySem.W.Frag) (mg : Str → Option Value) (base : Heap) (k : Nat) (f : Addr) (fd : FuncData) (ps : List Str) (sp : Sp) : Prop where
  len : ∀ vs H Q E, sp vs H Q E → vs.length = ps.length
  run : ∀ (A : Around) (outer : List Env) (s : Shared) (H : Hp) (args : Args) (us : List Value) (vs : List V) (Q : VK) (E : XK), A.guards = some [] → Room k A →
    Env0 P w K mg base A outer s H → BindsTo s fd args (ps.zip us) → Vals vs us → sp vs H Q E → codeAny (model P w) A (.call (.ref f) args) (CR CX0 outer P w H s Q E) s
section
variable {P : Program} {w : World} {K : PySem.W.Frag} {mg : Str → Option Value} {base : Heap}
theorem okG {x qual : Str} {st : Stmt} {f : Addr} {fd : FuncData} {N ps : List Str} {k : Nat} {sp : Sp} (F : Fun K x qual st f fd) (S : FnScope N ps (defScope st)) (len : ∀ vs H Q E, sp vs H Q E → vs.length = ps.length)
    (hb : ∀ (cdv : Value) (A : Around) (outer : List Env) (s : Shared) (H : Hp) (vs : List V) (Q : VK) (E : XK), (A.deeper (envOfC qual (defScope st) s.heap.objs.size f cdv)).guards = some [] →
      Room k (A.deeper (envOfC qual (defScope st) s.heap.objs.size f cdv)) → sp vs H Q E →
      ∃ t, PSs (cxOf CX0 P w K mg base N qual (defScope st) f cdv A outer s H E).nox (defBody st) t ∧ t { nx := fun _ H' => Q .non H', rt := Q } (start N vs) H) : FnG P w K mg base (k + 1) f fd ps sp := by
  obtain ⟨oc, od, kV, doc, pm, an, cdv, ct, osl, rfl, lk, hcd⟩ := F.ex
  constructor
  · exact len
  intro A outer s H args us vs Q E hg hr e0 hbd r hsp
  have KX := e0.mod.kin.keeps (h' := s.heap) fun b o e => (e0.bs b o e).1
  have lim := e0.mod.nolimit.keeps (h' := s.heap) fun b o e => (e0.bs b o e).1
  obtain ⟨t, ht, hq⟩ := hb cdv A outer s H vs Q E hg (hr.deeper _) hsp
  refine codeAny_call_function hr.depth (KX _ _ lk) rfl S.co S.gen rfl (PySem.W.codeRec_of KX hcd) (hbd _ _ _ _ (wpAny_newFunctionEnv_cells S.kind (fun y hy => ?_) fun env he s1 xx => ?_))
  · obtain ⟨n, v⟩ := y
    have hm := (List.of_mem_zip hy).1
    rcases S.par n hm with q | q
    · exact Or.inl q
    · exact Or.inr ⟨q, PySem.W.cellsFrom_some _ _ _ (Or.inl q)⟩
  · subst he
    refine ⟨lim.keeps xx.toInCall.keep, codeAny_func ?_⟩
    have I := inv_start (CX := CX0) (E := E) (cd := cdv) (f := f) (qual := qual) S hr.hd e0 (len _ _ _ _ hsp) r xx
    refine wpAny_mono (ht.nox.run [] s1 (start N vs) H _ I hq) (fun fl s' hs => ?_) fun e s' hs => hs
    cases fl with
    | next =>
      obtain ⟨σ', H', J, q⟩ := hs
      exact ⟨V.non, H', J.os, J.bare, J.base, J.hok, rfl, q⟩
    | brk => obtain ⟨_, _, _, q⟩ := hs; exact q.elim
    | cont => obtain ⟨_, _, _, q⟩ := hs; exact q.elim
    | ret u =>
      obtain ⟨v, σ', H', J, rv, q⟩ := hs
      exact ⟨v, H', J.os, J.bare, J.base, J.hok, rv, q⟩
/-- the end: the law's def, called at the top -/
theorem call_lawG {mb : Str → Option Value} {k : Nat} {fa a : Addr} {fd : FuncData} {x : Str} {sp : Sp} {s₁ : Shared} {vs : List Value} {ns : List Int}
    (KX : K.In s₁.heap) (hns : s₁.heap.Ns mainGlobals mg) (hb : s₁.heap.Ns builtinsNs mb) (hbb : ∀ x : Str, x ≠ "__name__" → mb x = bootBuiltins x) (hlim : s₁.heap.NoLimit) (hg : s₁.gens = #[])
    (ha : s₁.heap.get? a = some { cls := .type "list", data := .seq vs.toArray }) (hi : IntsAre vs ns) (hl : ns.length ≤ sizeLine) (hr : Room k callerA)
    (F : ∀ base : Heap, K.In base → base.Ns mainGlobals mg → FnG P w K mg base k fa fd [x] sp) (hbind : ∀ (s : Shared) (u : Value), BindsTo s fd ⟨[u], []⟩ [(x, u)])
    (hsp : ∀ H : Hp, Only H → SqL K H a (ns.map V.int) → sp [.ref a] H (fun v _ => v = .bl true) fun _ _ _ => False) :
    codeAny (model P w) callerA (.call (.ref fa) ⟨[.ref a], []⟩) (fun r s' => r = .ok (.ret (.bool true)) ∧ OldK s₁.heap s'.heap ∧ s'.os = s₁.os ∧ AllBare s'.gens) s₁ := by
  have rv : Vals (ns.map V.int) vs := vals_of_ints hi
  have lenV := hi.length
  obtain ⟨H, hO, hS, hok, hA, hK⟩ : ∃ H : Hp, Only H ∧ SqL K H a (ns.map V.int) ∧ HOk P w H s₁.heap ∧ (∀ b, H b ≠ none → b = a) ∧ (H a ≠ none → K.lookup a = none) := by
    cases hk : K.lookup a with
    | some o =>
      have e := (KX a o hk).symm.trans ha
      cases e
      refine ⟨fun _ => none, fun _ => Or.inl rfl, Or.inr ⟨_, vs.toArray, _, hk, rfl, rfl, rfl, ?_, ?_⟩, fun b u z => (nomatch z), fun b z => absurd rfl z, fun z => absurd rfl z⟩
      · rw [List.size_toArray, lenV]
        exact hl
      · simpa using rv
    | none =>
      have at_a : (fun b => if b = a then some (HO.frz { cls := .type "list", data := .seq vs.toArray } (.lst (ns.map V.int))) else none : Hp) a = some (HO.frz { cls := .type "list", data := .seq vs.toArray } (.lst (ns.map V.int))) := if_pos rfl
      refine ⟨fun b => if b = a then some (.frz { cls := .type "list", data := .seq vs.toArray } (.lst (ns.map V.int))) else none, fun b => ?_, Or.inl (Or.inr ⟨_, at_a⟩), fun b u z => ?_, fun b z => ?_, fun _ => rfl⟩
      · by_cases e : b = a
        · exact Or.inr ⟨_, _, if_pos e⟩
        · exact Or.inl (if_neg e)
      · by_cases e : b = a
        · subst e
          rw [at_a] at z
          cases z
          refine ⟨ha, ?_, vs, 0, rv, ha⟩
          rw [List.length_map]
          exact hl
        · exact nomatch (if_neg e).symm.trans z
      · exact Decidable.byContradiction fun e => z (if_neg e)
  have hid : ∀ {b : Addr} {o : Obj}, s₁.heap.get? b = some o → H b = none → (hidT s₁.heap H).get? b = some o := fun e n => hidT_get e n
  have noA : ∀ {b : Addr} {o : Obj} {es : Array DictEntry} {ep : Nat}, s₁.heap.get? b = some o → o.data = .dict es ep → H b = none := fun {b o es ep} e d =>
    Decidable.byContradiction fun q => by
      have e' := hA b q
      subst e'
      have eo := ha.symm.trans e
      cases eo
      have d' : Data.seq vs.toArray _ = Data.dict es ep := d
      cases d'
  have nsK : ∀ {b : Addr} {m : Str → Option Value}, s₁.heap.Ns b m → (hidT s₁.heap H).Ns b m := fun n => by
    obtain ⟨o, es, ep, e, d, r⟩ := n
    exact ⟨o, es, ep, hid e (noA e d), d, r⟩
  have hKb : K.In (hidT s₁.heap H) := fun b o e => hid (KX b o e) (Decidable.byContradiction fun q => by
    have e' := hA b q
    subst e'
    rw [hK q] at e
    cases e)
  have e0 : Env0 P w K mg (hidT s₁.heap H) callerA [] s₁ H := by
    refine ⟨rfl, ⟨hKb, nsK hns, ⟨mb, nsK hb, hbb⟩, ?_⟩, fun b o e => of_hidT e, Nat.le_of_eq (hidT_size _ _), trivial, fun b hb => ?_, hok, .of_eq hg⟩
    · obtain ⟨mc, h1, h2⟩ := hlim
      exact ⟨mc, nsK h1, h2⟩
    · exact absurd (show b ∈ ([] : List Addr) from hb) (List.not_mem_nil)
  have run := (F _ hKb (nsK hns)).run callerA [] s₁ H ⟨[.ref a], []⟩ [.ref a] [.ref a] _ _ rfl hr e0 (hbind s₁ (.ref a)) (.cons rfl .nil) (hsp H hO hS)
  refine codeAny_mono run fun r s' h => ?_
  cases r with
  | error e => exact (show False from h).elim
  | ok fl =>
    cases fl with
    | next => exact (show False from h).elim
    | brk => exact (show False from h).elim
    | cont => exact (show False from h).elim
    | ret u =>
      obtain ⟨v, H', os, bare, un, hok', r', q⟩ := h
      obtain rfl : v = .bl true := q
      obtain rfl : u = Value.bool true := r'
      refine ⟨rfl, OldK.of_keep fun b o e => ?_, os, bare⟩
      rcases hO b with z | ⟨ob, xs, z⟩
      · exact un.keep b o e z (by intro y; exact absurd (show b ∈ ([] : List Addr) from y) List.not_mem_nil) List.not_mem_nil
      · have e1 := (hok b _ z).1
        have e2 := (hok' b _ (un.frzs b ob _ z)).1
        rw [e1] at e
        cases e
        exact e2
end
theorem walk_ofG {l : PySem.W.OpenLaw} {n k : Nat} {q : Program} {loose : List Str} {XP : (Str → Option Value) → Heap → Prop} {YP : World → Heap → Prop} {d : DefRec} {K : Params → PySem.W.Frag} {sp : PySem.W.Frag → Sp} {x : Str}
    (hn : l.most = some n) (hn2 : n ≤ sizeLine) (hdf : d.params.defaults = []) (hr : Room k callerA)
    (hY : ∀ (w : World) (h : Heap), YP w h → (K w.params).In h)
    (F : ∀ (w : World) (mg : Str → Option Value) (fa : Addr) (h : Heap), (K w.params).In h → h.Ns mainGlobals mg → mg d.name = some (.ref fa) →
      ∃ fd : FuncData, (∀ (s : Shared) (u : Value), BindsTo s fd ⟨[u], []⟩ [(x, u)]) ∧
        ∀ base : Heap, (K w.params).In base → base.Ns mainGlobals mg → FnG l.prog w (K w.params) mg base k fa fd [x] (sp (K w.params)))
    (hsp : ∀ (K : PySem.W.Frag) (H : Hp) (a : Addr) (ns : List Int), ns.length ≤ n → Only H → SqL K H a (ns.map V.int) → sp K [.ref a] H (fun v _ => v = .bl true) fun _ _ _ => False) :
    PySem.W.WalkO q loose XP YP l.row.toRowW d [] (fun f vs => PySem.call f vs) :=
  Att.attach_call hn hdf fun w s₀ s₁ mg mb fa o pm cd doc a vs ns G Y ho hd hcd hmg hobj hints hlen hg => by
    have KX := hY w _ Y
    obtain ⟨fd, hb, hF⟩ := F w mg fa _ KX G.T.g hmg
    exact call_lawG KX G.T.g G.T.b G.T.builtins G.T.nolimit hg hobj hints (Nat.le_trans hlen hn2) hr hF hb (fun H hO hS => hsp _ H a ns hlen hO hS)
end EE

namespace EE
open PySem PySem.Spec PyProof.Rows L2
abbrev D := PyData
/-! ### what is known of the heap: lists that may change (Γ), things that stay (Δ), the deck -/
def DeckAt (H : Hp) (d l : Addr) : Prop := ∃ (s : Int) (xs : List Int), H d = some (.dK [(.inr "deep", .ref l), (.inr "state", .int s)]) ∧ H l = some (.lst (xs.map V.int)) ∧
  (∀ x ∈ xs, 0 ≤ x) ∧ xs.length ≤ 64 ∧ 0 ≤ s ∧ s < 2305843009213693951
abbrev Dk := Option (Addr × Addr)
structure StI (K : PySem.W.Frag) (H0 H : Hp) (dk : Dk) (Γ : List (Addr × List D)) (Δ : List (V × D)) : Prop where
  le : Same H0 H
  data : ∀ p ∈ Δ, Dp K H0 p.1 p.2
  lists : ∀ g ∈ Γ, H0 g.1 = none ∧ ∃ vs, H g.1 = some (.lst vs) ∧ DpAll K H0 vs g.2
  nd : (Γ.map (·.1)).Nodup
  deck : ∀ d l, dk = some (d, l) → H0 d = none ∧ H0 l = none ∧ (∀ g ∈ Γ, g.1 ≠ d ∧ g.1 ≠ l) ∧ DeckAt H d l
def St (K : PySem.W.Frag) (H : Hp) (dk : Dk) (Γ : List (Addr × List D)) (Δ : List (V × D)) : Prop := ∃ H0, StI K H0 H dk Γ Δ
/-- a value that is known as a datum -/
inductive Dv (Δ : List (V × D)) : V → D → Prop
  | of {v d} : (v, d) ∈ Δ → Dv Δ v d
  | non : Dv Δ .non .none
  | bl (b : Bool) : Dv Δ (.bl b) (.bool b)
  | int (i : Int) : Dv Δ (.int i) (.int i)
  | str (x : Str) : Dv Δ (.str x) (.str x)
inductive DvAll (Δ : List (V × D)) : List V → List D → Prop
  | nil : DvAll Δ [] []
  | cons {v vs d ds} : Dv Δ v d → DvAll Δ vs ds → DvAll Δ (v :: vs) (d :: ds)
theorem dps_zip {K : PySem.W.Frag} {H : Hp} : ∀ {ds : List D} {vs : List V}, DpAll K H vs ds → ∀ q ∈ vs.zip ds, Dp K H q.1 q.2
  | [], _, h, q, hq => by cases h; cases hq
  | d :: ds, _, h, q, hq => by
    cases h with
    | cons h1 h2 =>
      rcases List.mem_cons.mp (show q ∈ (_, d) :: List.zip _ ds from hq) with rfl | hq
      · exact h1
      · exact dps_zip h2 q hq
theorem dvs_zip_ : ∀ {ds : List D} {vs : List V} {Δ : List (V × D)}, vs.length = ds.length → (∀ q ∈ vs.zip ds, q ∈ Δ) → DvAll Δ vs ds
  | [], [], _, _, _ => .nil
  | [], _ :: _, _, h, _ => by cases h
  | _ :: _, [], _, h, _ => by cases h
  | d :: ds, v :: vs, Δ, h, k => .cons (.of (k _ (List.mem_cons_self ..))) (dvs_zip_ (by simpa using h) fun q hq => k q (List.mem_cons_of_mem _ hq))
theorem dvs_zip {ds : List D} {vs : List V} {Δ : List (V × D)} (h : vs.length = ds.length) : DvAll (vs.zip ds ++ Δ) vs ds := dvs_zip_ h fun q hq => List.mem_append_left _ hq
section
variable {K : PySem.W.Frag} {H0 H H' : Hp} {dk : Dk} {Γ Γ' : List (Addr × List D)} {Δ Δ' : List (V × D)} {v : V} {d : D} {vs : List V} {ds : List D} {p a l : Addr}
theorem Dv.sub (s : ∀ x ∈ Δ, x ∈ Δ') (h : Dv Δ v d) : Dv Δ' v d := by
  cases h with
  | of m => exact .of (s _ m)
  | non => exact .non
  | bl b => exact .bl b
  | int i => exact .int i
  | str x => exact .str x
theorem DvAll.sub (s : ∀ x ∈ Δ, x ∈ Δ') : ∀ {vs : List V} {ds : List D}, DvAll Δ vs ds → DvAll Δ' vs ds
  | _, _, .nil => .nil
  | _, _, .cons h t => .cons (h.sub s) (DvAll.sub s t)
theorem Dv.dp (hd : ∀ p ∈ Δ, Dp K H0 p.1 p.2) (h : Dv Δ v d) : Dp K H0 v d := by
  cases h with
  | of m => exact hd _ m
  | non => exact .non
  | bl b => exact .bl b
  | int i => exact .int i
  | str x => exact .str x
theorem DvAll.dp (hd : ∀ p ∈ Δ, Dp K H0 p.1 p.2) : ∀ {vs : List V} {ds : List D}, DvAll Δ vs ds → DpAll K H0 vs ds
  | _, _, .nil => .nil
  | _, _, .cons h t => .cons (h.dp hd) (DvAll.dp hd t)
theorem DvAll.len : ∀ {vs : List V} {ds : List D}, DvAll Δ vs ds → vs.length = ds.length
  | _, _, .nil => rfl
  | _, _, .cons _ t => by rw [List.length_cons, List.length_cons, t.len]
theorem St.dp (h : St K H dk Γ Δ) (k : Dv Δ v d) : Dp K H v d := by
  obtain ⟨H0, I⟩ := h
  exact dp_up I.le (k.dp I.data)
theorem St.weaken (h : St K H dk Γ Δ) (s : ∀ x ∈ Δ', x ∈ Δ) : St K H dk Γ Δ' := by
  obtain ⟨H0, I⟩ := h
  exact ⟨H0, I.le, fun p hp => I.data p (s p hp), I.lists, I.nd, I.deck⟩
theorem St.ints (h : St K H dk Γ Δ) (k : ∀ x ∈ Δ', Dv Δ x.1 x.2) : St K H dk Γ (Δ' ++ Δ) := by
  obtain ⟨H0, I⟩ := h
  refine ⟨H0, I.le, fun p hp => ?_, I.lists, I.nd, I.deck⟩
  rcases List.mem_append.mp hp with hp | hp
  · exact (k p hp).dp I.data
  · exact I.data p hp
theorem St.also (h : St K H dk Γ Δ) (k : Dv Δ v d) : St K H dk Γ ((v, d) :: Δ) := h.ints (Δ' := [(v, d)]) fun x hx => by
  rw [List.mem_singleton.mp hx]
  exact k
/-- a new thing that stays -/
theorem St.new_ (h : St K H dk Γ Δ) (hp : H p = none) {o : HO} (hd : ∀ H0 : Hp, H0 p = some o → (∀ q ∈ Δ, Dp K H0 q.1 q.2) → Dp K H0 (.ref p) d) : St K (upd H p o) dk Γ ((.ref p, d) :: Δ) := by
  obtain ⟨H0, I⟩ := h
  have h0 : H0 p = none := I.le.free hp
  have s1 : Same H0 (upd H0 p o) := fun b u e => by rw [upd_ne (ne_of_none e h0)]; exact e
  have s2 : Same (upd H0 p o) (upd H p o) := fun b u e => by
    by_cases hb : b = p
    · subst hb; rw [upd_same] at e ⊢; exact e
    · rw [upd_ne hb] at e ⊢; exact I.le b u e
  have old : ∀ q ∈ Δ, Dp K (upd H0 p o) q.1 q.2 := fun q hq => dp_up s1 (I.data q hq)
  refine ⟨upd H0 p o, s2, fun q hq => ?_, fun g hg => ?_, I.nd, fun d l e => ?_⟩
  · rcases List.mem_cons.mp hq with rfl | hq
    · exact hd _ upd_same old
    · exact old q hq
  · obtain ⟨g0, vs, g1, g2⟩ := I.lists g hg
    have ne : g.1 ≠ p := ne_of_none g1 hp
    rw [upd_ne ne, upd_ne ne]
    exact ⟨g0, vs, g1, dps_up s1 g2⟩
  · obtain ⟨a1, a2, a3, s, xs, b1, b2, b3⟩ := I.deck d l e
    have n1 := ne_of_none b1 hp
    have n2 := ne_of_none b2 hp
    rw [upd_ne n1, upd_ne n2]
    refine ⟨a1, a2, a3, s, xs, ?_, ?_, b3⟩
    · rw [upd_ne n1]; exact b1
    · rw [upd_ne n2]; exact b2
theorem St.tup (h : St K H dk Γ Δ) (hp : H p = none) (k : DvAll Δ vs ds) : St K (upd H p (.tup vs)) dk Γ ((.ref p, .tuple ds) :: Δ) := h.new_ hp fun H0 e q => .tup (SqT.of e) (k.dp q)
theorem St.lst (h : St K H dk Γ Δ) (hp : H p = none) (k : DvAll Δ vs ds) : St K (upd H p (.lst vs)) dk Γ ((.ref p, .list ds) :: Δ) := h.new_ hp fun H0 e q => .lst (SqL.of e) (k.dp q)
/-- a new list that may change -/
theorem St.make_ (h : St K H dk Γ Δ) (hp : H p = none) (k : ∀ H0, StI K H0 H dk Γ Δ → DpAll K H0 vs ds) : St K (upd H p (.lst vs)) dk ((p, ds) :: Γ) Δ := by
  obtain ⟨H0, I⟩ := h
  have h0 : H0 p = none := I.le.free hp
  refine ⟨H0, fun b u e => ?_, I.data, fun g hg => ?_, ?_, fun d l e => ?_⟩
  · rw [upd_ne (ne_of_none (I.le b u e) hp)]
    exact I.le b u e
  · rcases List.mem_cons.mp hg with rfl | hg
    · exact ⟨h0, vs, upd_same, k H0 I⟩
    · obtain ⟨g0, vs', g1, g2⟩ := I.lists g hg
      exact ⟨g0, vs', by rw [upd_ne (ne_of_none g1 hp)]; exact g1, g2⟩
  · rw [List.map_cons, List.nodup_cons]
    refine ⟨fun hm => ?_, I.nd⟩
    obtain ⟨g, hg, e⟩ := List.mem_map.mp hm
    obtain ⟨_, _, g1, _⟩ := I.lists g hg
    exact ne_of_none g1 hp e
  · obtain ⟨a1, a2, a3, s, xs, b1, b2, b3⟩ := I.deck d l e
    have n1 := ne_of_none b1 hp
    have n2 := ne_of_none b2 hp
    refine ⟨a1, a2, fun g hg => ?_, s, xs, ?_, ?_, b3⟩
    · rcases List.mem_cons.mp hg with rfl | hg
      · exact ⟨n1.symm, n2.symm⟩
      · exact a3 g hg
    · rw [upd_ne n1]; exact b1
    · rw [upd_ne n2]; exact b2
theorem St.make (h : St K H dk Γ Δ) (hp : H p = none) (k : DvAll Δ vs ds) : St K (upd H p (.lst vs)) dk ((p, ds) :: Γ) Δ := h.make_ hp fun H0 I => k.dp I.data
/-- what changes no more -/
theorem St.freeze (h : St K H dk ((p, ds) :: Γ) Δ) : St K H dk Γ ((.ref p, .list ds) :: Δ) := by
  obtain ⟨H0, I⟩ := h
  obtain ⟨g0, vs, g1, g2⟩ := I.lists (p, ds) (List.mem_cons_self ..)
  have nd := I.nd
  rw [List.map_cons, List.nodup_cons] at nd
  have s1 : Same H0 (upd H0 p (.lst vs)) := fun b u e => by rw [upd_ne (ne_of_none e g0)]; exact e
  have old : ∀ q ∈ Δ, Dp K (upd H0 p (.lst vs)) q.1 q.2 := fun q hq => dp_up s1 (I.data q hq)
  refine ⟨upd H0 p (.lst vs), fun b u e => ?_, fun q hq => ?_, fun g hg => ?_, nd.2, fun d l e => ?_⟩
  · by_cases hb : b = p
    · subst hb; rw [upd_same] at e; rw [← e]; exact g1
    · rw [upd_ne hb] at e; exact I.le b u e
  · rcases List.mem_cons.mp hq with rfl | hq
    · exact .lst (SqL.of upd_same) (dps_up s1 g2)
    · exact old q hq
  · obtain ⟨k0, vs', k1, k2⟩ := I.lists g (List.mem_cons_of_mem _ hg)
    have ne : g.1 ≠ p := fun e => nd.1 (List.mem_map.mpr ⟨g, hg, e⟩)
    rw [upd_ne ne]
    exact ⟨k0, vs', k1, dps_up s1 k2⟩
  · obtain ⟨a1, a2, a3, r⟩ := I.deck d l e
    have ap := a3 (p, ds) (List.mem_cons_self ..)
    rw [upd_ne ap.1.symm, upd_ne ap.2.symm]
    exact ⟨a1, a2, fun g hg => a3 g (List.mem_cons_of_mem _ hg), r⟩
/-- the first list as it stands -/
theorem St.look (h : St K H dk ((p, ds) :: Γ) Δ) : ∃ vs, H p = some (.lst vs) ∧ vs.length = ds.length ∧ (∀ (i : Nat) (x : D), ds[i]? = some x → ∃ v, vs[i]? = some v ∧ St K H dk ((p, ds) :: Γ) ((v, x) :: Δ)) ∧ (∀ H0, StI K H0 H dk ((p, ds) :: Γ) Δ → DpAll K H0 vs ds) := by
  obtain ⟨H0, I⟩ := h
  obtain ⟨g0, vs, g1, g2⟩ := I.lists (p, ds) (List.mem_cons_self ..)
  refine ⟨vs, g1, dps_len g2, fun i x e => ?_, fun H1 J => ?_⟩
  · obtain ⟨v, e1, e2⟩ := dps_at g2 e
    exact ⟨v, e1, H0, I.le, fun q hq => by rcases List.mem_cons.mp hq with rfl | hq; exact e2; exact I.data q hq, I.lists, I.nd, I.deck⟩
  · obtain ⟨_, vs', k1, k2⟩ := J.lists (p, ds) (List.mem_cons_self ..)
    rw [g1] at k1
    cases k1
    exact k2
/-- the first list changes -/
theorem St.put (h : St K H dk ((p, ds) :: Γ) Δ) {es : List D} {us : List V} (k : ∀ H0, StI K H0 H dk ((p, ds) :: Γ) Δ → DpAll K H0 us es) : St K (upd H p (.lst us)) dk ((p, es) :: Γ) Δ := by
  obtain ⟨H0, I⟩ := h
  obtain ⟨g0, vs, g1, g2⟩ := I.lists (p, ds) (List.mem_cons_self ..)
  have nd := I.nd
  rw [List.map_cons, List.nodup_cons] at nd
  refine ⟨H0, fun b u e => ?_, I.data, fun g hg => ?_, I.nd, fun d l e => ?_⟩
  · rw [upd_ne (ne_of_none e g0)]
    exact I.le b u e
  · rcases List.mem_cons.mp hg with rfl | hg
    · exact ⟨g0, us, upd_same, k H0 I⟩
    · obtain ⟨k0, vs', k1, k2⟩ := I.lists g (List.mem_cons_of_mem _ hg)
      exact ⟨k0, vs', by rw [upd_ne fun e => nd.1 (List.mem_map.mpr ⟨g, hg, e⟩)]; exact k1, k2⟩
  · obtain ⟨a1, a2, a3, s, xs, b1, b2, b3⟩ := I.deck d l e
    have ap := a3 (p, ds) (List.mem_cons_self ..)
    refine ⟨a1, a2, fun g hg => ?_, s, xs, ?_, ?_, b3⟩
    · rcases List.mem_cons.mp hg with rfl | hg
      · exact ap
      · exact a3 g (List.mem_cons_of_mem _ hg)
    · rw [upd_ne ap.1.symm]; exact b1
    · rw [upd_ne ap.2.symm]; exact b2
theorem St.swap {q : Addr} {es : List D} (h : St K H dk ((p, ds) :: (q, es) :: Γ) Δ) : St K H dk ((q, es) :: (p, ds) :: Γ) Δ := by
  obtain ⟨H0, I⟩ := h
  have mm : ∀ g, g ∈ (q, es) :: (p, ds) :: Γ → g ∈ (p, ds) :: (q, es) :: Γ := fun g hg => by
    simp only [List.mem_cons] at hg ⊢
    rcases hg with h | h | h
    · exact Or.inr (Or.inl h)
    · exact Or.inl h
    · exact Or.inr (Or.inr h)
  have nd := I.nd
  simp only [List.map_cons, List.nodup_cons, List.mem_cons, not_or] at nd
  refine ⟨H0, I.le, I.data, fun g hg => I.lists g (mm g hg), ?_, fun d l e => ?_⟩
  · simp only [List.map_cons, List.nodup_cons, List.mem_cons, not_or]
    exact ⟨⟨fun e => nd.1.1 e.symm, nd.2.1⟩, nd.1.2, nd.2.2⟩
  · obtain ⟨a1, a2, a3, r⟩ := I.deck d l e
    exact ⟨a1, a2, fun g hg => a3 g (mm g hg), r⟩
theorem St.drop (h : St K H dk ((p, ds) :: Γ) Δ) : St K H dk Γ Δ := h.freeze.weaken fun _ => List.mem_cons_of_mem _
/-- the deck -/
theorem St.deck {d l : Addr} (h : St K H (some (d, l)) Γ Δ) : DeckAt H d l := by
  obtain ⟨H0, I⟩ := h
  exact (I.deck d l rfl).2.2.2
theorem St.deal {d l : Addr} (h : St K H (some (d, l)) Γ Δ) (k : ∀ b, b ≠ d → b ≠ l → H' b = H b) (q : DeckAt H' d l) : St K H' (some (d, l)) Γ Δ := by
  obtain ⟨H0, I⟩ := h
  obtain ⟨a1, a2, a3, _⟩ := I.deck d l rfl
  refine ⟨H0, fun b u e => ?_, I.data, fun g hg => ?_, I.nd, fun d' l' e => ?_⟩
  · rw [k b (ne_of_none e a1) (ne_of_none e a2)]
    exact I.le b u e
  · obtain ⟨g0, vs, g1, g2⟩ := I.lists g hg
    rw [k _ (a3 g hg).1 (a3 g hg).2]
    exact ⟨g0, vs, g1, g2⟩
  · cases e
    exact ⟨a1, a2, a3, q⟩
theorem St.redeck {d l m : Addr} (h : St K H (some (d, l)) Γ Δ) (hm : H m = none) (k : ∀ b, b ≠ d → b ≠ m → H' b = H b) (q : DeckAt H' d m) : St K H' (some (d, m)) Γ Δ := by
  obtain ⟨H0, I⟩ := h
  obtain ⟨a1, a2, a3, _⟩ := I.deck d l rfl
  refine ⟨H0, fun b u e => ?_, I.data, fun g hg => ?_, I.nd, fun d' l' e => ?_⟩
  · have e' := I.le b u e
    rw [k b (ne_of_none e a1) (ne_of_none e' hm)]
    exact e'
  · obtain ⟨g0, vs, g1, g2⟩ := I.lists g hg
    rw [k _ (a3 g hg).1 (ne_of_none g1 hm)]
    exact ⟨g0, vs, g1, g2⟩
  · cases e
    exact ⟨a1, I.le.free hm, fun g hg => ⟨(a3 g hg).1, by obtain ⟨_, vs, g1, _⟩ := I.lists g hg; exact ne_of_none g1 hm⟩, q⟩
/-- a tuple, a list that stays: its items -/
theorem St.tupAt {a : Addr} (h : St K H dk Γ Δ) (k : (V.ref a, PyData.tuple ds) ∈ Δ) : ∃ vs, SqT K H a vs ∧ vs.length = ds.length ∧ ∃ Δ', Δ' = vs.zip ds ++ Δ ∧ St K H dk Γ Δ' ∧ DvAll Δ' vs ds := by
  obtain ⟨H0, I⟩ := h
  cases I.data _ k with
  | tup hs ha =>
    rename_i vs
    have hl := dps_len ha
    refine ⟨vs, Same.sqT I.le hs, hl, _, rfl, ⟨H0, I.le, fun q hq => ?_, I.lists, I.nd, I.deck⟩, ?_⟩
    · rcases List.mem_append.mp hq with hq | hq
      · exact dps_zip ha q hq
      · exact I.data q hq
    · exact dvs_zip hl
theorem St.lstAt {a : Addr} (h : St K H dk Γ Δ) (k : (V.ref a, PyData.list ds) ∈ Δ) : ∃ vs, SqL K H a vs ∧ vs.length = ds.length ∧ ∃ Δ', Δ' = vs.zip ds ++ Δ ∧ St K H dk Γ Δ' ∧ DvAll Δ' vs ds := by
  obtain ⟨H0, I⟩ := h
  cases I.data _ k with
  | lst hs ha =>
    rename_i vs
    have hl := dps_len ha
    refine ⟨vs, I.le.seq hs, hl, _, rfl, ⟨H0, I.le, fun q hq => ?_, I.lists, I.nd, I.deck⟩, ?_⟩
    · rcases List.mem_append.mp hq with hq | hq
      · exact dps_zip ha q hq
      · exact I.data q hq
    · exact dvs_zip hl
theorem dvs_at : ∀ {vs : List V} {ds : List D} {i : Nat} {x : D}, DvAll Δ vs ds → ds[i]? = some x → ∃ v, vs[i]? = some v ∧ Dv Δ v x
  | _, _, _, _, .nil, e => by simp at e
  | _, _, 0, _, .cons h _, e => by
    cases Option.some.inj (show some _ = some _ from e)
    exact ⟨_, rfl, h⟩
  | _, _, i + 1, _, .cons _ t, e => by
    obtain ⟨v, h1, h2⟩ := dvs_at (i := i) t (by simpa using e)
    exact ⟨v, by simpa using h1, h2⟩
theorem St.popAt (h : St K H dk ((p, ds) :: Γ) Δ) {k : Nat} {x : D} (hk : ds[k]? = some x) : ∃ vs y, H p = some (.lst vs) ∧ vs.length = ds.length ∧ vs[k]? = some y ∧ St K (upd H p (.lst (vs.eraseIdx k))) dk ((p, ds.eraseIdx k) :: Γ) ((y, x) :: Δ) := by
  obtain ⟨vs, h1, h2, h3, h4⟩ := h.look
  obtain ⟨y, h5, h6⟩ := h3 k x hk
  refine ⟨vs, y, h1, h2, h5, h6.put fun H0 I => ?_⟩
  obtain ⟨_, vs', k1, k2⟩ := I.lists (p, ds) (List.mem_cons_self ..)
  rw [h1] at k1
  cases k1
  exact dps_erase k k2
theorem St.push (h : St K H dk ((p, ds) :: Γ) Δ) {y : V} {x : D} (hy : Dv Δ y x) : ∃ vs, H p = some (.lst vs) ∧ vs.length = ds.length ∧ St K (upd H p (.lst (vs ++ [y]))) dk ((p, ds ++ [x]) :: Γ) Δ := by
  obtain ⟨vs, h1, h2, h3, h4⟩ := h.look
  exact ⟨vs, h1, h2, h.put fun H0 I => dps_app (h4 H0 I) (.cons (hy.dp I.data) .nil)⟩
theorem St.setAt (h : St K H dk ((p, ds) :: Γ) Δ) {y : V} {x : D} (hy : Dv Δ y x) (k : Nat) : ∃ vs, H p = some (.lst vs) ∧ vs.length = ds.length ∧ St K (upd H p (.lst (vs.set k y))) dk ((p, ds.set k x) :: Γ) Δ := by
  obtain ⟨vs, h1, h2, h3, h4⟩ := h.look
  exact ⟨vs, h1, h2, h.put fun H0 I => dps_set (hy.dp I.data) k (h4 H0 I)⟩
theorem St.insAt (h : St K H dk ((p, ds) :: Γ) Δ) {y : V} {x : D} (hy : Dv Δ y x) (k : Nat) : ∃ vs, H p = some (.lst vs) ∧ vs.length = ds.length ∧ St K (upd H p (.lst (vs.take k ++ [y] ++ vs.drop k))) dk ((p, ds.take k ++ [x] ++ ds.drop k) :: Γ) Δ := by
  obtain ⟨vs, h1, h2, h3, h4⟩ := h.look
  exact ⟨vs, h1, h2, h.put fun H0 I => dps_app (dps_app (dps_take k (h4 H0 I)) (.cons (hy.dp I.data) .nil)) (dps_drop k (h4 H0 I))⟩
theorem St.int_of (h : St K H dk Γ Δ) {i : Int} (k : (v, PyData.int i) ∈ Δ) : v = .int i := by
  obtain ⟨H0, I⟩ := h
  cases I.data _ k
  rfl
theorem St.ints_of (h : St K H dk Γ Δ) {ns : List Int} (k : DvAll Δ vs (ns.map PyData.int)) : vs = ns.map V.int := by
  obtain ⟨H0, I⟩ := h
  exact dps_ints (k.dp I.data)
/-- a tuple of two ints -/
theorem St.pair (h : St K H dk Γ Δ) {a : Addr} {i j : Int} (k : (V.ref a, PyData.tuple [.int i, .int j]) ∈ Δ) : SqT K H a [.int i, .int j] := by
  obtain ⟨vs, h1, h2, Δ', e, h3, h4⟩ := h.tupAt k
  have := h3.ints_of (ns := [i, j]) h4
  rw [this] at h1
  exact h1
theorem St.ref_of (h : St K H dk Γ Δ) (k : (v, PyData.tuple ds) ∈ Δ) : ∃ a, v = .ref a := by
  obtain ⟨H0, I⟩ := h
  cases I.data _ k
  exact ⟨_, rfl⟩
theorem St.lref_of (h : St K H dk Γ Δ) (k : (v, PyData.list ds) ∈ Δ) : ∃ a, v = .ref a := by
  obtain ⟨H0, I⟩ := h
  cases I.data _ k
  exact ⟨_, rfl⟩
end
theorem ixN_of {n : Nat} {i : Int} (h0 : 0 ≤ i) (h : i < n) : ixN n i = some i.toNat := by
  unfold ixN
  rw [if_pos h0, if_pos h]
theorem seq_of {n : Nat} {i : Int} (h0 : 0 ≤ i) (h : i < n) : seqIndex? i n = some i.toNat := (ixN_seq (ixN_of h0 h)).1
theorem atI_of {α : Type} {xs : List α} {i : Int} {v : α} (h0 : 0 ≤ i) (h : xs[i.toNat]? = some v) : atI xs i = some v := by
  have e : i = ((i.toNat : Nat) : Int) := by omega
  rw [e]
  exact atI_nat h
section
variable {K : PySem.W.Frag} {a : Addr} {n : Nat}
theorem walkT : Walk (Itt K a) n (fun H => ∃ xs, SqT K H a xs ∧ xs.length = n) (fun i H x H' => H' = H ∧ ∀ xs, SqT K H a xs → xs[i]? = some x) :=
  ⟨fun i H hi q => by obtain ⟨xs, h1, rfl⟩ := q; exact ⟨xs, xs[i], h1, List.getElem?_eq_getElem hi⟩, fun H q => by obtain ⟨xs, h1, rfl⟩ := q; exact ⟨xs, h1, Nat.le_refl _⟩, fun i H x H' hi q y => y⟩
theorem walkL : Walk (Itl K a) n (fun H => ∃ xs, SqL K H a xs ∧ xs.length = n) (fun i H x H' => H' = H ∧ ∀ xs, SqL K H a xs → xs[i]? = some x) :=
  ⟨fun i H hi q => by obtain ⟨xs, h1, rfl⟩ := q; exact ⟨xs, xs[i], h1, List.getElem?_eq_getElem hi⟩, fun H q => by obtain ⟨xs, h1, rfl⟩ := q; exact ⟨xs, h1, Nat.le_refl _⟩, fun i H x H' hi q y => y⟩
theorem walkET : Walk (Itet K a) n (fun H => ∃ xs, SqT K H a xs ∧ xs.length = n) (fun i H v H' => ∃ T x, v = .ref T ∧ H T = none ∧ H' = upd H T (.tup [.int (i : Nat), x]) ∧ ∀ xs, SqT K H a xs → xs[i]? = some x) :=
  ⟨fun i H hi q => by obtain ⟨xs, h1, rfl⟩ := q; exact ⟨xs, xs[i], h1, List.getElem?_eq_getElem hi⟩, fun H q => by obtain ⟨xs, h1, rfl⟩ := q; exact ⟨xs, h1, Nat.le_refl _⟩, fun i H x H' hi q y => y⟩
theorem walkEL : Walk (Ite K a) n (fun H => ∃ xs, SqL K H a xs ∧ xs.length = n) (fun i H v H' => ∃ T x, v = .ref T ∧ H T = none ∧ H' = upd H T (.tup [.int (i : Nat), x]) ∧ ∀ xs, SqL K H a xs → xs[i]? = some x) :=
  ⟨fun i H hi q => by obtain ⟨xs, h1, rfl⟩ := q; exact ⟨xs, xs[i], h1, List.getElem?_eq_getElem hi⟩, fun H q => by obtain ⟨xs, h1, rfl⟩ := q; exact ⟨xs, h1, Nat.le_refl _⟩, fun i H x H' hi q y => y⟩
end
section
variable {K : PySem.W.Frag} {H H' : Hp} {dk : Dk} {Γ : List (Addr × List D)} {Δ : List (V × D)} {x : V} {d : D} {ds : List D} {a T : Addr} {i : Nat}
theorem dvs_back : ∀ {vs : List V} {ds : List D} {i : Nat} {v : V}, DvAll Δ vs ds → vs[i]? = some v → ∃ x, ds[i]? = some x ∧ Dv Δ v x
  | _, _, _, _, .nil, e => by simp at e
  | _, _, 0, _, .cons h _, e => by
    cases Option.some.inj (show some _ = some _ from e)
    exact ⟨_, rfl, h⟩
  | _, _, i + 1, _, .cons _ t, e => by
    obtain ⟨v, h1, h2⟩ := dvs_back (i := i) t (by simpa using e)
    exact ⟨v, by simpa using h1, h2⟩
/-- a tuple that stays is walked: the item of this turn -/
theorem St.turnT (h : St K H dk Γ Δ) (k : (V.ref a, PyData.tuple ds) ∈ Δ) (f : ∀ xs, SqT K H a xs → xs[i]? = some x) : ∃ d, ds[i]? = some d ∧ St K H dk Γ ((x, d) :: Δ) := by
  obtain ⟨vs, h1, h2, Δ', rfl, h3, h4⟩ := h.tupAt k
  obtain ⟨d, e1, e2⟩ := dvs_back h4 (f vs h1)
  refine ⟨d, e1, (h3.also e2).weaken fun q hq => ?_⟩
  rcases List.mem_cons.mp hq with rfl | hq
  · exact List.mem_cons_self ..
  · exact List.mem_cons_of_mem _ (List.mem_append_right _ hq)
theorem St.turnL (h : St K H dk Γ Δ) (k : (V.ref a, PyData.list ds) ∈ Δ) (f : ∀ xs, SqL K H a xs → xs[i]? = some x) : ∃ d, ds[i]? = some d ∧ St K H dk Γ ((x, d) :: Δ) := by
  obtain ⟨vs, h1, h2, Δ', rfl, h3, h4⟩ := h.lstAt k
  obtain ⟨d, e1, e2⟩ := dvs_back h4 (f vs h1)
  refine ⟨d, e1, (h3.also e2).weaken fun q hq => ?_⟩
  rcases List.mem_cons.mp hq with rfl | hq
  · exact List.mem_cons_self ..
  · exact List.mem_cons_of_mem _ (List.mem_append_right _ hq)
theorem St.lenT (h : St K H dk Γ Δ) (k : (V.ref a, PyData.tuple ds) ∈ Δ) : ∃ xs, SqT K H a xs ∧ xs.length = ds.length := by
  obtain ⟨vs, h1, h2, _⟩ := h.tupAt k
  exact ⟨vs, h1, h2⟩
theorem St.lenL (h : St K H dk Γ Δ) (k : (V.ref a, PyData.list ds) ∈ Δ) : ∃ xs, SqL K H a xs ∧ xs.length = ds.length := by
  obtain ⟨vs, h1, h2, _⟩ := h.lstAt k
  exact ⟨vs, h1, h2⟩
/-- the pair of enumerate -/
theorem St.enumd (h : St K H dk Γ ((x, d) :: Δ)) (hT : H T = none) : St K (upd H T (.tup [.int (i : Nat), x])) dk Γ ((x, d) :: Δ) :=
  (h.tup (ds := [.int (i : Nat), d]) hT (.cons (.int _) (.cons (.of (List.mem_cons_self ..)) .nil))).weaken fun _ => List.mem_cons_of_mem _
end
end EE

namespace EE
open PySem PySem.Spec PyProof.Rows L2
/-! ### defs of the text, by what they promise -/
structure Fd (P : Program) (w : World) (K : PySem.W.Frag) (mg : Str → Option Value) (base : Heap) (x : Str) (k : Nat) (ps : List Str) (sp : Sp) : Prop where
  ex : ∃ (f : Addr) (fd : FuncData), FnOk P w K mg base CX0 k f fd ps sp ∧ mg x = some (.ref f) ∧ PySem.W.keepIn K (.ref f) = true ∧ Binds K fd ps []
section
variable {P : Program} {w : World} {K : PySem.W.Frag} {mg : Str → Option Value} {base : Heap}
theorem Fd.mk' {x qual : Str} {st : Stmt} {f : Addr} {fd : FuncData} {k : Nat} {ps : List Str} {sp : Sp} (F : Fun K x qual st f fd) (G : FnOk P w K mg base CX0 k f fd ps sp) (hm : mg x = some (.ref f)) (hb : Binds K fd ps []) : Fd P w K mg base x k ps sp :=
  ⟨f, fd, G, hm, F.kp, hb⟩
end
section
variable {X : Cx} {k : Nat} {ps : List Str} {sp : Sp} {x : Str} {p pos : Pos} {e : Expr} {es : List Expr} {t : TA}
theorem pe_fd (F : Fd X.prog X.w X.K X.mg X.base x k ps sp) (hr : Room k X.A) (hg : Gl X x) (ha : PA X (e :: es) t) (hx : Passes CX0 X E0 := by exact pass0) (hdb : (x == ("__debug__" : Str)) = false := by decide) (he : starEach (e :: es) X.env = (false, eval e X.env) :: starEach es X.env := by rfl)
    (hpl : (backTo pos (starEach es X.env)).any (·.1) = false := by rfl) : PE X (.Call (.Name x p) (e :: es) [] pos) (tCall sp [] E0 t) := by
  obtain ⟨f, fd, G, hm, hk, hb⟩ := F.ex
  exact pe_call G hr hg hm hk hb .nil hx ha hdb he hpl
theorem pe_k {x : Str} {i : Int} {pos : Pos} (hm : ∃ t, X.mg x = some (.int i t)) (hg : Gl X x) (hd : (x == ("__debug__" : Str)) = false := by decide) : PE X (.Name x pos) (tC (.int i)) := by
  obtain ⟨t, hm⟩ := hm
  exact pe_glob hg hm ⟨_, rfl⟩ hd
end
/-- the built-in names stand as they were -/
def bnames : List Str := ["len", "abs", "max", "min", "int", "list", "tuple", "range", "enumerate", "repr", "isinstance", "sum", "sorted", "str", "any", "all", "zip", "bool", "set", "dict"]
def NB (mg : Str → Option Value) (l : List Str) : Prop := ∀ x, l.contains x = true → mg x = none
/-! ### f(k = v, ..), all by name -/
structure KB (fdk : FuncData) (K : PySem.W.Frag) (ps ks : List Str) (g : List Value → List Value) (gV : List V → List V) : Prop where
  to : ∀ (s : Shared) (ws : List Value), K.In s.heap → (g ws).length = ps.length → BindsTo s fdk ⟨[], ks.zip ws⟩ (ps.zip (g ws))
  rel : ∀ {zs : List V} {ws : List Value}, Vals zs ws → Vals (gV zs) (g ws)
structure Fk (P : Program) (w : World) (K : PySem.W.Frag) (mg : Str → Option Value) (base : Heap) (x : Str) (k : Nat) (ps ks : List Str) (gV : List V → List V) (sp : Sp) : Prop where
  ex : ∃ (f : Addr) (fd : FuncData) (g : List Value → List Value), FnOk P w K mg base CX0 k f fd ps sp ∧ mg x = some (.ref f) ∧ PySem.W.keepIn K (.ref f) = true ∧ KB fd K ps ks g gV
section
variable {X : Cx} {k : Nat} {ps ks : List Str} {gV : List V → List V} {sp : Sp} {x : Str} {p pos : Pos} {kws : List Keyword} {tk : TA}
def tCallK0 (sp : Sp) (gV : List V → List V) (E : XK) (tk : TA) : TE := fun σ H Q => tk σ H fun zs H2 => sp (gV zs) H2 Q E
theorem pe_fk (F : Fk X.prog X.w X.K X.mg X.base x k ps ks gV sp) (hr : Room k X.A) (hg : Gl X x) (hkw : PK X kws tk) (hall : (backToKw pos (keywordEach kws X.env)).all (·.1.isSome) = true := by rfl) (hks : (backToKw pos (keywordEach kws X.env)).filterMap (·.1) = ks := by rfl)
    (hdb : (x == ("__debug__" : Str)) = false := by decide) (hpl : ((backTo pos (starEach [] X.env)).any (·.1) || (backToKw pos (keywordEach kws X.env)).any (·.1.isNone)) = false := by rfl) :
    PE X (.Call (.Name x p) [] kws pos) (tCallK0 sp gV E0 tk) := by
  obtain ⟨f, fd, g, G, hm, hk, hb⟩ := F.ex
  refine ⟨fun pins s σ H Q I h => wpAny_Call_Name_kw (ld_glob I hg hm ?_ hdb)⟩
  refine PySem.W.callWith_KW0 (h₀ := X.base) (first := []) I.ok.mod.kin hk hall (thn (hkw.run pos pins s σ H _ I h) fun ws s2 q => ?_) hpl
  obtain ⟨zs, H2, I2, rz, q2⟩ := q
  refine ⟨I2.kIn, ?_⟩
  rw [hks]
  have r2 := hb.rel rz
  have hl : (g ws).length = ps.length := by
    rw [← r2.length]
    exact G.len _ _ _ _ q2
  refine wpAny_call (codeAny_mono (G.run X.A X.stack s2 H2 ⟨[], ks.zip ws⟩ (g ws) (gV zs) Q E0 hr I2.env0 (hb.to s2 ws I2.kIn hl) r2 q2) fun r s' hq => ?_)
  cases r with
  | error e => exact (show False from hq).elim
  | ok fl =>
    cases fl with
    | ret u => exact I2.after hq
    | next => exact (show False from hq).elim
    | brk => exact (show False from hq).elim
    | cont => exact (show False from hq).elim
end
theorem _root_.L2.Fun.kb {K : PySem.W.Frag} {x qual : Str} {st : Stmt} {f : Addr} {fd : FuncData} {ps ks : List Str} (F : Fun K x qual st f fd)
    (h : ∀ (kV doc pm : Value) (an : Option Addr) (cdv ct : Value) (us : List Value), us.length = ps.length → bindArgs (PySem.W.fnOf x qual (defArgs st) (defBody st) (defScope st) .none kV doc pm an cdv ct) ⟨[], ks.zip us⟩ = pure (ps.zip us.reverse)) :
    KB fd K ps ks (fun ws => ws.reverse) (fun zs => zs.reverse) := by
  obtain ⟨oc, od, kV, doc, pm, an, cdv, ct, osl, rfl, lk, hcd⟩ := F.ex
  refine ⟨fun s ws _ hl => .of_eq (h kV doc pm an cdv ct ws ?_), fun r => r.reverse⟩
  rw [List.length_reverse] at hl
  exact hl
/-! ### powers of great bases -/
def CPowW (i j : Int) : Prop := 0 ≤ j ∧ (Builtin.Int.intBits i : Int) * j ≤ 2 ^ 27
theorem op_powW {X : Cx} : OpR X (binaryOp .Pow) (rI CPowW fun i j => .int (i ^ j.toNat)) := opI fun _ _ _ _ _ _ _ hc q => pow_int hc.1 hc.2 q
/-! ### // by any positive divisor, where C divides -/
def CDivX (i j : Int) : Prop := 0 < j ∧ Builtin.divisionGoesByPylong i j = false
theorem op_fdivX {X : Cx} : OpR X (binaryOp .FloorDiv) (rI CDivX fun i j => .int (i / j)) := opI fun i j _ _ _ _ _ hc q => by
  have h1 : (0 : Int) < j := hc.1
  refine floordiv_int (by omega) ?_ (.inl hc.2)
  rw [Int.fdiv_eq_ediv_of_nonneg i (by omega)]
  exact q
theorem divx_of {i j : Int} (h : CDivW i j) : CDivX i j := ⟨h.1, PyProof.noPylong_of_log2 h.2⟩
theorem divx_small {i j : Int} {n : Nat} (hj : 0 < j) (hi : i.natAbs < 2 ^ n) (hn : n ≤ 4000) : CDivX i j := ⟨hj, (divp_ok hj (by have := PyProof.Rows.intBits_le hi; omega)).2⟩
end EE

namespace EE
open PySem PySem.Spec PyProof.Rows L2
/-! ### data that can be shown and compared: n bounds its text -/
structure Sm (n k : Nat) (d : D) : Prop where
  show_ : d.showable = true
  deep : d.depth ≤ k
  long : d.shown.length ≤ n
  lay : d.canLay0 = true
theorem Sm.mono {n k n' k' : Nat} {d : D} (h : Sm n k d) (h1 : n ≤ n') (h2 : k ≤ k') : Sm n' k' d := ⟨h.show_, Nat.le_trans h.deep h2, Nat.le_trans h.long h1, h.lay⟩
theorem sm_non : Sm 5 0 (.none : D) := ⟨by simp only [PyData.showable], by simp only [PyData.depth]; exact Nat.le_refl 0, by decide, by simp only [PyData.canLay0]⟩
theorem sm_bool (b : Bool) : Sm 5 0 (.bool b : D) := ⟨by simp only [PyData.showable], by simp only [PyData.depth]; exact Nat.le_refl 0, by cases b <;> decide, by simp only [PyData.canLay0]⟩
theorem sm_int {i : Int} (h0 : 0 ≤ i) (h : i < 10 ^ 570) : Sm 570 0 (.int i : D) := by
  refine ⟨?_, by simp only [PyData.depth]; exact Nat.le_refl 0, ?_, by simp only [PyData.canLay0]⟩
  · simp only [PyData.showable, decide_eq_true_eq]
    have h2 : i.natAbs < 2 ^ 1900 := by
      have e : (10 : Int) ^ 570 < 2 ^ 1900 := by decide +kernel
      omega
    exact Nat.lt_trans (PySem.Flt.log2_lt_of (by decide) h2) (by decide)
  · simp only [PyData.shown]
    exact toString_length_le h0 (by decide) h
theorem sms_sum {n k : Nat} : ∀ {ds : List D}, (∀ d ∈ ds, Sm n k d) → PyData.showableAll ds = true ∧ PyData.depthAll ds ≤ k ∧ ((PyData.shownAll ds).map (·.length)).sum ≤ ds.length * n ∧ PyData.canLayAll0 ds = true ∧ (PyData.shownAll ds).length = ds.length
  | [], _ => ⟨by simp only [PyData.showableAll], by simp only [PyData.depthAll]; exact Nat.zero_le _, by simp [PyData.shownAll], by simp only [PyData.canLayAll0], by simp [PyData.shownAll]⟩
  | d :: ds, h => by
    have h1 := h d (List.mem_cons_self ..)
    obtain ⟨a, b, c, e, f⟩ := sms_sum fun x hx => h x (List.mem_cons_of_mem _ hx)
    have h1d := h1.deep
    have h1l := h1.long
    refine ⟨by simp only [PyData.showableAll, h1.show_, a, Bool.and_self], by simp only [PyData.depthAll]; omega, ?_, by simp only [PyData.canLayAll0, h1.lay, e, Bool.and_self], by simp only [PyData.shownAll, List.length_cons, f]⟩
    simp only [PyData.shownAll, List.map_cons, List.sum_cons, List.length_cons, Nat.add_mul, Nat.one_mul]
    omega
theorem sm_list {n k : Nat} {ds : List D} (h : ∀ d ∈ ds, Sm n k d) : Sm (ds.length * (n + 2) + 3) (k + 1) (.list ds : D) := by
  obtain ⟨a, b, c, e, f⟩ := sms_sum h
  refine ⟨by simp only [PyData.showable, a], by simp only [PyData.depth]; omega, ?_, by simp only [PyData.canLay0, e]⟩
  simp only [PyData.shown]
  refine Nat.le_trans (listText_len_le _) ?_
  rw [f, Nat.mul_add]
  omega
theorem sm_tuple {n k : Nat} {ds : List D} (h : ∀ d ∈ ds, Sm n k d) : Sm (ds.length * (n + 2) + 3) (k + 1) (.tuple ds : D) := by
  obtain ⟨a, b, c, e, f⟩ := sms_sum h
  refine ⟨by simp only [PyData.showable, a], by simp only [PyData.depth]; omega, ?_, by simp only [PyData.canLay0, e]⟩
  simp only [PyData.shown]
  refine Nat.le_trans (tupleText_len_le _) ?_
  rw [f, Nat.mul_add]
  omega
theorem Sm.shaped {n k : Nat} {d : D} (h : Sm n k d) (hk : k ≤ 60) : SeqAt.shaped d = true := by
  unfold SeqAt.shaped
  have := h.deep
  simp only [h.lay, Bool.true_and, decide_eq_true_eq]
  omega
/-- what can be compared -/
def Lay (k : Nat) (ds : List D) : Prop := PyData.canLayAll0 ds = true ∧ PyData.depthAll ds ≤ k
theorem lay_nil {k : Nat} : Lay k [] := ⟨by simp only [PyData.canLayAll0], by simp only [PyData.depthAll]; exact Nat.zero_le _⟩
theorem lay_cons {k : Nat} {d : D} {ds : List D} (h : d.canLay0 = true) (h2 : d.depth ≤ k) (t : Lay k ds) : Lay k (d :: ds) := ⟨by simp only [PyData.canLayAll0, h, t.1, Bool.and_self], by simp only [PyData.depthAll]; have := t.2; omega⟩
theorem lay_of {k : Nat} : ∀ {ds : List D}, (∀ d ∈ ds, d.canLay0 = true ∧ d.depth ≤ k) → Lay k ds
  | [], _ => lay_nil
  | d :: ds, h => lay_cons (h d (List.mem_cons_self ..)).1 (h d (List.mem_cons_self ..)).2 (lay_of fun x hx => h x (List.mem_cons_of_mem _ hx))
theorem lay_ints {k : Nat} (ns : List Int) : Lay k (ns.map PyData.int) := lay_of fun d hd => by
  obtain ⟨i, _, rfl⟩ := List.mem_map.mp hd
  exact ⟨by simp only [PyData.canLay0], by simp only [PyData.depth]; exact Nat.zero_le _⟩
theorem lay_list {ds : List D} (h : Lay 60 ds) : SeqAt.shaped (.list ds) = true := by
  have h2 := h.2
  refine Bool.and_eq_true_iff.mpr ⟨by simp only [PyData.canLay0, h.1], decide_eq_true ?_⟩
  simp only [PyData.depth]
  omega
theorem lay_tuple {ds : List D} (h : Lay 60 ds) : SeqAt.shaped (.tuple ds) = true := by
  have h2 := h.2
  refine Bool.and_eq_true_iff.mpr ⟨by simp only [PyData.canLay0, h.1], decide_eq_true ?_⟩
  simp only [PyData.depth]
  omega
section
variable {K : PySem.W.Frag} {H : Hp} {x y : V} {ds : List D} {Q : VK}
theorem ne_nil_list (hx : Dp K H x (.list ds)) (hy : Dp K H y (.list [])) (h : Lay 60 ds) (q : Q (.bl (!ds.isEmpty)) H) : rNeD K x y H Q := by
  refine ⟨.list ds, .list [], hx, hy, lay_list h, lay_list lay_nil, ?_⟩
  cases ds with
  | nil => exact q
  | cons d ds => exact q
theorem ne_nil_tup (hx : Dp K H x (.tuple ds)) (hy : Dp K H y (.tuple [])) (h : Lay 60 ds) (q : Q (.bl (!ds.isEmpty)) H) : rNeD K x y H Q := by
  refine ⟨.tuple ds, .tuple [], hx, hy, lay_tuple h, lay_tuple lay_nil, ?_⟩
  cases ds with
  | nil => exact q
  | cons d ds => exact q
end
/-! ### the deck's dict -/
section
variable {H : Hp} {d l : Addr} {s : Int} {v : V}
theorem deck_deep (h : H d = some (.dK [(.inr "deep", .ref l), (.inr "state", .int s)])) : DGet H d (.str "deep") (some (.ref l)) := by
  have g := DGet.k (k := (.inr "deep" : Key)) h
  rw [valV_pos rfl] at g
  exact g
theorem deck_state (h : H d = some (.dK [(.inr "deep", .ref l), (.inr "state", .int s)])) : DGet H d (.str "state") (some (.int s)) := by
  have g := DGet.k (k := (.inr "state" : Key)) h
  rw [valV_neg (by show ¬ ((Sum.inr ("deep" : Str) : Key) = Sum.inr ("state" : Str)); decide), valV_pos rfl] at g
  exact g
theorem put_state (h : H d = some (.dK [(.inr "deep", .ref l), (.inr "state", .int s)])) : DPut H d (.str "state") v (upd H d (.dK [(.inr "deep", .ref l), (.inr "state", v)])) := by
  have g := DPut.k (k := (.inr "state" : Key)) (v := v) h (by show 2 < sizeLine; decide)
  have e : putK [((.inr "deep" : Key), V.ref l), (.inr "state", .int s)] (.inr "state") v = [(.inr "deep", .ref l), (.inr "state", v)] := by
    have n : ¬ ((Sum.inr ("deep" : Str) : Key) = Sum.inr ("state" : Str)) := by decide
    simp [putK, n]
  rw [e] at g
  exact g
theorem put_deep {m : Addr} (h : H d = some (.dK [(.inr "deep", .ref l), (.inr "state", .int s)])) : DPut H d (.str "deep") (.ref m) (upd H d (.dK [(.inr "deep", .ref m), (.inr "state", .int s)])) := by
  have g := DPut.k (k := (.inr "deep" : Key)) (v := .ref m) h (by show 2 < sizeLine; decide)
  have e : putK [((.inr "deep" : Key), V.ref l), (.inr "state", .int s)] (.inr "deep") (.ref m) = [(.inr "deep", .ref m), (.inr "state", .int s)] := by
    have n : ¬ ((Sum.inr ("state" : Str) : Key) = Sum.inr ("deep" : Str)) := by decide
    simp [putK, n]
  rw [e] at g
  exact g
end
theorem dk_ne {H : Hp} {d l : Addr} {a : List (Key × V)} {b : List V} (h1 : H d = some (.dK a)) (h2 : H l = some (.lst b)) : d ≠ l := ne_of h1 h2 (by intro z; cases z)
end EE

namespace EE
open PySem PySem.Spec PyProof.Rows L2
theorem ifp {c A B : Prop} [Decidable c] (hc : c) (h : A) : if c then A else B := by
  rw [if_pos hc]
  exact h
theorem ifn {c A B : Prop} [Decidable c] (hc : ¬ c) (h : B) : if c then A else B := by
  rw [if_neg hc]
  exact h
theorem up_old {H : Hp} {a p : Addr} {u o : HO} (h : H a = some u) (hp : H p = none) : upd H p o a = some u := (upd_ne (ne_of_none h hp)).trans h
/-! ### an expression that is worth a datum, whatever is known besides -/
def Sub (Δ Δ' : List (V × D)) : Prop := ∀ x ∈ Δ, x ∈ Δ'
theorem Sub.rfl' {Δ : List (V × D)} : Sub Δ Δ := fun _ h => h
theorem Sub.trans {A B C : List (V × D)} (h : Sub A B) (k : Sub B C) : Sub A C := fun x hx => k x (h x hx)
theorem Sub.cons {A B : List (V × D)} {x : V × D} (h : Sub A B) : Sub A (x :: B) := fun y hy => List.mem_cons_of_mem _ (h y hy)
def EvD (K : PySem.W.Frag) (B : List (V × D)) (te : TE) (σ : L2.St) (d : D) : Prop := ∀ (H : Hp) (dk : Dk) (Γ : List (Addr × List D)) (Δ : List (V × D)) (Q : VK), Sub B Δ → St K H dk Γ Δ →
  (∀ v H' Δ', Sub Δ Δ' → St K H' dk Γ Δ' → Dv Δ' v d → Q v H') → te σ H Q
def EvDs (K : PySem.W.Frag) (B : List (V × D)) (ta : TA) (σ : L2.St) (ds : List D) : Prop := ∀ (H : Hp) (dk : Dk) (Γ : List (Addr × List D)) (Δ : List (V × D)) (Q : List V → Hp → Prop), Sub B Δ → St K H dk Γ Δ →
  (∀ vs H' Δ', Sub Δ Δ' → St K H' dk Γ Δ' → DvAll Δ' vs ds → Q vs H') → ta σ H Q
section
variable {K : PySem.W.Frag} {B : List (V × D)} {σ : L2.St} {ta tb : TE} {tr : TA} {d : D} {ds : List D} {v : V} {i j : Int}
theorem ed_int : EvD K B (tC (.int i)) σ (.int i) := fun H dk Γ Δ Q hb hS q => q _ H Δ .rfl' hS (.int i)
theorem ed_str {x : Str} : EvD K B (tC (.str x)) σ (.str x) := fun H dk Γ Δ Q hb hS q => q _ H Δ .rfl' hS (.str x)
theorem ed_non : EvD K B (tC .non) σ .none := fun H dk Γ Δ Q hb hS q => q _ H Δ .rfl' hS .non
theorem ed_bl {b : Bool} : EvD K B (tC (.bl b)) σ (.bool b) := fun H dk Γ Δ Q hb hS q => q _ H Δ .rfl' hS (.bl b)
theorem ed_var {n : Nat} (e : σ[n]? = some (some v)) (h : Dv B v d) : EvD K B (tVar n) σ d := fun H dk Γ Δ Q hb hS q => ⟨v, e, q v H Δ .rfl' hS (h.sub hb)⟩
theorem ed_varI {n : Nat} (e : σ[n]? = some (some (.int i))) : EvD K B (tVar n) σ (.int i) := ed_var e (.int i)
theorem ed_varB {n : Nat} {b : Bool} (e : σ[n]? = some (some (.bl b))) : EvD K B (tVar n) σ (.bool b) := ed_var e (.bl b)
theorem eds_nil : EvDs K B tNil σ [] := fun H dk Γ Δ Q hb hS q => q _ H Δ .rfl' hS .nil
theorem eds_cons (h : EvD K B ta σ d) (t : EvDs K B tr σ ds) : EvDs K B (tCons ta tr) σ (d :: ds) := fun H dk Γ Δ Q hb hS q =>
  h H dk Γ Δ _ hb hS fun v H1 Δ1 s1 hS1 d1 => t H1 dk Γ Δ1 _ (hb.trans s1) hS1 fun vs H2 Δ2 s2 hS2 d2 => q _ H2 Δ2 (s1.trans s2) hS2 (.cons (d1.sub s2) d2)
theorem ed_tup (h : EvDs K B tr σ ds) (hz : ds.length ≤ 10000) : EvD K B (tTup tr) σ (.tuple ds) := fun H dk Γ Δ Q hb hS q =>
  h H dk Γ Δ _ hb hS fun vs H1 Δ1 s1 hS1 d1 => ⟨by rw [d1.len]; exact Nat.le_trans hz (by decide), fun p hp => q _ _ _ (s1.trans (Sub.cons .rfl')) (hS1.tup hp d1) (.of (List.mem_cons_self ..))⟩
theorem ed_lst (h : EvDs K B tr σ ds) (hz : ds.length ≤ 10000) : EvD K B (tLst tr) σ (.list ds) := fun H dk Γ Δ Q hb hS q =>
  h H dk Γ Δ _ hb hS fun vs H1 Δ1 s1 hS1 d1 => ⟨by rw [d1.len]; exact Nat.le_trans hz (by decide), fun p hp => q _ _ _ (s1.trans (Sub.cons .rfl')) (hS1.lst hp d1) (.of (List.mem_cons_self ..))⟩
theorem Dv.isInt {Δ : List (V × D)} {H : Hp} {dk : Dk} {Γ : List (Addr × List D)} (hS : St K H dk Γ Δ) (h : Dv Δ v (.int i)) : v = .int i := by
  cases h with
  | of m => exact hS.int_of m
  | int => rfl
theorem ed_I0 {g : Int → Int → Int} (h1 : EvD K B ta σ (.int i)) (h2 : EvD K B tb σ (.int j)) : EvD K B (tOp (rI0 fun i j => .int (g i j)) ta tb) σ (.int (g i j)) := fun H dk Γ Δ Q hb hS q =>
  h1 H dk Γ Δ _ hb hS fun v H1 Δ1 s1 hS1 d1 => h2 H1 dk Γ Δ1 _ (hb.trans s1) hS1 fun u H2 Δ2 s2 hS2 d2 => by
    obtain rfl := d1.isInt hS1
    obtain rfl := d2.isInt hS2
    exact ⟨i, j, rfl, rfl, q _ _ _ (s1.trans s2) hS2 (.int _)⟩
theorem ed_I {C : Int → Int → Prop} {g : Int → Int → Int} (h1 : EvD K B ta σ (.int i)) (h2 : EvD K B tb σ (.int j)) (hc : C i j) : EvD K B (tOp (rI C fun i j => .int (g i j)) ta tb) σ (.int (g i j)) := fun H dk Γ Δ Q hb hS q =>
  h1 H dk Γ Δ _ hb hS fun v H1 Δ1 s1 hS1 d1 => h2 H1 dk Γ Δ1 _ (hb.trans s1) hS1 fun u H2 Δ2 s2 hS2 d2 => by
    obtain rfl := d1.isInt hS1
    obtain rfl := d2.isInt hS2
    exact ⟨i, j, rfl, rfl, hc, q _ _ _ (s1.trans s2) hS2 (.int _)⟩
theorem ed_neg {g : Int → Int} (h1 : EvD K B ta σ (.int i)) : EvD K B (tUn (rU fun i => .int (g i)) ta) σ (.int (g i)) := fun H dk Γ Δ Q hb hS q =>
  h1 H dk Γ Δ _ hb hS fun v H1 Δ1 s1 hS1 d1 => by
    obtain rfl := d1.isInt hS1
    exact ⟨i, rfl, q _ _ _ s1 hS1 (.int _)⟩
/-- to go on from a datum -/
theorem EvD.go (h : EvD K B ta σ d) {H : Hp} {dk : Dk} {Γ : List (Addr × List D)} {Δ : List (V × D)} {Q : VK} (hb : Sub B Δ) (hS : St K H dk Γ Δ) (q : ∀ v H', St K H' dk Γ ((v, d) :: Δ) → Q v H') : ta σ H Q :=
  h H dk Γ Δ Q hb hS fun v H' Δ' s hS' dv => q v H' ((hS'.also dv).weaken fun x hx => by
    rcases List.mem_cons.mp hx with rfl | hx
    · exact List.mem_cons_self ..
    · exact List.mem_cons_of_mem _ (s x hx))
end
theorem sub_nil {Δ : List (V × D)} : Sub [] Δ := fun _ h => nomatch h
section
variable {K : PySem.W.Frag} {B : List (V × D)} {σ : L2.St} {H : Hp} {dk : Dk} {Γ : List (Addr × List D)} {Δ : List (V × D)} {tr : TA} {ds es : List D} {p r : Addr} {Q : VK}
/-- a list display that may change -/
theorem EvDs.make (h : EvDs K B tr σ ds) (hb : Sub B Δ) (hS : St K H dk Γ Δ) (hz : ds.length ≤ 10000) (q : ∀ p H', St K H' dk ((p, ds) :: Γ) Δ → Q (.ref p) H') : tLst tr σ H Q :=
  h H dk Γ Δ _ hb hS fun vs H1 Δ1 s1 hS1 d1 => ⟨by rw [d1.len]; exact Nat.le_trans hz (by decide), fun p hp => q p _ ((hS1.make hp d1).weaken s1)⟩
/-- two lists put together -/
theorem St.cat (hS : St K H dk ((p, ds) :: (r, es) :: Γ) Δ) : ∃ xs zs, H p = some (.lst xs) ∧ H r = some (.lst zs) ∧ xs.length = ds.length ∧ zs.length = es.length ∧ ∀ t, H t = none → St K (upd H t (.lst (xs ++ zs))) dk ((t, ds ++ es) :: (p, ds) :: (r, es) :: Γ) Δ := by
  obtain ⟨xs, h1, h2, _, h3⟩ := hS.look
  obtain ⟨zs, k1, k2, _, _⟩ := hS.swap.look
  refine ⟨xs, zs, h1, k1, h2, k2, fun t ht => hS.make_ ht fun H0 I => dps_app (h3 H0 I) ?_⟩
  obtain ⟨_, vs, j1, j2⟩ := I.lists (r, es) (List.mem_cons_of_mem _ (List.mem_cons_self ..))
  rw [k1] at j1
  cases j1
  exact j2
end
/-! ### to see the next expression -/
section
variable {te ta tb : TE} {tz t u : TS} {D : Ends} {σ : L2.St} {H : Hp} {Q : VK} {i : Nat} {r : R2} {g : TG} {tx : TA} {rr : V → List V → Hp → VK → Prop}
theorem go_set (h : te σ H fun x H1 => tz D (σ.set i (some x)) H1) : tSeq (tAsg te (gName i)) tz D σ H := h
theorem go_setL (h : te σ H fun x H1 => D.nx (σ.set i (some x)) H1) : tAsg te (gName i) D σ H := h
theorem go_asg (h : te σ H fun x H1 => g x σ H1 fun σ2 H2 => tz D σ2 H2) : tSeq (tAsg te g) tz D σ H := h
theorem go_asgL (h : te σ H fun x H1 => g x σ H1 D.nx) : tAsg te g D σ H := h
theorem go_ret (h : te σ H D.rt) : tRet te D σ H := h
theorem go_seq (h : t { D with nx := u D } σ H) : tSeq t u D σ H := h
theorem go_drop (h : te σ H fun _ H1 => D.nx σ H1) : tDrop te D σ H := h
theorem go_op (h : ta σ H fun x H1 => tb σ H1 fun y H2 => r x y H2 Q) : tOp r ta tb σ H Q := h
theorem go_if {c : TT} (h : c σ H fun b H1 => if b = true then t D σ H1 else u D σ H1) : tIfS c t u D σ H := h
theorem go_ite {c : TT} (h : c σ H fun b H1 => if b = true then ta σ H1 Q else tb σ H1 Q) : tIf c ta tb σ H Q := h
theorem go_cut (M : L2.St → Hp → Prop) (h : t { D with nx := M } σ H) (k : ∀ σ' H', M σ' H' → u D σ' H') : Evl.tCut t u D σ H := ⟨M, h, k⟩
theorem go_and {c e : TT} {Q : Bool → Hp → Prop} (h : c σ H fun b H1 => if b = true then e σ H1 Q else Q false H1) : tAnd c e σ H Q := h
theorem go_next (h : D.nx σ H) : tNext D σ H := h
theorem go_or {c e : TT} {Q : Bool → Hp → Prop} (h : c σ H fun b H1 => if b = true then Q true H1 else e σ H1 Q) : tOr c e σ H Q := h
theorem go_test {Q : Bool → Hp → Prop} (h : te σ H fun x H' => ∃ k, x = .bl k ∧ Q k H') : tTest te σ H Q := h
theorem go_B {Q : Bool → Hp → Prop} (h : te σ H fun x H' => ∃ k, x = .bl k ∧ Q k H') : tB te σ H Q := h
theorem go_not {c : TT} {Q : Bool → Hp → Prop} (h : c σ H fun b H1 => Q (!b) H1) : tNot c σ H Q := h
end
section
variable {te ta : TE} {tr : TA} {σ : L2.St} {H : Hp} {Q : VK} {v : V} {r : List V → Hp → VK → Prop} {QA : List V → Hp → Prop}
theorem cps (P : V → Hp → Prop) (h : ∀ Q' : VK, (∀ v H', P v H' → Q' v H') → te σ H Q') (k : ∀ v H', P v H' → Q v H') : te σ H Q := h Q k
theorem go_cb (h : tr σ H fun vs H1 => r vs H1 Q) : tCB r tr σ H Q := h
theorem go_cons (h : te σ H fun x H1 => tr σ H1 fun xs H2 => QA (x :: xs) H2) : tCons te tr σ H QA := h
theorem go_c (h : Q v H) : tC v σ H Q := h
theorem go_nil (h : QA [] H) : tNil σ H QA := h
theorem go_lst (h : tr σ H fun xs H1 => xs.length ≤ sizeLine ∧ ∀ p, H1 p = none → Q (.ref p) (upd H1 p (.lst xs))) : tLst tr σ H Q := h
theorem go_tup (h : tr σ H fun xs H1 => xs.length ≤ sizeLine ∧ ∀ p, H1 p = none → Q (.ref p) (upd H1 p (.tup xs))) : tTup tr σ H Q := h
variable {K : PySem.W.Frag} {B : List (V × D)} {tb : TE} {i j : Int}
theorem ed_max2 (h1 : EvD K B ta σ (.int i)) (h2 : EvD K B tb σ (.int j)) : EvD K B (tCB (fun xs H Q => ∃ i j, xs = [V.int i, .int j] ∧ Q (.int (if j > i then j else i)) H) (tCons ta (tCons tb tNil))) σ (.int (if j > i then j else i)) := fun H dk Γ Δ Q hb hS q =>
  h1 H dk Γ Δ _ hb hS fun v H1 Δ1 s1 hS1 d1 => h2 H1 dk Γ Δ1 _ (hb.trans s1) hS1 fun u H2 Δ2 s2 hS2 d2 => by
    obtain rfl := d1.isInt hS1
    obtain rfl := d2.isInt hS2
    exact ⟨i, j, rfl, q _ _ _ (s1.trans s2) hS2 (.int _)⟩
theorem ed_min2 (h1 : EvD K B ta σ (.int i)) (h2 : EvD K B tb σ (.int j)) : EvD K B (tCB (fun xs H Q => ∃ i j, xs = [V.int i, .int j] ∧ Q (.int (if j < i then j else i)) H) (tCons ta (tCons tb tNil))) σ (.int (if j < i then j else i)) := fun H dk Γ Δ Q hb hS q =>
  h1 H dk Γ Δ _ hb hS fun v H1 Δ1 s1 hS1 d1 => h2 H1 dk Γ Δ1 _ (hb.trans s1) hS1 fun u H2 Δ2 s2 hS2 d2 => by
    obtain rfl := d1.isInt hS1
    obtain rfl := d2.isInt hS2
    exact ⟨i, j, rfl, q _ _ _ (s1.trans s2) hS2 (.int _)⟩
end
theorem atI_m1 {α : Type} {xs : List α} {v : α} (h : xs[xs.length - 1]? = some v) : atI xs (-1) = some v := by
  obtain ⟨hl, _⟩ := List.getElem?_eq_some_iff.mp h
  have e : ixN xs.length (-1) = some (xs.length - 1) := by
    unfold ixN
    rw [if_neg (by omega), if_pos (by omega)]
    congr 1
    omega
  unfold atI
  rw [e]
  exact h
theorem St.last {K : PySem.W.Frag} {H : Hp} {dk : Dk} {Γ : List (Addr × List D)} {Δ : List (V × D)} {p : Addr} {ds : List D} {x : D} (h : St K H dk ((p, ds) :: Γ) Δ) (hx : ds[ds.length - 1]? = some x) :
    ∃ vs v, H p = some (.lst vs) ∧ atI vs (-1) = some v ∧ St K H dk ((p, ds) :: Γ) ((v, x) :: Δ) := by
  obtain ⟨vs, h1, h2, h3, _⟩ := h.look
  obtain ⟨v, h4, h5⟩ := h3 _ x hx
  exact ⟨vs, v, h1, atI_m1 (by rw [h2]; exact h4), h5⟩
section
variable {te : TE} {ta : TA} {g : TG} {tb tz : TS} {D : Ends} {σ : L2.St} {H : Hp} {wi : TI} {R : It → Hp → Prop}
/-- a loop, once it is known what is walked -/
abbrev FK (g : TG) (tb : TS) (D : Ends) (σ : L2.St) : It → Hp → Prop := fun J H1 => ∃ W : Nat → Nat → L2.St → Hp → Prop, (∃ m, W 0 m σ H1) ∧ ∀ i m σ H, W i m σ H →
  (J.stop i H ∧ D.nx σ H) ∨ (J.go i H ∧ ∃ N : L2.St → Hp → Prop, (∀ σ' H', N σ' H' → ∃ m', m' < m ∧ W (i + 1) m' σ' H') ∧ ∀ x H', J.yld i H x H' → g x σ H' fun σ2 H2 => tb { D with nx := N, ct := N, bk := D.nx } σ2 H2)
theorem go_for (h : wi σ H (FK g tb { D with nx := tz D } σ)) : tSeq (tFor wi g tb) tz D σ H := h
theorem go_rng1 (h : te σ H fun x H1 => ∃ j : Int, [x] = [V.int j] ∧ -(2 ^ 62) ≤ j ∧ j < 2 ^ 62 ∧ R (Itr 0 j.toNat) H1) : iRng1 (tCons te tNil) σ H R := h
theorem go_walkL {K : PySem.W.Frag} (h : te σ H fun x H1 => ∃ a, x = .ref a ∧ (∃ xs, SqL K H1 a xs) ∧ R (Itl K a) H1) : iList K te σ H R := h
theorem go_walkEL {K : PySem.W.Frag} (h : te σ H fun x H1 => ∃ a xs, [x] = [V.ref a] ∧ SqL K H1 a xs ∧ R (Ite K a) H1) : iEnum K (tCons te tNil) σ H R := h
end
theorem go_yes {σ : L2.St} {H : Hp} {A B : Hp → Prop} (h : A H) : tYes σ H (fun b H3 => if b = true then A H3 else B H3) := by
  show if true = true then A H else B H
  exact iteT h
section
variable {K : PySem.W.Frag} {B : List (V × D)} {σ : L2.St} {ta tb te : TE} {tr : TA} {d : D} {v : V} {H : Hp} {dk : Dk} {Γ : List (Addr × List D)} {Δ : List (V × D)} {Q : VK}
theorem Dv.isBl {b : Bool} (hS : St K H dk Γ Δ) (h : Dv Δ v (.bool b)) : v = .bl b := by
  cases hS.dp h
  rfl
theorem Dv.isStr {x : Str} (hS : St K H dk Γ Δ) (h : Dv Δ v (.str x)) : v = .str x := by
  cases hS.dp h
  rfl
theorem Dv.isNon (hS : St K H dk Γ Δ) (h : Dv Δ v .none) : v = .non := by
  cases hS.dp h
  rfl
/-- a list or a tuple -/
def Disp : D → Prop
  | .list _ => True
  | .tuple _ => True
  | _ => False
theorem Dv.isRef (hS : St K H dk Γ Δ) (h : Dv Δ v d) (hd : Disp d) : ∃ a, v = .ref a := by
  have g := hS.dp h
  cases d with
  | list ds => cases g; exact ⟨_, rfl⟩
  | tuple ds => cases g; exact ⟨_, rfl⟩
  | none => exact hd.elim
  | bool b => exact hd.elim
  | int i => exact hd.elim
  | str x => exact hd.elim
  | dict x => exact hd.elim
theorem ed_repr {n k : Nat} (h : EvD K B te σ d) (hd : Disp d) (sm : Sm n k d) (hn : n ≤ 16000000) (hk : k ≤ 60) : EvD K B (tCB (rRepr K) (tCons te tNil)) σ (.str d.shown) := fun H dk Γ Δ Q hb hS q =>
  h H dk Γ Δ _ hb hS fun v H1 Δ1 s1 hS1 d1 => by
    obtain ⟨a, rfl⟩ := d1.isRef hS1 hd
    exact ⟨a, d, rfl, hS1.dp d1, sm.show_, Nat.le_trans sm.deep hk, Nat.le_trans sm.long (Nat.le_trans hn (by decide)), q _ _ _ s1 hS1 (.str _)⟩
theorem ed_neS {x y : Str} (h1 : EvD K B ta σ (.str x)) (h2 : EvD K B tb σ (.str y)) : EvD K B (tOp rNe ta tb) σ (.bool (!decide (x = y))) := fun H dk Γ Δ Q hb hS q =>
  h1 H dk Γ Δ _ hb hS fun v H1 Δ1 s1 hS1 d1 => h2 H1 dk Γ Δ1 _ (hb.trans s1) hS1 fun u H2 Δ2 s2 hS2 d2 => by
    obtain rfl := d1.isStr hS1
    obtain rfl := d2.isStr hS2
    have e : decide (V.str x = V.str y) = decide (x = y) := decide_eq_decide.mpr ⟨fun h => V.str.inj h, fun h => by rw [h]⟩
    refine ⟨rfl, ?_⟩
    rw [e]
    exact q _ _ _ (s1.trans s2) hS2 (.bl _)
theorem ed_neB {x y : Bool} (h1 : EvD K B ta σ (.bool x)) (h2 : EvD K B tb σ (.bool y)) : EvD K B (tOp rNe ta tb) σ (.bool (!decide (x = y))) := fun H dk Γ Δ Q hb hS q =>
  h1 H dk Γ Δ _ hb hS fun v H1 Δ1 s1 hS1 d1 => h2 H1 dk Γ Δ1 _ (hb.trans s1) hS1 fun u H2 Δ2 s2 hS2 d2 => by
    obtain rfl := d1.isBl hS1
    obtain rfl := d2.isBl hS2
    have e : decide (V.bl x = V.bl y) = decide (x = y) := decide_eq_decide.mpr ⟨fun h => V.bl.inj h, fun h => by rw [h]⟩
    refine ⟨rfl, ?_⟩
    rw [e]
    exact q _ _ _ (s1.trans s2) hS2 (.bl _)
theorem ed_notB {x y : Bool} (h1 : EvD K B ta σ (.bool x)) (h2 : EvD K B tb σ (.bool y)) : EvD K B (tOp rNotB ta tb) σ (.bool (!decide (x = y))) := fun H dk Γ Δ Q hb hS q =>
  h1 H dk Γ Δ _ hb hS fun v H1 Δ1 s1 hS1 d1 => h2 H1 dk Γ Δ1 _ (hb.trans s1) hS1 fun u H2 Δ2 s2 hS2 d2 => by
    obtain rfl := d1.isBl hS1
    obtain rfl := d2.isBl hS2
    exact ⟨x, y, rfl, rfl, q _ _ _ (s1.trans s2) hS2 (.bl _)⟩
/-- a test that is worth a known truth value -/
theorem EvD.test {b : Bool} {Q : Bool → Hp → Prop} (h : EvD K B te σ (.bool b)) (hb : Sub B Δ) (hS : St K H dk Γ Δ) (q : ∀ H', St K H' dk Γ Δ → Q b H') : tTest te σ H Q :=
  h H dk Γ Δ _ hb hS fun v H1 Δ1 s1 hS1 d1 => by
    obtain rfl := d1.isBl hS1
    exact ⟨b, rfl, q H1 (hS1.weaken s1)⟩
theorem EvD.testB {b : Bool} {Q : Bool → Hp → Prop} (h : EvD K B te σ (.bool b)) (hb : Sub B Δ) (hS : St K H dk Γ Δ) (q : ∀ H', St K H' dk Γ Δ → Q b H') : tB te σ H Q := EvD.test h hb hS q
/-- arguments -/
theorem EvDs.go {ds : List D} {Q : List V → Hp → Prop} (h : EvDs K B tr σ ds) (hb : Sub B Δ) (hS : St K H dk Γ Δ) (q : ∀ vs H' Δ', Sub Δ Δ' → St K H' dk Γ Δ' → DvAll Δ' vs ds → Q vs H') : tr σ H Q := h H dk Γ Δ Q hb hS q
end
end EE

namespace EE
open PySem PySem.Spec PyProof.Rows L2
/-! ### math.lcm of great ints -/
def rLcm : List V → Hp → VK → Prop := fun vs H Q => ∃ a b : Int, vs = [.int a, .int b] ∧ a.natAbs < 2 ^ 12000 ∧ b.natAbs < 2 ^ 12000 ∧ Q (.int ((Nat.lcm a.natAbs b.natAbs : Nat) : Int)) H
theorem cr_lcm {X : Cx} : CallR X (.builtin "math.lcm") rLcm := by
  intro pins s σ H vs us Q I r h
  obtain ⟨a, b, rfl, ha, hb, q⟩ := h
  obtain ⟨t, u, rfl⟩ := Vals.int2 r
  have hp : 1 < 2 ^ 12000 := Nat.one_lt_two_pow (by decide)
  have h1 : (max 1 a.natAbs).log2 ≤ 11999 := PySem.W.mg_log (k := 11999) (Nat.max_lt.mpr ⟨hp, ha⟩)
  have h2 : (max a.natAbs b.natAbs).log2 ≤ 11999 := PySem.W.mg_log (k := 11999) (Nat.max_lt.mpr ⟨ha, hb⟩)
  have h3 : ((((Nat.lcm 1 a.natAbs).lcm b.natAbs : Nat) : Int)).natAbs.log2 < bitsLine := by
    rw [Int.natAbs_natCast, PySem.W.mc_lcm_one]
    refine PySem.W.mc_size (k := 375) ?_ (by decide)
    refine Nat.le_trans (PySem.W.mc_lcm_le _ _) (Nat.le_trans (Nat.mul_le_mul (Nat.le_of_lt ha) (Nat.le_of_lt hb)) ?_)
    rw [← Nat.pow_add]
    exact Nat.pow_le_pow_right (by decide) (by decide)
  refine PySem.call_function_meets PySem.W.MGF.kind_lcm PySem.W.MGF.plain_lcm PySem.W.MGF.entry_lcm (PySem.W.MGF.args_lcm _ _) (PySem.W.mg_run_lcm a t b u (by omega) (by omega) h3).meets ?_
  rw [PySem.W.mc_lcm_one]
  exact ⟨.int _, H, I.tok _, ⟨_, rfl⟩, q⟩
/-! ### repr of a truth value -/
theorem call_repr_bool {X : Cx} : CallR X (.builtin "repr") (fun xs H Q => ∃ b, xs = [.bl b] ∧ Q (.str (if b then "True" else "False")) H) := by
  intro pins s σ H xs us Q I r h
  obtain ⟨b, rfl, q⟩ := h
  obtain ⟨u, rfl, r1⟩ := vals1 r
  cases r1
  exact PySem.P.repr_of_bool ⟨.str _, H, I.tok _, ⟨_, rfl⟩, q⟩
/-! ### defs that may raise -/
structure FdX (P : Program) (w : World) (K : PySem.W.Frag) (mg : Str → Option Value) (base : Heap) (x : Str) (k : Nat) (ps : List Str) (sp : Sp) : Prop where
  ex : ∃ (f : Addr) (fd : FuncData), FnOk P w K mg base (L2.CX P w) k f fd ps sp ∧ mg x = some (.ref f) ∧ PySem.W.keepIn K (.ref f) = true ∧ Binds K fd ps []
structure FkX (P : Program) (w : World) (K : PySem.W.Frag) (mg : Str → Option Value) (base : Heap) (x : Str) (k : Nat) (ps ks : List Str) (gV : List V → List V) (sp : Sp) : Prop where
  ex : ∃ (f : Addr) (fd : FuncData) (g : List Value → List Value), FnOk P w K mg base (L2.CX P w) k f fd ps sp ∧ mg x = some (.ref f) ∧ PySem.W.keepIn K (.ref f) = true ∧ KB fd K ps ks g gV
section
variable {P : Program} {w : World} {K : PySem.W.Frag} {mg : Str → Option Value} {base : Heap}
theorem FdX.mk' {x qual : Str} {st : Stmt} {f : Addr} {fd : FuncData} {k : Nat} {ps : List Str} {sp : Sp} (F : Fun K x qual st f fd) (G : FnOk P w K mg base (L2.CX P w) k f fd ps sp) (hm : mg x = some (.ref f)) (hb : Binds K fd ps []) : FdX P w K mg base x k ps sp :=
  ⟨f, fd, G, hm, F.kp, hb⟩
end
section
variable {X : Cx} {k : Nat} {ps ks : List Str} {gV : List V → List V} {sp : Sp} {x : Str} {p pos : Pos} {e : Expr} {es : List Expr} {t : TA} {kws : List Keyword} {tk : TA} {E : L2.St → XK}
theorem pe_fdX (F : FdX X.prog X.w X.K X.mg X.base x k ps sp) (hr : Room k X.A) (hg : Gl X x) (hx : ∀ σ, PassesAt (L2.CX X.prog X.w) X σ (E σ)) (ha : PA X (e :: es) t) (hdb : (x == ("__debug__" : Str)) = false := by decide) (he : starEach (e :: es) X.env = (false, eval e X.env) :: starEach es X.env := by rfl)
    (hpl : (backTo pos (starEach es X.env)).any (·.1) = false := by rfl) : PE X (.Call (.Name x p) (e :: es) [] pos) (tCallS sp E t) := by
  obtain ⟨f, fd, G, hm, hk, hb⟩ := F.ex
  exact pe_callS G hr hg hm hk hb hx ha hdb he hpl
def tCallKS (sp : Sp) (gV : List V → List V) (E : L2.St → XK) (tk : TA) : TE := fun σ H Q => tk σ H fun zs H2 => sp (gV zs) H2 Q (E σ)
theorem pe_fkX (F : FkX X.prog X.w X.K X.mg X.base x k ps ks gV sp) (hr : Room k X.A) (hg : Gl X x) (hx : ∀ σ, PassesAt (L2.CX X.prog X.w) X σ (E σ)) (hkw : PK X kws tk) (hall : (backToKw pos (keywordEach kws X.env)).all (·.1.isSome) = true := by rfl) (hks : (backToKw pos (keywordEach kws X.env)).filterMap (·.1) = ks := by rfl)
    (hdb : (x == ("__debug__" : Str)) = false := by decide) (hpl : ((backTo pos (starEach [] X.env)).any (·.1) || (backToKw pos (keywordEach kws X.env)).any (·.1.isNone)) = false := by rfl) :
    PE X (.Call (.Name x p) [] kws pos) (tCallKS sp gV E tk) := by
  obtain ⟨f, fd, g, G, hm, hk, hb⟩ := F.ex
  refine ⟨fun pins s σ H Q I h => wpAny_Call_Name_kw (ld_glob I hg hm ?_ hdb)⟩
  refine PySem.W.callWith_KW0 (h₀ := X.base) (first := []) I.ok.mod.kin hk hall (thn (hkw.run pos pins s σ H _ I h) fun ws s2 q => ?_) hpl
  obtain ⟨zs, H2, I2, rz, q2⟩ := q
  refine ⟨I2.kIn, ?_⟩
  rw [hks]
  have r2 := hb.rel rz
  have hl : (g ws).length = ps.length := by
    rw [← r2.length]
    exact G.len _ _ _ _ q2
  refine wpAny_call (codeAny_mono (G.run X.A X.stack s2 H2 ⟨[], ks.zip ws⟩ (g ws) (gV zs) Q (E σ) hr I2.env0 (hb.to s2 ws I2.kIn hl) r2 q2) fun r s' hq => ?_)
  cases r with
  | error e => exact hx σ pins H2 s2 e s' I2 hq
  | ok fl =>
    cases fl with
    | ret u => exact I2.after hq
    | next => exact False.elim hq
    | brk => exact False.elim hq
    | cont => exact False.elim hq
end
/-! ### raise C() -/
section
variable {X : Cx} {C : Addr} {bmB : List Value} {B newId initId : String}
theorem pmk_own0 {x : Str} {p pos : Pos} (F : ExcBaseFacts B newId initId bmB) (q : PySem.W.excIn X.K C bmB newId = true) (gC : X.mg x = some (.ref C)) (kC : PySem.W.keepIn X.K (.ref C) = true) (r : Raises X (.ref C)) (hg : Gl X x)
    (hdb : (x == ("__debug__" : Str)) = false := by decide) : PMk X (.Call (.Name x p) [] [] pos) (fun _ H Q => Q (.ref C) none H) := by
  intro pins s σ H Q I h
  refine wpAny_Call_Name_kw (ld_glob I hg gC ?_ hdb)
  refine PySem.W.callWith_K0 I.kIn kC ?_
  show wpAny _ _ (call (.ref C) []) _ _ _
  obtain ⟨bm, N, nm, qn, bs, hdct, sn, sub, ab, col, dd, k0, k1, k2, k3, k5, mN, hC, hN, hni, T⟩ := exc_obj I.kIn q
  refine wpAny_call_exc_subT F T hC hN hni (fun h' e hm => ?_) (by show 0 ≤ sizeLine; rw [sizeLine_eq]; omega)
  exact mk_of I hm r h (I.hok.gone hm.new)
end
/-! ### the name of a def as a value -/
section
variable {X : Cx} {k : Nat} {ps : List Str} {sp : Sp} {x : Str} {pos : Pos}
theorem pe_fn {f : Addr} (hm : X.mg x = some (.ref f)) (hg : Gl X x) (hd : (x == ("__debug__" : Str)) = false := by decide) : PE X (.Name x pos) (tC (.ref f)) := pe_glob hg hm rfl hd
end
end EE
namespace EE
open PySem PySem.Spec PyProof.Rows L2
/-- an error of the class at S is what «except S» names -/
theorem exm_self {K : PySem.W.Frag} {S : Addr} (h1 : PySem.W.subIn K (.ref S) (.type "BaseException") = some true) (h2 : PySem.W.isClsIn K S = true) (h3 : PySem.W.typeIn K (.ref S) = some (.type "type")) (h4 : PySem.W.subIn K (.ref S) (.ref S) = some true) :
    PySem.W.exmOne K (.ref S) (.ref S) = some true := by
  have e1 : (PySem.W.subIn K (.ref S) (.type "BaseException") == some true) = true := by rw [h1] <;> rfl
  have e2 : ((PySem.W.clsIn K S).isSome && PySem.W.typeIn K (.ref S) == some (.type "type")) = true := by
    have h2' : (PySem.W.clsIn K S).isSome = true := h2
    rw [h2', h3] <;> rfl
  show (if (PySem.W.subIn K (.ref S) (.type "BaseException") == some true) = true then (if ((PySem.W.clsIn K S).isSome && PySem.W.typeIn K (.ref S) == some (.type "type")) = true then PySem.W.subIn K (.ref S) (.ref S) else none) else none) = some true
  rw [if_pos e1, if_pos e2]
  exact h4
/-- isinstance of the error that an except suite holds -/
def rIsE2 (K : PySem.W.Frag) (a : Addr) (cls : Value) (d : Option Addr) : List V → Hp → VK → Prop := fun xs H Q => ∃ D, cls = .ref D ∧ d = none ∧ ExcC K D ∧ rIsE K D a xs H Q
theorem call_isE2 {X : Cx} {a : Addr} {cls : Value} {d : Option Addr} {oe : Obj} {pn : List (Addr × Obj)} (hz : Zc cls d oe) (hf : ∃ vs, oe.data = .fields vs) : CallR (X.suite a ((a, oe) :: pn)) (.builtin "isinstance") (rIsE2 X.K a cls d) := by
  intro pins s σ H xs us Q I r h
  obtain ⟨D, rfl, rfl, C, h⟩ := h
  exact call_isE C hz hf pins s σ H xs us Q I r h
/-- a tuple's type -/
theorem ty_tup {K : PySem.W.Frag} {H : Hp} {a : Addr} {xs : List V} (h : SqT K H a xs) : TyX K H (.ref a) (.type "tuple") := by
  rcases h with (h | ⟨o, h⟩) | ⟨o, us, n, h, hc, _⟩
  · exact .base (.tup h)
  · exact .fTuple h
  · exact .kTuple h hc
end EE
namespace EE
open PySem PySem.Spec PyProof.Rows L2
section
variable {K : PySem.W.Frag} {B : List (V × D)} {σ : L2.St} {ta tb te : TE} {tr : TA} {d : D} {v : V} {i j : Int}
theorem dec_vI {a b : Int} : decide (V.int a = V.int b) = decide (a = b) := decide_eq_decide.mpr ⟨fun h => V.int.inj h, fun h => by rw [h]⟩
theorem dec_vS {a b : Str} : decide (V.str a = V.str b) = decide (a = b) := decide_eq_decide.mpr ⟨fun h => V.str.inj h, fun h => by rw [h]⟩
theorem ed_eqI (h1 : EvD K B ta σ (.int i)) (h2 : EvD K B tb σ (.int j)) : EvD K B (tOp rEq ta tb) σ (.bool (decide (i = j))) := fun H dk Γ Δ Q hb hS q =>
  h1 H dk Γ Δ _ hb hS fun v H1 Δ1 s1 hS1 d1 => h2 H1 dk Γ Δ1 _ (hb.trans s1) hS1 fun u H2 Δ2 s2 hS2 d2 => by
    obtain rfl := d1.isInt hS1
    obtain rfl := d2.isInt hS2
    refine ⟨rfl, ?_⟩
    rw [dec_vI]
    exact q _ _ _ (s1.trans s2) hS2 (.bl _)
theorem ed_eqS {x y : Str} (h1 : EvD K B ta σ (.str x)) (h2 : EvD K B tb σ (.str y)) : EvD K B (tOp rEq ta tb) σ (.bool (decide (x = y))) := fun H dk Γ Δ Q hb hS q =>
  h1 H dk Γ Δ _ hb hS fun v H1 Δ1 s1 hS1 d1 => h2 H1 dk Γ Δ1 _ (hb.trans s1) hS1 fun u H2 Δ2 s2 hS2 d2 => by
    obtain rfl := d1.isStr hS1
    obtain rfl := d2.isStr hS2
    refine ⟨rfl, ?_⟩
    rw [dec_vS]
    exact q _ _ _ (s1.trans s2) hS2 (.bl _)
theorem ed_ixL {ds : List D} {n : Nat} (h : EvD K B ta σ (.list ds)) (e : ds[n]? = some d) : EvD K B (tOp (rIxL K) ta (tC (.int (n : Int)))) σ d := fun H dk Γ Δ Q hb hS q =>
  h H dk Γ Δ _ hb hS fun v H1 Δ1 s1 hS1 d1 => by
    obtain ⟨a, rfl⟩ := d1.isRef hS1 trivial
    have hS2 := hS1.also d1
    obtain ⟨us, hL, hlen, Δ2, rfl, hS3, hv⟩ := hS2.lstAt (List.mem_cons_self ..)
    obtain ⟨w, e1, e2⟩ := dvs_at hv e
    exact ⟨a, us, n, w, rfl, rfl, hL, atI_nat e1, q w H1 _ (fun x hx => List.mem_append_right _ (List.mem_cons_of_mem _ (s1 x hx))) hS3 e2⟩
theorem ed_reprB {b : Bool} (h : EvD K B te σ (.bool b)) : EvD K B (tCB (fun xs H Q => ∃ b, xs = [V.bl b] ∧ Q (.str (if b then "True" else "False")) H) (tCons te tNil)) σ (.str (if b then "True" else "False")) := fun H dk Γ Δ Q hb hS q =>
  h H dk Γ Δ _ hb hS fun v H1 Δ1 s1 hS1 d1 => by
    obtain rfl := d1.isBl hS1
    exact ⟨b, rfl, q _ _ _ s1 hS1 (.str _)⟩
theorem ed_notN0 (h : EvD K B te σ .none) : EvD K B (tOp (fun x y H Q => y = .non ∧ Q (.bl (!decide (x = .non))) H) te (tC .non)) σ (.bool false) := fun H dk Γ Δ Q hb hS q =>
  h H dk Γ Δ _ hb hS fun v H1 Δ1 s1 hS1 d1 => by
    obtain rfl := d1.isNon hS1
    exact ⟨rfl, q _ _ _ s1 hS1 (.bl _)⟩
end
end EE
namespace EE
open PySem PySem.Spec PyProof.Rows L2
/-- isinstance by an own class above -/
theorem kit_own {K : PySem.W.Frag} {t : Value} {S : Addr} (h2 : PySem.W.isClsIn K S = true) (h3 : PySem.W.typeIn K (.ref S) = some (.type "type")) (h4 : PySem.W.subIn K t (.ref S) = some true) : PySem.W.kitOne K t (.ref S) = some true := by
  have h2' : (PySem.W.clsIn K S).isSome = true := h2
  have e2 : ((PySem.W.clsIn K S).isSome && PySem.W.typeIn K (.ref S) == some (.type "type")) = true := by
    rw [h2', h3] <;> rfl
  unfold PySem.W.kitOne
  split
  · rfl
  · show (if ((PySem.W.clsIn K S).isSome && PySem.W.typeIn K (.ref S) == some (.type "type")) = true then PySem.W.subIn K t (.ref S) else none) = some true
    rw [if_pos e2]
    exact h4
end EE

namespace SrtO
open PySem PyProof.Rows Srt
section
variable {prog : Program} {w : World} {A : Around} {E : Value → Shared → Prop} {s : Shared}
theorem collect_tup {l : Addr} {vs : List Value} {Q : List Value → Shared → Prop} (hl : IsTup s.heap l vs.toArray)
    (h : Q vs { s with heap := (s.heap.push (seqObj "list" #[] 0)).update s.heap.objs.size (Obj.mapSeq (· ++ vs.toArray)) }) (hsz : vs.length ≤ sizeLine) :
    wpAny (model prog w) A (collect (.ref l)) Q E s := by
  obtain ⟨o, ho, hc, n, hd⟩ := id hl
  unfold collect
  refine wpAny_bind (wpAny_runValue (codeAny_builtin entry_proto_collect' ?_))
  show wpAny _ _ (do again (.builtin "list.__iadd__" ⟨[← newList [], .ref l], []⟩)) _ _ s
  refine wpAny_bind (wpAny_newList (wpAny_pure ⟨Code.quiet_builtin _ (by decide +kernel), codeAny_builtin entry_list_iadd' ?_⟩))
  show wpAny _ _ (Builtin.List.listExtendWith (.ref s.heap.objs.size) (.ref l) (.ref s.heap.objs.size)) _ _ { s with heap := s.heap.push (seqObj "list" #[] 0) }
  unfold Builtin.List.listExtendWith
  have ho' : (s.heap.push (seqObj "list" #[] 0)).get? l = some o := Heap.get?_push_of_some _ ho
  refine wpAny_bind (wpAny_typeOf (T := "tuple") ⟨o, ho', hc⟩ ?_)
  have ht : (Value.type "tuple" == Value.type "tuple") = true := by rfl
  rw [if_pos (by rw [ht]; simp)]
  refine wpAny_bind (listItems_at ho' hd ?_)
  refine wpAny_bind (listItems_at (xs := #[]) (n := 0) (Heap.get?_push_size _ rfl) rfl ?_)
  rw [if_neg (by simp)]
  refine wpAny_bind (listUpdate_at (xs := #[]) (n := 0) (Heap.get?_push_size _ rfl) rfl ?_ (Nat.zero_le _) (by show (#[] ++ vs.toArray).size ≤ sizeLine + 1; simp only [Array.size_append, List.size_toArray, List.length_nil]; omega))
  refine wpAny_pure ?_
  show wpAny (model prog w) A (do
      let o ← load s.heap.objs.size
      match o.data with
      | .seq xs _ => pure xs.toList
      | _ => unsupported "internal:collect") Q E { s with heap := (s.heap.push (seqObj "list" #[] 0)).update s.heap.objs.size (Obj.mapSeq (· ++ vs.toArray)) }
  refine wpAny_bind (wpAny_load (get?_update_seq (Heap.get?_push_size _ rfl) _) ?_)
  show wpAny _ _ (pure ((#[] : Array Value) ++ vs.toArray).toList) Q E _
  rw [show ((#[] : Array Value) ++ vs.toArray).toList = vs by simp]
  exact wpAny_pure h
theorem sorted_ordT {l : Addr} {vs : List Value} {ltv : Value → Value → Bool} {Q : Value → Shared → Prop} (O : Swo ltv) (hl : IsTup s.heap l vs.toArray) (hz : vs.length ≤ sizeLine)
    (hS : 2 ≤ vs.length → ∀ (h₁ : Heap) (a : Addr), h₁.get? a = some (seqObj "list" vs.toArray 0) → (∀ b o, s.heap.get? b = some o → b ≠ a ∧ h₁.get? b = some o) → SortableO prog w A.in1.in1 { s with heap := h₁ } a vs ltv)
    (h : ∀ out : List Value, Srtd ltv out → Stb ltv out vs → Q (.ref (s.heap.objs.size + 1)) { s with heap := sortedAll s.heap vs out.toArray }) :
    wpAny (model prog w) A (call (.builtin "sorted") [.ref l]) Q E s := by
  refine Calls.call_function_entry kind_sorted plain_sorted entry_sorted (args_sorted1 _) ?_
  unfold Builtin.«sorted»
  refine wpAny_bind (m := checkCount "sorted" 1 1 _) (wpAny_pure ?_)
  refine wpAny_bind (collect_tup hl ?_ hz)
  refine wpAny_bind (wpAny_newList ?_ hz)
  have hsz : ((s.heap.push (seqObj "list" #[] 0)).update s.heap.objs.size (Obj.mapSeq (· ++ vs.toArray))).objs.size = s.heap.objs.size + 1 := by
    rw [Heap.size_update, size_push']
  have hoL : (((s.heap.push (seqObj "list" #[] 0)).update s.heap.objs.size (Obj.mapSeq (· ++ vs.toArray))).push (seqObj "list" vs.toArray 0)).get? (s.heap.objs.size + 1) = some (seqObj "list" vs.toArray 0) := by
    rw [← hsz]; exact Heap.get?_push_size _ rfl
  have keep : ∀ b o, s.heap.get? b = some o → b ≠ s.heap.objs.size + 1 ∧ (((s.heap.push (seqObj "list" #[] 0)).update s.heap.objs.size (Obj.mapSeq (· ++ vs.toArray))).push (seqObj "list" vs.toArray 0)).get? b = some o := fun b o q => by
    have hlt : b < s.heap.objs.size := Heap.lt_size q
    refine ⟨Nat.ne_of_lt (Nat.lt_succ_of_lt hlt), Heap.get?_push_of_some _ ?_⟩
    rw [Heap.get?_update_ne _ _ _ _ (Nat.ne_of_lt hlt)]
    exact Heap.get?_push_of_some _ q
  show wpAny _ _ _ _ _ { s with heap := ((s.heap.push (seqObj "list" #[] 0)).update s.heap.objs.size (Obj.mapSeq (· ++ vs.toArray))).push (seqObj "list" vs.toArray 0) }
  rw [hsz]
  refine wpAny_bind (wpAny_holding (wpAny_call_entry slot_list_sort ⟨_, hoL, rfl⟩ entry_list_sort (list_sort_ord O hoL hz (fun h2 => hS h2 _ _ hoL keep) fun out hs hb => ⟨_, rfl, ?_⟩) (args_list_sort _)))
  exact wpAny_pure ⟨_, rfl, h out hs hb⟩
theorem sorted_pairsT {l : Addr} {vs : List Value} {k : Value → Int × Int} {Q : Value → Shared → Prop} (hl : IsTup s.heap l vs.toArray) (hz : vs.length ≤ sizeLine) (hp : ∀ v ∈ vs, IsPair s.heap v (k v).1 (k v).2)
    (h : ∀ (h' : Heap) (d : Addr) (out : List Value), Srtd (fun v u => lexB (k v) (k u)) out → Stb (fun v u => lexB (k v) (k u)) out vs → (∀ b o, s.heap.get? b = some o → h'.get? b = some o) → s.heap.objs.size ≤ d → (∃ n, h'.get? d = some (seqObj "list" out.toArray n)) → Q (.ref d) { s with heap := h' }) :
    wpAny (model prog w) A (call (.builtin "sorted") [.ref l]) Q E s := by
  refine sorted_ordT (swo_lex k) hl hz (fun h2 h₁ a ha kk => ?_) fun out hs hb => ?_
  · refine pairs_sortableO (s := { s with heap := h₁ }) (by omega) (fun v hm => (hp v hm).keeps fun b o e _ => (kk b o e).2) fun o e => ?_
    have e' : some o = some (seqObj "list" vs.toArray 0) := e.symm.trans ha
    cases e'
    intro c
    exact absurd (Value.type.inj c) (by decide)
  · exact h _ _ out hs hb (fun b o e => sortedAll_old e) (Nat.le_succ _) (sortedAll_at s.heap vs out.toArray)
end
end SrtO
namespace EE
open PySem PySem.Spec PyProof.Rows L2
/-- the two ints that a tuple holds -/
def pairAt (h : Heap) : Value → Int × Int
  | .ref t => match h.get? t with
    | some o => match o.data with
      | .seq its _ => match its.toList with
        | [.int i _, .int j _] => (i, j)
        | _ => (0, 0)
      | _ => (0, 0)
    | none => (0, 0)
  | _ => (0, 0)
/-- sorted(xs), xs a tuple of pairs of ints -/
def rSortedTP (K : PySem.W.Frag) : List V → Hp → VK → Prop := fun vs H Q => ∃ (a : Addr) (xs : List V) (rs : List (Int × Int)), vs = [V.ref a] ∧ SqT K H a xs ∧ xs.length = rs.length ∧ (∀ p ∈ xs.zip rs, ∃ t, p.1 = V.ref t ∧ SqT K H t [.int p.2.1, .int p.2.2]) ∧
  ∀ ys rs' p, ys.length = rs'.length → (ys.zip rs').Perm (xs.zip rs) → rs'.Pairwise (fun x y => SrtO.lexB y x = false) → H p = none → Q (.ref p) (upd H p (.lst ys))
theorem zip_map {α β γ : Type} (f : α → β) (g : α → γ) : ∀ l : List α, (l.map f).zip (l.map g) = l.map fun x => (f x, g x)
  | [] => rfl
  | x :: l => by rw [List.map_cons, List.map_cons, List.zip_cons_cons, zip_map f g l, List.map_cons]
theorem cr_sortedTP {X : Cx} : CallR X (.builtin "sorted") (rSortedTP X.K) := by
  intro pins s σ H vs us Q I r h
  obtain ⟨a, xs, rs, rfl, hs, hlen, hx, q⟩ := h
  obtain ⟨its, rv, hl, hz⟩ := I.tuple hs
  obtain ⟨u, rfl, ru⟩ := vals1 r
  obtain rfl : u = Value.ref a := ru
  have hxr : ∀ x ∈ xs, ∃ t, x = V.ref t := fun x m => by
    obtain ⟨i, hi, e⟩ := List.mem_iff_getElem.mp m
    have hm : (xs[i], rs[i]'(by omega)) ∈ xs.zip rs := by
      have : (xs.zip rs)[i]'(by rw [List.length_zip]; omega) = (xs[i], rs[i]'(by omega)) := List.getElem_zip
      rw [← this]
      exact List.getElem_mem _
    obtain ⟨t, e2, _⟩ := hx _ hm
    exact ⟨t, e.symm.trans e2⟩
  obtain ⟨e1, e2⟩ := refs_back rv hxr
  -- what the heap says
  have look : ∀ p ∈ xs.zip rs, ∃ t, p.1 = V.ref t ∧ pairAt s.heap (.ref t) = p.2 ∧ Srt.IsPair s.heap (.ref t) p.2.1 p.2.2 := fun p hp => by
    obtain ⟨t, et, ht⟩ := hx p hp
    obtain ⟨its2, r2, ⟨o, ho, hc, n, hd⟩, _⟩ := I.tuple ht
    obtain ⟨u1, u2, rfl, ri, rj⟩ := vals2 r2
    obtain ⟨t1, rfl⟩ := ri
    obtain ⟨t2, rfl⟩ := rj
    refine ⟨t, et, ?_, ⟨t, o, t1, t2, n, rfl, ho, hc, hd⟩⟩
    show (match s.heap.get? t with
      | some o => match o.data with
        | .seq its _ => match its.toList with
          | [.int i _, .int j _] => (i, j)
          | _ => (0, 0)
        | _ => (0, 0)
      | none => (0, 0)) = p.2
    rw [ho]
    show (match o.data with
        | .seq its _ => match its.toList with
          | [.int i _, .int j _] => (i, j)
          | _ => (0, 0)
        | _ => ((0, 0) : Int × Int)) = p.2
    rw [hd]
  have hlv : its.length = rs.length := by rw [← rv.length]; exact hlen
  have zi : ∀ i (h1 : i < its.length), ∃ t, its[i] = Value.ref t ∧ pairAt s.heap its[i] = rs[i]'(by omega) ∧ Srt.IsPair s.heap its[i] (rs[i]'(by omega)).1 (rs[i]'(by omega)).2 := fun i h1 => by
    have hxl : i < xs.length := by omega
    have hm : (xs[i], rs[i]'(by omega)) ∈ xs.zip rs := by
      have : (xs.zip rs)[i]'(by rw [List.length_zip]; omega) = (xs[i], rs[i]'(by omega)) := List.getElem_zip
      rw [← this]
      exact List.getElem_mem _
    obtain ⟨t, et, p1, p2⟩ := look _ hm
    obtain ⟨t', et'⟩ := e2 _ (List.getElem_mem h1)
    have : xs[i] = backV its[i] := by
      have := congrArg (fun l : List V => l[i]?) e1
      simpa [hxl, h1] using this
    rw [et'] at this
    have e3 : V.ref t = V.ref t' := et.symm.trans this
    cases e3
    rw [et']
    exact ⟨t, rfl, p1, p2⟩
  have er : rs = its.map (pairAt s.heap) := by
    refine List.ext_getElem (by rw [List.length_map]; omega) fun i h1 h2 => ?_
    rw [List.getElem_map]
    obtain ⟨_, _, e, _⟩ := zi i (by omega)
    exact e.symm
  have ez : xs.zip rs = its.map fun u => (backV u, pairAt s.heap u) := by
    rw [e1, er, zip_map]
  refine SrtO.sorted_pairsT (k := pairAt s.heap) hl (by rw [← rv.length]; exact hz) (fun v hv => ?_) fun h' d out h1 h2 kp hd hn => ?_
  · obtain ⟨i, hi, e⟩ := List.mem_iff_getElem.mp hv
    obtain ⟨_, _, e3, e4⟩ := zi i hi
    rw [← e, e3]
    exact e4
  · have h3 : ∀ u ∈ out, ∃ a, u = Value.ref a := fun u hu => e2 u (h2.perm.mem_iff.mp hu)
    obtain ⟨n, hn⟩ := hn
    refine ⟨.ref d, upd H d (.lst (out.map backV)), I.laid (t' := s.toks) kp hd ⟨?_, out, n, vals_back h3, hn⟩, rfl, q _ (out.map (pairAt s.heap)) d (by rw [List.length_map, List.length_map]) ?_ (List.pairwise_map.mpr h1) (I.hok.fresh hd)⟩
    · rw [List.length_map, h2.perm.length_eq, ← rv.length]
      exact hz
    · rw [zip_map, ez]
      exact h2.perm.map _
end EE

namespace EE
open PySem PySem.Spec PyProof.Rows L2
/-! ### the mathematics -/
abbrev Rule := Int × Int
def ruleD (r : Rule) : D := .tuple [.int r.1, .int r.2]
def scaleD (rs : List Rule) : D := .tuple (rs.map ruleD)
def fitR (r : Rule) (n : Int) : Bool := decide ((if n < 0 then -n else n) ≤ r.1) || (!decide (r.2 = 0) && decide (n % r.2 = 0))
def fitsAll (rs : List Rule) (n : Int) : Bool := rs.all fun r => fitR r n
def sp_law_deck (K : PySem.W.Frag) : Sp := fun vs H Q _ => ∃ (a : Addr) (ns : List Int), vs = [.ref a] ∧ SqL K H a (ns.map V.int) ∧ ns.length ≤ 63 ∧ ∀ H' d l, St K H' (some (d, l)) [] [] → Q (.ref d) H'
def sp_law_draw (K : PySem.W.Frag) : Sp := fun vs H Q _ => ∃ (d l : Addr) (m : Int) (Γ : List (Addr × List D)) (Δ : List (V × D)), vs = [.ref d, .int m] ∧ St K H (some (d, l)) Γ Δ ∧ m.natAbs < 2 ^ 8000 ∧
  ∀ H' r, St K H' (some (d, l)) Γ Δ → 0 ≤ r → (r < m ∨ r = 0) → Q (.int r) H'
def sp_law_pick (K : PySem.W.Frag) : Sp := fun vs H Q _ => ∃ (d l a : Addr) (ds : List D) (Γ : List (Addr × List D)) (Δ : List (V × D)), vs = [.ref d, .ref a] ∧ St K H (some (d, l)) Γ Δ ∧ (V.ref a, PyData.list ds) ∈ Δ ∧ ds ≠ [] ∧ ds.length ≤ 10000 ∧
  ∀ H' v x, x ∈ ds → St K H' (some (d, l)) Γ ((v, x) :: Δ) → Q v H'
/-! ### draws and picks as steps -/
section
variable {K : PySem.W.Frag} {B : List (V × D)} {σ : L2.St} {H : Hp} {d l : Addr} {Γ : List (Addr × List D)} {Δ : List (V × D)} {te : TE} {ds : List D} {m : Int} {Q : VK} {E : XK} {i : Nat}
theorem go_draw (e : σ[i]? = some (some (.ref d))) (h : EvD K B te σ (.int m)) (hb : Sub B Δ) (hS : St K H (some (d, l)) Γ Δ) (hm : m.natAbs < 2 ^ 8000) (q : ∀ H' r, St K H' (some (d, l)) Γ Δ → 0 ≤ r → (r < m ∨ r = 0) → Q (.int r) H') :
    tCall (sp_law_draw K) [] E (tCons (tVar i) (tCons te tNil)) σ H Q :=
  ⟨_, e, h H _ Γ Δ _ hb hS fun v H1 Δ1 s1 hS1 d1 => by
    obtain rfl := d1.isInt hS1
    exact ⟨d, l, m, Γ, Δ, rfl, hS1.weaken s1, hm, q⟩⟩
theorem go_pick (e : σ[i]? = some (some (.ref d))) (h : EvD K B te σ (.list ds)) (hb : Sub B Δ) (hS : St K H (some (d, l)) Γ Δ) (hne : ds ≠ []) (hz : ds.length ≤ 10000) (q : ∀ H' v x, x ∈ ds → St K H' (some (d, l)) Γ ((v, x) :: Δ) → Q v H') :
    tCall (sp_law_pick K) [] E (tCons (tVar i) (tCons te tNil)) σ H Q :=
  ⟨_, e, h.go hb hS fun v H1 hS1 => by
    obtain ⟨a, rfl⟩ := hS1.lref_of (List.mem_cons_self ..)
    exact ⟨d, l, a, ds, Γ, _, rfl, hS1, List.mem_cons_self .., hne, hz, fun H' v x hx hS2 => q H' v x hx (hS2.weaken fun y hy => by
      rcases List.mem_cons.mp hy with rfl | hy
      · exact List.mem_cons_self ..
      · exact List.mem_cons_of_mem _ (List.mem_cons_of_mem _ hy))⟩⟩
end
theorem small8000 {m : Int} (h0 : 0 ≤ m) (h : m ≤ 10 ^ 70) : m.natAbs < 2 ^ 8000 := by
  have e : (10 : Nat) ^ 70 < 2 ^ 8000 := by decide +kernel
  have : m.natAbs ≤ 10 ^ 70 := by omega
  exact Nat.lt_of_le_of_lt this e
def unrule : D → Rule
  | .tuple [.int a, .int b] => (a, b)
  | _ => (0, 0)
theorem perm_rules {es : List D} {rs : List Rule} (h : es.Perm (rs.map ruleD)) : ∃ rs' : List Rule, es = rs'.map ruleD ∧ rs'.Perm rs := by
  refine ⟨es.map unrule, ?_, ?_⟩
  · have hall : ∀ e ∈ es, (ruleD ∘ unrule) e = e := fun e he => by
      obtain ⟨r, _, rfl⟩ := List.mem_map.mp (h.subset he)
      rfl
    rw [List.map_map, List.map_congr_left hall]
    exact (List.map_id' es).symm
  · have g := h.map unrule
    rw [List.map_map] at g
    have e : rs.map (unrule ∘ ruleD) = rs := by
      have : (unrule ∘ ruleD) = id := by
        funext r
        rfl
      rw [this, List.map_id]
    rw [e] at g
    exact g
theorem lay_rules (rs : List Rule) : Lay 60 (rs.map ruleD) := lay_of fun d hd => by
  obtain ⟨r, _, rfl⟩ := List.mem_map.mp hd
  unfold ruleD
  exact ⟨by simp [PyData.canLay0, PyData.canLayAll0], by simp [PyData.depth, PyData.depthAll]⟩
theorem cut_take (xs : List V) (n : Nat) : cutV xs none (some (n : Int)) = xs.take n := by
  unfold cutV
  rw [HT.sIx_nat, HT.sIx_none, List.drop_zero, Nat.sub_zero]
  by_cases h : n ≤ xs.length
  · rw [Nat.min_eq_left h]
  · rw [Nat.min_eq_right (by omega), List.take_of_length_le (Nat.le_refl _), List.take_of_length_le (by omega)]
/-- found != [] -/
theorem go_ne {K : PySem.W.Frag} {σ : L2.St} {H : Hp} {dk : Dk} {Γ : List (Addr × List D)} {Δ : List (V × D)} {f : Addr} {rs : List Rule} {i : Nat} {Q : VK} (e : σ[i]? = some (some (.ref f))) (hS : St K H dk ((f, rs.map ruleD) :: Γ) Δ)
    (q : ∀ H', St K H' dk ((f, rs.map ruleD) :: Γ) Δ → Q (.bl (!rs.isEmpty)) H') : tOp (rNeD K) (tVar i) (tLst tNil) σ H Q := by
  refine ⟨_, e, Nat.zero_le _, fun u hu => ?_⟩
  have hS6 := hS.lst (ds := []) hu .nil
  refine ne_nil_list (ds := rs.map ruleD) ((hS6.weaken (Δ' := []) fun _ h => nomatch h).freeze.dp (.of (List.mem_cons_self ..))) (.lst (SqL.of upd_same) .nil) (lay_rules rs) ?_
  rw [List.isEmpty_map]
  exact q _ (hS6.weaken fun _ => List.mem_cons_of_mem _)

theorem dv_ints {Δ : List (V × D)} : ∀ ns : List Int, DvAll Δ (ns.map V.int) (ns.map PyData.int)
  | [] => .nil
  | n :: ns => .cons (.int n) (dv_ints ns)
/-! ### sorted scales -/
def SortedR (rs : List Rule) : Prop := rs.Pairwise fun x y => SrtO.lexB y x = false
theorem dv_zip {Δ : List (V × D)} : ∀ {xs : List V} {rs : List Rule}, xs.length = rs.length → (∀ p ∈ xs.zip rs, Dv Δ p.1 (ruleD p.2)) → DvAll Δ xs (rs.map ruleD)
  | [], [], _, _ => .nil
  | x :: xs, r :: rs, h, g => .cons (g (x, r) (List.mem_cons_self ..)) (dv_zip (Nat.succ.inj h) fun p hp => g p (List.mem_cons_of_mem _ hp))
theorem zip_dv {Δ : List (V × D)} : ∀ {xs : List V} {rs : List Rule}, DvAll Δ xs (rs.map ruleD) → ∀ p ∈ xs.zip rs, Dv Δ p.1 (ruleD p.2)
  | [], [], _, p, hp => nomatch hp
  | [], _ :: _, h, _, _ => nomatch h
  | _ :: _, [], h, _, _ => nomatch h
  | x :: xs, r :: rs, .cons h1 h2, p, hp => by
    rcases List.mem_cons.mp hp with rfl | hp
    · exact h1
    · exact zip_dv h2 p hp
theorem perm_snd {xs ys : List V} {rs rs' : List Rule} (h1 : ys.length = rs'.length) (h2 : xs.length = rs.length) (h : (ys.zip rs').Perm (xs.zip rs)) : rs'.Perm rs := by
  have e : ∀ {zs : List V} {qs : List Rule}, zs.length = qs.length → (zs.zip qs).map Prod.snd = qs := fun {zs qs} h => List.map_snd_zip (by omega)
  have g := h.map Prod.snd
  rw [e h1, e h2] at g
  exact g
/-- what sorted() of a scale asks and gives -/
theorem St.sortT {K : PySem.W.Frag} {H : Hp} {dk : Dk} {Γ : List (Addr × List D)} {Δ : List (V × D)} {a : Addr} {rs : List Rule} (hS : St K H dk Γ Δ) (hm : (V.ref a, scaleD rs) ∈ Δ) :
    ∃ xs, SqT K H a xs ∧ xs.length = rs.length ∧ (∀ p ∈ xs.zip rs, ∃ t, p.1 = V.ref t ∧ SqT K H t [.int p.2.1, .int p.2.2]) ∧
      ∀ ys rs' p, ys.length = rs'.length → (ys.zip rs').Perm (xs.zip rs) → H p = none → rs'.Perm rs ∧ St K (upd H p (.lst ys)) dk ((p, rs'.map ruleD) :: Γ) Δ := by
  obtain ⟨xs, hT, hlen, Δ', rfl, hS', hv⟩ := hS.tupAt hm
  have hl : xs.length = rs.length := by rw [hlen, List.length_map]
  have hz := zip_dv hv
  refine ⟨xs, hT, hl, fun p hp => ?_, fun ys rs' p h1 h2 h3 => ⟨perm_snd h1 hl h2, ?_⟩⟩
  · have d := hz p hp
    obtain ⟨t, et⟩ := d.isRef hS' trivial
    rw [et] at d
    exact ⟨t, et, (hS'.also d).pair (List.mem_cons_self ..)⟩
  · exact (hS'.make h3 (dv_zip h1 fun q hq => hz q (h2.mem_iff.mp hq))).weaken fun x hx => List.mem_append_right _ hx
/-! ### stretches -/
abbrev Row := Int × Option Int × Nat
def optD : Option Int → D
  | none => .none
  | some i => .int i
def optV : Option Int → V
  | none => .non
  | some i => .int i
def rowD (r : Row) : D := .tuple [.int r.1, optD r.2.1, .int (r.2.2 : Int)]
def rowsOf (low : Int) (c : Nat) : List Rule → List Row
  | [] => [(low, none, c)]
  | r :: L => (low, some r.1, c) :: if r.2 = 0 then [] else rowsOf (r.1 + 1) (Nat.lcm c r.2.natAbs) L
theorem dv_opt {Δ : List (V × D)} {o : Option Int} : Dv Δ (optV o) (optD o) := by
  cases o with
  | none => exact .non
  | some i => exact .int i
theorem is_opt {K : PySem.W.Frag} {H : Hp} {dk : Dk} {Γ : List (Addr × List D)} {Δ : List (V × D)} {v : V} {o : Option Int} (hS : St K H dk Γ Δ) (h : Dv Δ v (optD o)) : v = optV o := by
  cases o with
  | none => exact h.isNon hS
  | some i => exact h.isInt hS
theorem St.row {K : PySem.W.Frag} {H : Hp} {dk : Dk} {Γ : List (Addr × List D)} {Δ : List (V × D)} {a : Addr} {r : Row} (hS : St K H dk Γ Δ) (hm : (V.ref a, rowD r) ∈ Δ) : SqT K H a [.int r.1, optV r.2.1, .int (r.2.2 : Int)] := by
  obtain ⟨vs, hT, hlen, Δ', rfl, hS', hv⟩ := hS.tupAt hm
  cases hv with | cons d1 v1 => cases v1 with | cons d2 v2 => cases v2 with | cons d3 v3 =>
  cases v3
  obtain rfl := d1.isInt hS'
  obtain rfl := is_opt hS' d2
  obtain rfl := d3.isInt hS'
  exact hT
end EE

namespace EE
open PySem PySem.Spec PyProof.Rows L2
/-! ### counting -/
def cntP (P : Int → Bool) (a : Int) : Nat → Nat
  | 0 => 0
  | k + 1 => cntP P a k + if P (a + k) = true then 1 else 0
theorem cnt_congr {P Q : Int → Bool} {a : Int} : ∀ {k : Nat}, (∀ i : Int, a ≤ i → i < a + k → P i = Q i) → cntP P a k = cntP Q a k
  | 0, _ => rfl
  | k + 1, h => by
    show cntP P a k + _ = cntP Q a k + _
    rw [cnt_congr fun i h1 h2 => h i h1 (by omega), h (a + k) (by omega) (by omega)]
theorem cnt_zero {P : Int → Bool} {a : Int} : ∀ {k : Nat}, (∀ i : Int, a ≤ i → i < a + k → P i = false) → cntP P a k = 0
  | 0, _ => rfl
  | k + 1, h => by
    show cntP P a k + (if P (a + k) = true then 1 else 0) = 0
    rw [cnt_zero fun i h1 h2 => h i h1 (by omega), h (a + k) (by omega) (by omega)]
    rfl
theorem cnt_add {P : Int → Bool} {a : Int} {j : Nat} : ∀ {k : Nat}, cntP P a (j + k) = cntP P a j + cntP P (a + j) k
  | 0 => rfl
  | k + 1 => by
    show cntP P a (j + k) + (if P (a + (j + k : Nat)) = true then 1 else 0) = cntP P a j + (cntP P (a + j) k + if P (a + j + k) = true then 1 else 0)
    rw [cnt_add, show a + ((j + k : Nat) : Int) = a + j + k by omega, Nat.add_assoc]
theorem cnt_one {P : Int → Bool} {a : Int} : cntP P a 1 = if P a = true then 1 else 0 := by
  show 0 + (if P (a + (0 : Nat)) = true then 1 else 0) = _
  rw [Nat.zero_add, show a + ((0 : Nat) : Int) = a by omega]
theorem cnt_head {P : Int → Bool} {a : Int} {k : Nat} : cntP P a (k + 1) = (if P a = true then 1 else 0) + cntP P (a + 1) k := by
  rw [Nat.add_comm k 1, cnt_add, cnt_one]
  rfl
theorem cnt_mirror {P : Int → Bool} (hP : ∀ i, P (-i) = P i) : ∀ {k : Nat} {a : Int}, cntP P (-(a + k - 1)) k = cntP P a k
  | 0, _ => rfl
  | k + 1, a => by
    have e : -(a + ((k + 1 : Nat) : Int) - 1) = -(a + k) := by omega
    rw [e, cnt_head, hP (a + k), show -(a + (k : Int)) + 1 = -(a + k - 1) by omega, cnt_mirror hP]
    show _ = cntP P a k + (if P (a + k) = true then 1 else 0)
    omega
def mulP (c : Nat) (n : Int) : Bool := decide (n % (c : Int) = 0)
theorem div_step {c : Int} (hc : 0 < c) (m : Int) : (m + 1) / c = m / c + if (m + 1) % c = 0 then 1 else 0 := by
  have h1 := Int.emod_add_mul_ediv m c
  have h2 := Int.emod_nonneg m (show c ≠ 0 by omega)
  have h3 := Int.emod_lt_of_pos m hc
  by_cases h : m % c + 1 = c
  · obtain ⟨q1, q2⟩ := (Int.ediv_emod_unique (a := m + 1) (r := 0) (q := m / c + 1) hc).mpr ⟨by rw [Int.mul_add, Int.mul_one]; omega, Int.le_refl 0, hc⟩
    rw [q1, q2, if_pos rfl]
  · obtain ⟨q1, q2⟩ := (Int.ediv_emod_unique (a := m + 1) (r := m % c + 1) (q := m / c) hc).mpr ⟨by omega, by omega, by omega⟩
    rw [q1, q2, if_neg (by omega), Int.add_zero]
theorem cnt_mult {c : Nat} (hc : 0 < c) {a : Int} : ∀ {k : Nat}, (cntP (mulP c) a k : Int) = (a + k - 1) / (c : Int) - (a - 1) / (c : Int)
  | 0 => by
    show (0 : Int) = _
    rw [show a + ((0 : Nat) : Int) - 1 = a - 1 by omega]
    omega
  | k + 1 => by
    have ih := cnt_mult (c := c) hc (a := a) (k := k)
    have st := div_step (c := (c : Int)) (by omega) (a + k - 1)
    rw [show a + (k : Int) - 1 + 1 = a + k by omega] at st
    rw [show a + ((k + 1 : Nat) : Int) - 1 = a + k by omega, st]
    show ((cntP (mulP c) a k + (if mulP c (a + k) = true then 1 else 0) : Nat) : Int) = _
    rw [Int.natCast_add, ih]
    unfold mulP
    by_cases h : (a + (k : Int)) % (c : Int) = 0
    · rw [if_pos h, decide_eq_true h, if_pos rfl]
      omega
    · rw [if_neg h, decide_eq_false h, if_neg Bool.false_ne_true]
      omega
/-! ### what fits, stretch by stretch -/
def FitC (c : Nat) (L : List Rule) (n : Int) : Bool := mulP c n && fitsAll L n
def Asc (L : List Rule) : Prop := L.Pairwise fun x y => x.1 ≤ y.1
theorem asc_of {L : List Rule} (h : SortedR L) : Asc L := h.imp fun {x y} g => by
  have := SrtO.lexB_no.mp g
  omega
theorem fit_pos {r : Rule} {n : Int} (h : 0 ≤ n) : fitR r n = (decide (n ≤ r.1) || (!decide (r.2 = 0) && decide (n % r.2 = 0))) := by
  unfold fitR
  rw [if_neg (by omega)]
theorem fits_low {L : List Rule} {n b : Int} (h0 : 0 ≤ n) (h1 : n ≤ b) (h : ∀ r ∈ L, b ≤ r.1) : fitsAll L n = true := by
  unfold fitsAll
  rw [List.all_eq_true]
  intro r hr
  have := h r hr
  rw [fit_pos h0, decide_eq_true (show n ≤ r.1 by omega)]
  rfl
theorem fitc_low {c : Nat} {r : Rule} {L : List Rule} {n : Int} (hA : Asc (r :: L)) (h0 : 0 ≤ n) (h1 : n ≤ r.1) : FitC c (r :: L) n = mulP c n := by
  unfold FitC
  rw [fits_low (b := r.1) h0 h1 fun q hq => ?_, Bool.and_true]
  rcases List.mem_cons.mp hq with rfl | hq
  · exact Int.le_refl _
  · exact (List.pairwise_cons.mp hA).1 q hq
theorem fits_cons {r : Rule} {L : List Rule} {n : Int} : fitsAll (r :: L) n = (fitR r n && fitsAll L n) := rfl
theorem fitc_stop {c : Nat} {r : Rule} {L : List Rule} {n : Int} (h0 : 0 ≤ n) (h1 : r.1 < n) (hz : r.2 = 0) : FitC c (r :: L) n = false := by
  unfold FitC
  rw [fits_cons, fit_pos h0, decide_eq_false (by omega), decide_eq_true hz]
  simp
theorem lcm_mul {c s : Nat} {n : Int} : mulP (Nat.lcm c s) n = (mulP c n && mulP s n) := by
  unfold mulP
  rw [Bool.eq_iff_iff, Bool.and_eq_true, decide_eq_true_eq, decide_eq_true_eq, decide_eq_true_eq, ← Int.dvd_iff_emod_eq_zero, ← Int.dvd_iff_emod_eq_zero, ← Int.dvd_iff_emod_eq_zero]
  rw [← Int.natAbs_dvd_natAbs, ← Int.natAbs_dvd_natAbs, ← Int.natAbs_dvd_natAbs, Int.natAbs_natCast, Int.natAbs_natCast, Int.natAbs_natCast]
  exact Nat.lcm_dvd_iff
theorem fitc_go {c : Nat} {r : Rule} {L : List Rule} {n : Int} (h0 : 0 ≤ n) (h1 : r.1 < n) (hz : r.2 ≠ 0) (hp : 0 ≤ r.2) : FitC c (r :: L) n = FitC (Nat.lcm c r.2.natAbs) L n := by
  unfold FitC
  rw [fits_cons, fit_pos h0, decide_eq_false (by omega), decide_eq_false hz, lcm_mul]
  have e : decide (n % r.2 = 0) = mulP r.2.natAbs n := by
    unfold mulP
    rw [Int.natAbs_of_nonneg hp]
  rw [e, Bool.false_or, Bool.not_false, Bool.true_and, Bool.and_assoc]
/-- the bounds stand in order, from low on -/
structure RowsOk (low : Int) (c : Nat) (L : List Rule) : Prop where
  asc : Asc L
  low0 : 0 ≤ low
  c0 : 0 < c
  all : ∀ r ∈ L, low ≤ r.1 + 1 ∧ 0 ≤ r.1 ∧ 0 ≤ r.2
theorem RowsOk.tail {low : Int} {c : Nat} {r : Rule} {L : List Rule} (h : RowsOk low c (r :: L)) (hz : r.2 ≠ 0) : RowsOk (r.1 + 1) (Nat.lcm c r.2.natAbs) L := by
  obtain ⟨_, r1, r2⟩ := h.all r (List.mem_cons_self ..)
  refine ⟨(List.pairwise_cons.mp h.asc).2, by omega, Nat.lcm_pos h.c0 (by omega), fun q hq => ?_⟩
  have := (List.pairwise_cons.mp h.asc).1 q hq
  obtain ⟨_, q1, q2⟩ := h.all q (List.mem_cons_of_mem _ hq)
  exact ⟨by omega, q1, q2⟩
def lesserI (top : Int) : Option Int → Int
  | none => top
  | some h => if h < top then h else top
def manyR (top : Int) : List Row → Int
  | [] => 0
  | r :: R => (if r.1 ≤ lesserI top r.2.1 then lesserI top r.2.1 / (r.2.2 : Int) - (r.1 - 1) / (r.2.2 : Int) else 0) + manyR top R
theorem many_first {low m : Int} {c : Nat} (hc : 0 < c) : (if low ≤ m then m / (c : Int) - (low - 1) / (c : Int) else 0) = (cntP (mulP c) low (m - low + 1).toNat : Int) := by
  by_cases h : low ≤ m
  · rw [if_pos h, cnt_mult hc, show low + ((m - low + 1).toNat : Int) - 1 = m by omega]
  · rw [if_neg h, show (m - low + 1).toNat = 0 by omega]
    rfl
theorem many_rows {top : Int} : ∀ {L : List Rule} {low : Int} {c : Nat}, RowsOk low c L → manyR top (rowsOf low c L) = (cntP (FitC c L) low (top - low + 1).toNat : Int)
  | [], low, c, h => by
    show (if low ≤ top then top / (c : Int) - (low - 1) / (c : Int) else 0) + 0 = _
    rw [Int.add_zero, many_first h.c0]
    congr 1
    refine cnt_congr fun i _ _ => ?_
    unfold FitC
    rw [show fitsAll [] i = true from rfl, Bool.and_true]
  | r :: L, low, c, h => by
    obtain ⟨r0, r1, r2⟩ := h.all r (List.mem_cons_self ..)
    have l0 := h.low0
    show (if low ≤ lesserI top (some r.1) then lesserI top (some r.1) / (c : Int) - (low - 1) / (c : Int) else 0) + manyR top (if r.2 = 0 then [] else rowsOf (r.1 + 1) (Nat.lcm c r.2.natAbs) L) = _
    rw [many_first h.c0]
    by_cases ht : r.1 < top
    · have e1 : lesserI top (some r.1) = r.1 := if_pos ht
      rw [e1, show (top - low + 1).toNat = (r.1 - low + 1).toNat + (top - (r.1 + 1) + 1).toNat by omega, cnt_add, Int.natCast_add, show low + ((r.1 - low + 1).toNat : Int) = r.1 + 1 by omega]
      congr 1
      · congr 1
        exact cnt_congr fun i h1 h2 => (fitc_low h.asc (by omega) (by omega)).symm
      · by_cases hz : r.2 = 0
        · rw [if_pos hz, cnt_zero fun i h1 h2 => fitc_stop (by omega) (by omega) hz]
          rfl
        · rw [if_neg hz, many_rows (h.tail hz)]
          congr 1
          exact cnt_congr fun i h1 h2 => (fitc_go (by omega) (by omega) hz r2).symm
    · have e1 : lesserI top (some r.1) = top := if_neg ht
      rw [e1]
      have e2 : manyR top (if r.2 = 0 then [] else rowsOf (r.1 + 1) (Nat.lcm c r.2.natAbs) L) = 0 := by
        by_cases hz : r.2 = 0
        · rw [if_pos hz]
          rfl
        · rw [if_neg hz, many_rows (h.tail hz), show (top - (r.1 + 1) + 1).toNat = 0 by omega]
          rfl
      rw [e2, Int.add_zero]
      congr 1
      exact cnt_congr fun i h1 h2 => (fitc_low h.asc (by omega) (by omega)).symm
/-! ### the least from a number on -/
def IsLeastP (P : Int → Bool) (a : Int) (o : Option Int) : Prop :=
  match o with
  | some m => a ≤ m ∧ P m = true ∧ ∀ k, a ≤ k → k < m → P k = false
  | none => ∀ k, a ≤ k → P k = false
theorem least_uniq {P : Int → Bool} {a : Int} {o o' : Option Int} (h : IsLeastP P a o) (h' : IsLeastP P a o') : o = o' := by
  cases o with
  | none =>
    cases o' with
    | none => rfl
    | some m => exact absurd (h m h'.1) (by rw [h'.2.1]; decide)
  | some m =>
    cases o' with
    | none => exact absurd (h' m h.1) (by rw [h.2.1]; decide)
    | some m' =>
      by_cases c : m < m'
      · exact absurd (h'.2.2 m h.1 c) (by rw [h.2.1]; decide)
      · by_cases c2 : m' < m
        · exact absurd (h.2.2 m' h'.1 c2) (by rw [h'.2.1]; decide)
        · congr 1
          omega
def firstMul (c : Nat) (low : Int) : Int := (low + (c : Int) - 1) / (c : Int) * (c : Int)
theorem first_mul {c : Nat} (hc : 0 < c) (a : Int) : a ≤ firstMul c a ∧ mulP c (firstMul c a) = true ∧ ∀ k, a ≤ k → k < firstMul c a → mulP c k = false := by
  have hc' : (0 : Int) < c := by omega
  unfold firstMul mulP
  have h1 := Int.emod_add_mul_ediv (a + (c : Int) - 1) c
  have h2 := Int.emod_nonneg (a + (c : Int) - 1) (show (c : Int) ≠ 0 by omega)
  have h3 := Int.emod_lt_of_pos (a + (c : Int) - 1) hc'
  rw [Int.mul_comm] at h1
  generalize (a + (c : Int) - 1) / (c : Int) = q at h1
  refine ⟨by omega, decide_eq_true (Int.mul_emod_left _ _), fun k k1 k2 => decide_eq_false fun e => ?_⟩
  obtain ⟨j, rfl⟩ := Int.dvd_of_emod_eq_zero e
  have hq : (q - 1) * (c : Int) < j * c := by
    rw [Int.sub_mul, Int.one_mul, Int.mul_comm j]
    omega
  have hq2 : j * (c : Int) < q * c := by
    rw [Int.mul_comm j]
    omega
  have a1 := Int.lt_of_mul_lt_mul_right hq (by omega)
  have a2 := Int.lt_of_mul_lt_mul_right hq2 (by omega)
  omega
def maxI (a b : Int) : Int := if b > a then b else a
def leastR (num : Int) : List Row → Option Int
  | [] => none
  | r :: R => match r.2.1 with
    | none => some (firstMul r.2.2 (maxI r.1 num))
    | some h => if firstMul r.2.2 (maxI r.1 num) ≤ h then some (firstMul r.2.2 (maxI r.1 num)) else leastR num R
theorem least_rows {num : Int} : ∀ {L : List Rule} {low : Int} {c : Nat}, RowsOk low c L → IsLeastP (FitC c L) (maxI low num) (leastR num (rowsOf low c L))
  | [], low, c, h => by
    obtain ⟨f1, f2, f3⟩ := first_mul h.c0 (maxI low num)
    have e : ∀ i, FitC c [] i = mulP c i := fun i => by
      unfold FitC
      rw [show fitsAll [] i = true from rfl, Bool.and_true]
    exact ⟨f1, by rw [e]; exact f2, fun k h1 h2 => by rw [e]; exact f3 k h1 h2⟩
  | r :: L, low, c, h => by
    obtain ⟨r0, r1, r2⟩ := h.all r (List.mem_cons_self ..)
    have l0 := h.low0
    obtain ⟨f1, f2, f3⟩ := first_mul h.c0 (maxI low num)
    have m0 : low ≤ maxI low num := by unfold maxI; split <;> omega
    show IsLeastP (FitC c (r :: L)) (maxI low num) (if firstMul c (maxI low num) ≤ r.1 then some (firstMul c (maxI low num)) else leastR num (if r.2 = 0 then [] else rowsOf (r.1 + 1) (Nat.lcm c r.2.natAbs) L))
    by_cases hf : firstMul c (maxI low num) ≤ r.1
    · rw [if_pos hf]
      exact ⟨f1, by rw [fitc_low h.asc (by omega) hf]; exact f2, fun k h1 h2 => by rw [fitc_low h.asc (by omega) (by omega)]; exact f3 k h1 h2⟩
    · rw [if_neg hf]
      have hlow : ∀ k, maxI low num ≤ k → k ≤ r.1 → FitC c (r :: L) k = false := fun k h1 h2 => by
        rw [fitc_low h.asc (by omega) h2]
        exact f3 k h1 (by omega)
      by_cases hz : r.2 = 0
      · rw [if_pos hz]
        show ∀ k, maxI low num ≤ k → FitC c (r :: L) k = false
        intro k hk
        by_cases hkr : k ≤ r.1
        · exact hlow k hk hkr
        · exact fitc_stop (by omega) (by omega) hz
      · rw [if_neg hz]
        have ih := least_rows (num := num) (h.tail hz)
        have mm : ∀ k, maxI low num ≤ k → r.1 < k → maxI (r.1 + 1) num ≤ k := fun k h1 h2 => by
          unfold maxI at h1 ⊢
          split at h1 <;> split <;> omega
        have mn : maxI low num ≤ maxI (r.1 + 1) num ∧ r.1 < maxI (r.1 + 1) num := by
          unfold maxI
          split <;> split <;> omega
        cases e : leastR num (rowsOf (r.1 + 1) (Nat.lcm c r.2.natAbs) L) with
        | none =>
          rw [e] at ih
          show ∀ k, maxI low num ≤ k → FitC c (r :: L) k = false
          intro k hk
          by_cases hkr : k ≤ r.1
          · exact hlow k hk hkr
          · rw [fitc_go (by omega) (by omega) hz r2]
            exact ih k (mm k hk (by omega))
        | some m =>
          rw [e] at ih
          obtain ⟨i1, i2, i3⟩ := ih
          refine ⟨by omega, ?_, fun k h1 h2 => ?_⟩
          · rw [fitc_go (by omega) (by omega) hz r2]
            exact i2
          · by_cases hkr : k ≤ r.1
            · exact hlow k h1 hkr
            · rw [fitc_go (by omega) (by omega) hz r2]
              exact i3 k (mm k h1 (by omega)) h2
/-! ### the greatest up to a number -/
def greatR (num : Int) : Int → List Row → Int
  | g, [] => g
  | g, r :: R => greatR num (if lesserI num r.2.1 / (r.2.2 : Int) * (r.2.2 : Int) ≥ r.1 then lesserI num r.2.1 / (r.2.2 : Int) * (r.2.2 : Int) else g) R
def IsGreatP (P : Int → Bool) (a b g res : Int) : Prop := (a ≤ res ∧ res ≤ b ∧ P res = true ∧ ∀ k, res < k → k ≤ b → P k = false) ∨ (res = g ∧ ∀ k, a ≤ k → k ≤ b → P k = false)
theorem last_mul {c : Nat} (hc : 0 < c) (b : Int) : b / (c : Int) * c ≤ b ∧ mulP c (b / (c : Int) * c) = true ∧ ∀ k, b / (c : Int) * c < k → k ≤ b → mulP c k = false := by
  have hc' : (0 : Int) < c := by omega
  unfold mulP
  have h1 := Int.emod_add_mul_ediv b c
  have h2 := Int.emod_nonneg b (show (c : Int) ≠ 0 by omega)
  have h3 := Int.emod_lt_of_pos b hc'
  rw [Int.mul_comm] at h1
  generalize b / (c : Int) = q at h1
  refine ⟨by omega, decide_eq_true (Int.mul_emod_left _ _), fun k k1 k2 => decide_eq_false fun e => ?_⟩
  obtain ⟨j, rfl⟩ := Int.dvd_of_emod_eq_zero e
  have hq : q * (c : Int) < j * c := by
    rw [Int.mul_comm j]
    exact k1
  have hq2 : j * (c : Int) < (q + 1) * c := by
    rw [Int.add_mul, Int.one_mul, Int.mul_comm j]
    omega
  have a1 := Int.lt_of_mul_lt_mul_right hq (by omega)
  have a2 := Int.lt_of_mul_lt_mul_right hq2 (by omega)
  omega
theorem great_first {c : Nat} (hc : 0 < c) {low m g : Int} : IsGreatP (mulP c) low m g (if m / (c : Int) * (c : Int) ≥ low then m / (c : Int) * (c : Int) else g) := by
  obtain ⟨f1, f2, f3⟩ := last_mul hc m
  by_cases h : m / (c : Int) * (c : Int) ≥ low
  · rw [if_pos h]
    exact Or.inl ⟨h, f1, f2, f3⟩
  · rw [if_neg h]
    exact Or.inr ⟨rfl, fun k h1 h2 => f3 k (by omega) h2⟩
theorem great_rows {num : Int} : ∀ {L : List Rule} {low : Int} {c : Nat} {g : Int}, RowsOk low c L → IsGreatP (FitC c L) low num g (greatR num g (rowsOf low c L))
  | [], low, c, g, h => by
    have e : ∀ i, FitC c [] i = mulP c i := fun i => by
      unfold FitC
      rw [show fitsAll [] i = true from rfl, Bool.and_true]
    have e2 : FitC c [] = mulP c := funext e
    rw [e2]
    exact great_first h.c0
  | r :: L, low, c, g, h => by
    obtain ⟨r0, r1, r2⟩ := h.all r (List.mem_cons_self ..)
    have l0 := h.low0
    show IsGreatP (FitC c (r :: L)) low num g (greatR num (if lesserI num (some r.1) / (c : Int) * (c : Int) ≥ low then lesserI num (some r.1) / (c : Int) * (c : Int) else g) (if r.2 = 0 then [] else rowsOf (r.1 + 1) (Nat.lcm c r.2.natAbs) L))
    have gf := great_first h.c0 (low := low) (m := lesserI num (some r.1)) (g := g)
    generalize (if lesserI num (some r.1) / (c : Int) * (c : Int) ≥ low then lesserI num (some r.1) / (c : Int) * (c : Int) else g) = g1 at gf
    have hm : lesserI num (some r.1) ≤ r.1 ∧ lesserI num (some r.1) ≤ num ∧ ∀ k, k ≤ num → k ≤ r.1 → k ≤ lesserI num (some r.1) := by
      show (if r.1 < num then r.1 else num) ≤ r.1 ∧ (if r.1 < num then r.1 else num) ≤ num ∧ ∀ k, k ≤ num → k ≤ r.1 → k ≤ (if r.1 < num then r.1 else num)
      split
      · exact ⟨Int.le_refl _, by omega, fun k _ h => h⟩
      · exact ⟨by omega, Int.le_refl _, fun k h _ => h⟩
    generalize lesserI num (some r.1) = m at gf hm
    obtain ⟨m1, m2, m3⟩ := hm
    -- what lies above the bound
    have up : ∀ res, IsGreatP (FitC c (r :: L)) (r.1 + 1) num g1 res → IsGreatP (FitC c (r :: L)) low num g res := fun res hu => by
      rcases hu with ⟨u1, u2, u3, u4⟩ | ⟨rfl, u2⟩
      · exact Or.inl ⟨by omega, u2, u3, u4⟩
      · rcases gf with ⟨v1, v2, v3, v4⟩ | ⟨rfl, v2⟩
        · refine Or.inl ⟨v1, by omega, by rw [fitc_low h.asc (by omega) (by omega)]; exact v3, fun k h1 h2 => ?_⟩
          by_cases hk : k ≤ r.1
          · rw [fitc_low h.asc (by omega) hk]
            exact v4 k h1 (m3 k h2 hk)
          · exact u2 k (by omega) h2
        · refine Or.inr ⟨rfl, fun k h1 h2 => ?_⟩
          by_cases hk : k ≤ r.1
          · rw [fitc_low h.asc (by omega) hk]
            exact v2 k h1 (m3 k h2 hk)
          · exact u2 k (by omega) h2
    refine up _ ?_
    by_cases hz : r.2 = 0
    · rw [if_pos hz]
      exact Or.inr ⟨rfl, fun k h1 h2 => fitc_stop (by omega) (by omega) hz⟩
    · rw [if_neg hz]
      have ih := great_rows (num := num) (g := g1) (h.tail hz)
      have e : ∀ k, r.1 + 1 ≤ k → FitC c (r :: L) k = FitC (Nat.lcm c r.2.natAbs) L k := fun k hk => fitc_go (by omega) (by omega) hz r2
      rcases ih with ⟨u1, u2, u3, u4⟩ | ⟨u1, u2⟩
      · exact Or.inl ⟨u1, u2, by rw [e _ u1]; exact u3, fun k h1 h2 => by rw [e k (by omega)]; exact u4 k h1 h2⟩
      · exact Or.inr ⟨u1, fun k h1 h2 => by rw [e k h1]; exact u2 k h1 h2⟩
/-! ### the whole scale -/
theorem fits_perm {rs rs' : List Rule} (h : rs'.Perm rs) (n : Int) : fitsAll rs' n = fitsAll rs n := by
  unfold fitsAll
  rw [Bool.eq_iff_iff, List.all_eq_true, List.all_eq_true]
  exact ⟨fun g r hr => g r (h.mem_iff.mpr hr), fun g r hr => g r (h.mem_iff.mp hr)⟩
theorem fitc_one {rs : List Rule} (n : Int) : FitC 1 rs n = fitsAll rs n := by
  unfold FitC mulP
  rw [show n % ((1 : Nat) : Int) = 0 from Int.emod_one n]
  rfl
theorem fits_even {rs : List Rule} (n : Int) : fitsAll rs (-n) = fitsAll rs n := by
  unfold fitsAll
  congr 1
  funext r
  unfold fitR
  have e1 : (if -n < 0 then - -n else -n) = if n < 0 then -n else n := by
    split <;> split <;> omega
  have e2 : decide (-n % r.2 = 0) = decide (n % r.2 = 0) := by
    refine decide_eq_decide.mpr ?_
    rw [← Int.dvd_iff_emod_eq_zero, ← Int.dvd_iff_emod_eq_zero]
    exact Int.dvd_neg
  rw [e1, e2]
def ScaleOk (rs : List Rule) : Prop := rs.length ≤ 40 ∧ ∀ r ∈ rs, 0 ≤ r.1 ∧ r.1 ≤ 10 ^ 60 ∧ 0 ≤ r.2 ∧ r.2 ≤ 10 ^ 60
theorem rows_ok {rs rs' : List Rule} (h : ScaleOk rs) (hp : rs'.Perm rs) (hs : SortedR rs') : RowsOk 0 1 rs' := ⟨asc_of hs, Int.le_refl 0, by decide, fun r hr => by
  obtain ⟨h1, _, h3, _⟩ := h.2 r (hp.mem_iff.mp hr)
  exact ⟨by omega, h1, h3⟩⟩
theorem pow_le12 {k : Nat} (h : k ≤ 12000) : 2 ^ k ≤ 2 ^ 12000 := Nat.pow_le_pow_right (by decide) h
theorem lcm_step {m : Nat} {z : Int} {i : Nat} (h : m < 2 ^ (200 * i + 1)) (h0 : 0 ≤ z) (h1 : z ≤ 10 ^ 60) : m < 2 ^ (200 * i + 1) ∧ z.natAbs < 2 ^ 200 ∧ Nat.lcm m z.natAbs < 2 ^ (200 * (i + 1) + 1) := by
  have e : (10 : Nat) ^ 60 < 2 ^ 200 := by decide +kernel
  have hz : z.natAbs < 2 ^ 200 := Nat.lt_of_le_of_lt (show z.natAbs ≤ 10 ^ 60 by omega) e
  refine ⟨h, hz, Nat.lt_of_le_of_lt (PySem.W.mc_lcm_le _ _) (Nat.lt_of_lt_of_le (Nat.mul_lt_mul_of_lt_of_le h (Nat.le_of_lt hz) (Nat.pow_pos (by decide))) ?_)⟩
  rw [← Nat.pow_add]
  exact Nat.pow_le_pow_right (by decide) (by omega)

theorem rows_bound : ∀ {L : List Rule} {low : Int} {c i : Nat}, RowsOk low c L → c < 2 ^ (200 * i + 1) → L.length + i ≤ 40 → low ≤ 10 ^ 60 + 1 → (∀ r ∈ L, r.1 ≤ 10 ^ 60 ∧ r.2 ≤ 10 ^ 60) → ∀ q ∈ rowsOf low c L, 0 < q.2.2 ∧ q.2.2 < 2 ^ 8001 ∧ 0 ≤ q.1 ∧ q.1 ≤ 10 ^ 60 + 1
  | [], low, c, i, h, hc, hl, hw, hr, q, hq => by
    rw [List.mem_singleton.mp hq]
    exact ⟨h.c0, Nat.lt_of_lt_of_le hc (Nat.pow_le_pow_right (by decide) (by omega)), h.low0, hw⟩
  | r :: L, low, c, i, h, hc, hl, hw, hr, q, hq => by
    rcases List.mem_cons.mp hq with rfl | hq
    · exact ⟨h.c0, Nat.lt_of_lt_of_le hc (Nat.pow_le_pow_right (by decide) (by omega)), h.low0, hw⟩
    · by_cases hz : r.2 = 0
      · rw [if_pos hz] at hq
        exact nomatch hq
      · rw [if_neg hz] at hq
        obtain ⟨r1, r2⟩ := hr r (List.mem_cons_self ..)
        obtain ⟨_, _, r3⟩ := h.all r (List.mem_cons_self ..)
        exact rows_bound (i := i + 1) (h.tail hz) (lcm_step hc r3 r2).2.2 (by rw [List.length_cons] at hl; omega) (by omega) (fun x hx => hr x (List.mem_cons_of_mem _ hx)) q hq
theorem rows_small {rs rs' : List Rule} (h : ScaleOk rs) (hp : rs'.Perm rs) (hs : SortedR rs') : ∀ q ∈ rowsOf 0 1 rs', 0 < q.2.2 ∧ q.2.2 < 2 ^ 8001 ∧ 0 ≤ q.1 ∧ q.1 ≤ 10 ^ 60 + 1 :=
  rows_bound (i := 0) (rows_ok h hp hs) (by decide) (by rw [hp.length_eq]; exact h.1) (by decide) fun r hr => by
    obtain ⟨_, h2, _, h4⟩ := h.2 r (hp.mem_iff.mp hr)
    exact ⟨h2, h4⟩
theorem cnt_scale {rs rs' : List Rule} (h : ScaleOk rs) (hp : rs'.Perm rs) (hs : SortedR rs') (t : Int) : manyR t (rowsOf 0 1 rs') = (cntP (fitsAll rs) 0 (t - 0 + 1).toNat : Int) := by
  rw [many_rows (rows_ok h hp hs)]
  congr 1
  exact cnt_congr fun i _ _ => by rw [fitc_one, fits_perm hp]
theorem least_scale {rs rs' : List Rule} (h : ScaleOk rs) (hp : rs'.Perm rs) (hs : SortedR rs') {t : Int} (ht : 0 < t) : IsLeastP (fitsAll rs) t (leastR t (rowsOf 0 1 rs')) := by
  have g := least_rows (num := t) (rows_ok h hp hs)
  have e : FitC 1 rs' = fitsAll rs := funext fun n => by rw [fitc_one, fits_perm hp]
  rw [e, show maxI 0 t = t from if_pos ht] at g
  exact g
theorem great_scale {rs rs' : List Rule} (h : ScaleOk rs) (hp : rs'.Perm rs) (hs : SortedR rs') (t : Int) : IsGreatP (fitsAll rs) 0 t 0 (greatR t 0 (rowsOf 0 1 rs')) := by
  have g := great_rows (num := t) (g := 0) (rows_ok h hp hs)
  have e : FitC 1 rs' = fitsAll rs := funext fun n => by rw [fitc_one, fits_perm hp]
  rw [e] at g
  exact g
theorem rows_high : ∀ {L : List Rule} {low : Int} {c : Nat}, (∀ r ∈ L, 0 ≤ r.1 ∧ r.1 ≤ 10 ^ 60) → ∀ q ∈ rowsOf low c L, ∀ b, q.2.1 = some b → 0 ≤ b ∧ b ≤ 10 ^ 60
  | [], low, c, hr, q, hq, b, e => by
    rw [List.mem_singleton.mp hq] at e
    cases e
  | r :: L, low, c, hr, q, hq, b, e => by
    rcases List.mem_cons.mp hq with rfl | hq
    · cases e
      exact hr r (List.mem_cons_self ..)
    · by_cases hz : r.2 = 0
      · rw [if_pos hz] at hq
        exact nomatch hq
      · rw [if_neg hz] at hq
        exact rows_high (fun x hx => hr x (List.mem_cons_of_mem _ hx)) q hq b e
theorem rows_lesser {rs rs' : List Rule} (h : ScaleOk rs) (hp : rs'.Perm rs) {t : Int} (ht : 0 ≤ t) : ∀ q ∈ rowsOf 0 1 rs', 0 ≤ lesserI t q.2.1 ∧ lesserI t q.2.1 ≤ t := fun q hq => by
  have g := rows_high (L := rs') (low := 0) (c := 1) (fun r hr => by
    obtain ⟨h1, h2, _⟩ := h.2 r (hp.mem_iff.mp hr)
    exact ⟨h1, h2⟩) q hq
  cases e : q.2.1 with
  | none => exact ⟨ht, Int.le_refl _⟩
  | some b =>
    obtain ⟨g1, _⟩ := g b e
    show 0 ≤ (if b < t then b else t) ∧ (if b < t then b else t) ≤ t
    split <;> omega
theorem great_least {rs : List Rule} (hOk : ScaleOk rs) {t res : Int} (ht : t ≤ 0) (h : IsGreatP (fitsAll rs) 0 (-t) 0 res) : IsLeastP (fitsAll rs) t (some (-res)) := by
  have f0 : fitsAll rs 0 = true := fits_low (b := 0) (Int.le_refl 0) (Int.le_refl 0) fun r hr => (hOk.2 r hr).1
  rcases h with ⟨h1, h2, h3, h4⟩ | ⟨rfl, h2⟩
  · refine ⟨by omega, by rw [fits_even]; exact h3, fun k k1 k2 => ?_⟩
    rw [← fits_even]
    exact h4 (-k) (by omega) (by omega)
  · exact absurd (h2 0 (Int.le_refl 0) (by omega)) (by rw [f0]; decide)
end EE

namespace K03
open PySem PySem.Spec PyProof.Rows L2 EE
def topS (i : Nat) : Stmt := PySem.Challenge.pw_everyexact_k03_whole_stretches_gone_thro.main.body.getD i (.Pass ⟨0, 0, 0, 0⟩)
abbrev sstretches : Stmt := topS 2
theorem scstretches : FnScope ["scale", "rows", "low", "common", "bound", "step"] ["scale"] (defScope sstretches) := ⟨rfl, rfl, rfl, by decide +kernel, rfl, by decide +kernel, by decide +kernel⟩
abbrev sfirst_multiple : Stmt := topS 3
theorem scfirst_multiple : FnScope ["step", "low"] ["step", "low"] (defScope sfirst_multiple) := ⟨rfl, rfl, rfl, by decide +kernel, rfl, by decide +kernel, by decide +kernel⟩
abbrev slesser : Stmt := topS 6
theorem sclesser : FnScope ["top", "high"] ["top", "high"] (defScope slesser) := ⟨rfl, rfl, rfl, by decide +kernel, rfl, by decide +kernel, by decide +kernel⟩
abbrev smany_to : Stmt := topS 5
theorem scmany_to : FnScope ["scale", "top", "many", "low", "high", "step", "last"] ["scale", "top"] (defScope smany_to) := ⟨rfl, rfl, rfl, by decide +kernel, rfl, by decide +kernel, by decide +kernel⟩
abbrev sfitting_many : Stmt := topS 4
theorem scfitting_many : FnScope ["scale", "low", "high"] ["scale", "low", "high"] (defScope sfitting_many) := ⟨rfl, rfl, rfl, by decide +kernel, rfl, by decide +kernel, by decide +kernel⟩
abbrev sleast_from : Stmt := topS 8
theorem scleast_from : FnScope ["scale", "number", "low", "high", "step", "found"] ["scale", "number"] (defScope sleast_from) := ⟨rfl, rfl, rfl, by decide +kernel, rfl, by decide +kernel, by decide +kernel⟩
abbrev sgreatest_to : Stmt := topS 9
theorem scgreatest_to : FnScope ["scale", "number", "greatest", "low", "high", "step", "found"] ["scale", "number"] (defScope sgreatest_to) := ⟨rfl, rfl, rfl, by decide +kernel, rfl, by decide +kernel, by decide +kernel⟩
abbrev sfitting_from : Stmt := topS 7
theorem scfitting_from : FnScope ["scale", "number"] ["scale", "number"] (defScope sfitting_from) := ⟨rfl, rfl, rfl, by decide +kernel, rfl, by decide +kernel, by decide +kernel⟩
abbrev s_law_deck : Stmt := topS 11
theorem sc_law_deck : FnScope ["script", "deck", "cell", "whole", "state"] ["script"] (defScope s_law_deck) := ⟨rfl, rfl, rfl, by decide +kernel, rfl, by decide +kernel, by decide +kernel⟩
abbrev s_law_draw : Stmt := topS 12
theorem sc_law_draw : FnScope ["deck", "many", "whole", "one", "two"] ["deck", "many"] (defScope s_law_draw) := ⟨rfl, rfl, rfl, by decide +kernel, rfl, by decide +kernel, by decide +kernel⟩
abbrev s_law_pick : Stmt := topS 13
theorem sc_law_pick : FnScope ["deck", "items"] ["deck", "items"] (defScope s_law_pick) := ⟨rfl, rfl, rfl, by decide +kernel, rfl, by decide +kernel, by decide +kernel⟩
abbrev s_law_fits : Stmt := topS 17
theorem sc_law_fits : FnScope ["scale", "number", "bound", "step"] ["scale", "number"] (defScope s_law_fits) := ⟨rfl, rfl, rfl, by decide +kernel, rfl, by decide +kernel, by decide +kernel⟩
abbrev s_law_small : Stmt := topS 18
theorem sc_law_small : FnScope ["deck", "most", "top", "steps", "found", "turn", "step", "times", "bound"] ["deck", "most", "top"] (defScope s_law_small) := ⟨rfl, rfl, rfl, by decide +kernel, rfl, by decide +kernel, by decide +kernel⟩
abbrev s_law_next : Stmt := topS 19
theorem sc_law_next : FnScope ["scale", "number", "top", "bound", "step", "here", "left"] ["scale", "number"] (defScope s_law_next) := ⟨rfl, rfl, rfl, by decide +kernel, rfl, by decide +kernel, by decide +kernel⟩
abbrev slaw : Stmt := topS 20
theorem sclaw : FnScope ["script", "deck", "turn", "scale", "low", "high", "kept", "due", "number", "seen", "amid", "rest"] ["script"] (defScope slaw) := ⟨rfl, rfl, rfl, by decide +kernel, rfl, by decide +kernel, by decide +kernel⟩
/-! ### the promises -/
def spstretches (K : PySem.W.Frag) : Sp := fun vs H Q _ => ∃ (dk : Dk) (Γ : List (Addr × List D)) (Δ : List (V × D)) (a : Addr) (rs : List Rule), vs = [.ref a] ∧ St K H dk Γ Δ ∧ (V.ref a, scaleD rs) ∈ Δ ∧ ScaleOk rs ∧
  ∀ H' p rs', rs'.Perm rs → SortedR rs' → St K H' dk ((p, (rowsOf 0 1 rs').map rowD) :: Γ) Δ → Q (.ref p) H'
def spfirst_multiple (K : PySem.W.Frag) : Sp := fun vs H Q _ => ∃ (c : Nat) (l : Int), vs = [.int (c : Int), .int l] ∧ 0 < c ∧ c < 2 ^ 8001 ∧ l.natAbs < 2 ^ 9000 ∧ Q (.int (firstMul c l)) H
def splesser (K : PySem.W.Frag) : Sp := fun vs H Q _ => ∃ (t : Int) (o : Option Int), vs = [.int t, optV o] ∧ Q (.int (lesserI t o)) H
def spmany_to (K : PySem.W.Frag) : Sp := fun vs H Q _ => ∃ (dk : Dk) (Γ : List (Addr × List D)) (Δ : List (V × D)) (a : Addr) (rs : List Rule) (t : Int), vs = [.ref a, .int t] ∧ St K H dk Γ Δ ∧ (V.ref a, scaleD rs) ∈ Δ ∧ ScaleOk rs ∧
  ∀ H', St K H' dk Γ Δ → Q (.int (cntP (fitsAll rs) 0 (t - 0 + 1).toNat : Nat)) H'
def spfitting_many (K : PySem.W.Frag) : Sp := fun vs H Q _ => ∃ (dk : Dk) (Γ : List (Addr × List D)) (Δ : List (V × D)) (a : Addr) (rs : List Rule) (l h : Int), vs = [.ref a, .int l, .int h] ∧ St K H dk Γ Δ ∧ (V.ref a, scaleD rs) ∈ Δ ∧ ScaleOk rs ∧ l ≤ h ∧
  ∀ H', St K H' dk Γ Δ → Q (.int (cntP (fitsAll rs) l (h - l + 1).toNat : Nat)) H'
def spleast_from (K : PySem.W.Frag) : Sp := fun vs H Q _ => ∃ (dk : Dk) (Γ : List (Addr × List D)) (Δ : List (V × D)) (a : Addr) (rs : List Rule) (t : Int), vs = [.ref a, .int t] ∧ St K H dk Γ Δ ∧ (V.ref a, scaleD rs) ∈ Δ ∧ ScaleOk rs ∧ 0 < t ∧ t.natAbs < 2 ^ 8000 ∧
  ∀ H' o, IsLeastP (fitsAll rs) t o → St K H' dk Γ Δ → Q (optV o) H'
def spgreatest_to (K : PySem.W.Frag) : Sp := fun vs H Q _ => ∃ (dk : Dk) (Γ : List (Addr × List D)) (Δ : List (V × D)) (a : Addr) (rs : List Rule) (t : Int), vs = [.ref a, .int t] ∧ St K H dk Γ Δ ∧ (V.ref a, scaleD rs) ∈ Δ ∧ ScaleOk rs ∧ 0 ≤ t ∧ t.natAbs < 2 ^ 8000 ∧
  ∀ H' res, IsGreatP (fitsAll rs) 0 t 0 res → St K H' dk Γ Δ → Q (.int res) H'
def spfitting_from (K : PySem.W.Frag) : Sp := fun vs H Q _ => ∃ (dk : Dk) (Γ : List (Addr × List D)) (Δ : List (V × D)) (a : Addr) (rs : List Rule) (t : Int), vs = [.ref a, .int t] ∧ St K H dk Γ Δ ∧ (V.ref a, scaleD rs) ∈ Δ ∧ ScaleOk rs ∧ t.natAbs < 2 ^ 8000 ∧
  ∀ H' o, IsLeastP (fitsAll rs) t o → St K H' dk Γ Δ → Q (optV o) H'
def sp_law_fits (K : PySem.W.Frag) : Sp := fun vs H Q _ => ∃ (dk : Dk) (Γ : List (Addr × List D)) (Δ : List (V × D)) (a : Addr) (rs : List Rule) (n : Int), vs = [.ref a, .int n] ∧ St K H dk Γ Δ ∧ (V.ref a, scaleD rs) ∈ Δ ∧ (∀ r ∈ rs, 0 ≤ r.2) ∧ ∀ H', St K H' dk Γ Δ → Q (.bl (fitsAll rs n)) H'
/-- small scales: all steps divide a small number -/
def SmallOk (top : Int) (rs : List Rule) : Prop := rs.length ≤ 40 ∧ ∃ M : Int, 1 ≤ M ∧ M ≤ 100 ∧ ∀ r ∈ rs, 0 ≤ r.1 ∧ r.1 ≤ top ∧ (r.2 = 0 ∨ (2 ≤ r.2 ∧ r.2 ∣ M))
def sp_law_small (K : PySem.W.Frag) : Sp := fun vs H Q _ => ∃ (d l : Addr) (m t : Int) (Γ : List (Addr × List D)) (Δ : List (V × D)), vs = [.ref d, .int m, .int t] ∧ St K H (some (d, l)) Γ Δ ∧ 0 ≤ m ∧ m ≤ 40 ∧ 0 ≤ t ∧ t ≤ 1000 ∧
  ∀ H' v rs, SmallOk t rs → St K H' (some (d, l)) Γ ((v, scaleD rs) :: Δ) → Q v H'
def sp_law_next (K : PySem.W.Frag) : Sp := fun vs H Q _ => ∃ (dk : Dk) (Γ : List (Addr × List D)) (Δ : List (V × D)) (a : Addr) (rs : List Rule) (t : Int), vs = [.ref a, .int t] ∧ St K H dk Γ Δ ∧ (V.ref a, scaleD rs) ∈ Δ ∧ SmallOk 400 rs ∧ -450 ≤ t ∧ t ≤ 2000 ∧
  ∀ H' o, IsLeastP (fitsAll rs) t o → St K H' dk Γ Δ → Q (optV o) H'
def splaw (K : PySem.W.Frag) : Sp := fun vs H Q _ => ∃ (a : Addr) (ns : List Int), vs = [.ref a] ∧ SqL K H a (ns.map V.int) ∧ ns.length ≤ 63 ∧ ∀ H', Q (.bl true) H'
/-! ### going on to the next -/
def hasZ (rs : List Rule) : Bool := rs.any fun r => r.2 == 0
theorem no_fit {rs : List Rule} {top k : Int} (hz : hasZ rs = true) (ht : ∀ r ∈ rs, r.1 ≤ top) (h0 : 0 ≤ top) (hk : top < k) : fitsAll rs k = false := by
  obtain ⟨r, hr, e⟩ := List.any_eq_true.mp hz
  have e2 : r.2 = 0 := by simpa using e
  have := ht r hr
  have hb : fitR r k = false := by
    rw [fit_pos (by omega), decide_eq_false (by omega), e2]
    rfl
  unfold fitsAll
  rw [Bool.eq_false_iff]
  intro c
  have := List.all_eq_true.mp c r hr
  rw [hb] at this
  exact absurd this (by decide)
theorem next_none {rs : List Rule} {top t : Int} (hs : SmallOk 400 rs) (ht : ∀ r ∈ rs, r.1 ≤ top) (h0 : 0 ≤ top) (hl : -450 ≤ t) (hn : ∀ j, t ≤ j → j < t + (2 * top + 500) → fitsAll rs j = false) : ∀ j, t ≤ j → fitsAll rs j = false := by
  by_cases hz : hasZ rs = true
  · intro j hj
    by_cases c : j < t + (2 * top + 500)
    · exact hn j hj c
    · exact no_fit hz ht h0 (by omega)
  · exfalso
    obtain ⟨_, M, M1, M2, hr⟩ := hs
    have fit : ∀ j, 0 ≤ j → M ∣ j → fitsAll rs j = true := fun j hj hd => by
      unfold fitsAll
      rw [List.all_eq_true]
      intro r hm
      have hz2 : r.2 ≠ 0 := fun z => hz (List.any_eq_true.mpr ⟨r, hm, by rw [z]; rfl⟩)
      rcases (hr r hm).2.2 with h | ⟨_, h⟩
      · exact absurd h hz2
      · rw [fit_pos hj, decide_eq_false hz2, decide_eq_true (Int.emod_eq_zero_of_dvd (Int.dvd_trans h hd))]
        exact Bool.or_true _
    by_cases c : t ≤ 0
    · exact absurd (hn 0 c (by omega)) (by rw [fit 0 (Int.le_refl 0) (Int.dvd_zero M)]; decide)
    · obtain ⟨m, rfl⟩ := Int.eq_ofNat_of_zero_le (show 0 ≤ M by omega)
      obtain ⟨f1, f2, _⟩ := first_mul (c := m) (by omega) t
      have f3 : firstMul m t ≤ t + (m : Int) - 1 := by
        unfold firstMul
        exact Int.ediv_mul_le _ (by omega)
      have hd : (m : Int) ∣ firstMul m t := Int.dvd_of_emod_eq_zero (of_decide_eq_true f2)
      exact absurd (hn _ f1 (by omega)) (by rw [fit _ (by omega) hd]; decide)
section
variable {K : PySem.W.Frag} {H : Hp} {dk : Dk} {Γ : List (Addr × List D)} {Δ : List (V × D)} {a : Addr} {rs : List Rule} {y1 y2 y3 y4 y5 y6 : Option V}
/-- [bound for bound, step in scale], [step for ..] -/
theorem lc_col {Q : VK} (hS : St K H dk Γ Δ) (hm : (V.ref a, scaleD rs) ∈ Δ) (hl : rs.length ≤ 40) (e : Nat) (col : Rule → Int) (he : (e = 3 ∧ col = Prod.fst) ∨ (e = 4 ∧ col = Prod.snd))
    (q : ∀ D H', St K H' dk ((D, (rs.map col).map PyData.int) :: Γ) Δ → Q (.ref D) H') : tLc (iTup K (tVar 0)) (gTup K 2 (gCons (gName 3) (gCons (gName 4) gNil))) tYes (tVar e) [3, 4] [some (.ref a), y1, y2, y3, y4, y5, y6] H Q := by
  obtain ⟨xs0, hT0, hx0⟩ := hS.lenT hm
  refine ⟨_, rfl, a, rfl, ⟨xs0, hT0⟩, fun D hD => lc_it (n := rs.length) walkT (fun k H => St K H dk ((D, ((rs.take k).map col).map PyData.int) :: Γ) Δ)
    (hS.make (ds := []) hD .nil) (fun k H _ hP => ?_) (fun k x H H' hk hP hy => ?_) (fun H hP => ?_)⟩
  · obtain ⟨xs, h1, h3⟩ := hP.lenT hm
    exact ⟨xs, h1, by rw [h3, List.length_map]⟩
  · obtain ⟨rfl, ff⟩ := hy
    obtain ⟨dd, e1, hS1⟩ := hP.turnT hm ff
    rw [List.getElem?_map, List.getElem?_eq_getElem hk] at e1
    cases Option.some.inj e1
    obtain ⟨ax, rfl⟩ := hS1.ref_of (List.mem_cons_self ..)
    have hT1 := hS1.pair (List.mem_cons_self ..)
    refine ⟨ax, _, rfl, hT1, rfl, _, _, rfl, _, _, rfl, rfl, rfl, ?_⟩
    have fin : ∃ acc, H' D = some (.lst acc) ∧ acc.length < sizeLine ∧ St K (upd H' D (.lst (acc ++ [V.int (col rs[k])]))) dk ((D, ((rs.take (k + 1)).map col).map PyData.int) :: Γ) Δ := by
      obtain ⟨vd, g1, g2, g3⟩ := (hP.push (y := .int (col rs[k])) (x := .int (col rs[k])) (.int _))
      refine ⟨vd, g1, small1000 (by rw [g2, List.length_map, List.length_map, List.length_take]; omega), ?_⟩
      rw [List.take_add_one, List.getElem?_eq_getElem hk, List.map_append, List.map_append]
      exact g3
    rcases he with ⟨rfl, rfl⟩ | ⟨rfl, rfl⟩
    · refine go_yes (A := fun H3 => tVar 3 _ H3 fun y H4 => ∃ acc, H4 D = some (.lst acc) ∧ acc.length < sizeLine ∧ St K (upd H4 D (.lst (acc ++ [y]))) dk ((D, ((rs.take (k + 1)).map Prod.fst).map PyData.int) :: Γ) Δ) ?_
      exact ⟨_, rfl, fin⟩
    · refine go_yes (A := fun H3 => tVar 4 _ H3 fun y H4 => ∃ acc, H4 D = some (.lst acc) ∧ acc.length < sizeLine ∧ St K (upd H4 D (.lst (acc ++ [y]))) dk ((D, ((rs.take (k + 1)).map Prod.snd).map PyData.int) :: Γ) Δ) ?_
      exact ⟨_, rfl, fin⟩
  · have g := q D H (by rw [List.take_length] at hP; exact hP)
    exact g
theorem in_zero : inV (.int 0) ((rs.map Prod.snd).map V.int) = hasZ rs := by
  unfold inV hasZ
  rw [List.any_map, List.any_map]
  rfl
theorem flat_ints (ns : List Int) : (ns.map V.int).all flatV = true := by
  rw [List.all_map, List.all_eq_true]
  intro n _
  rfl
theorem test_zero {Q : Bool → Hp → Prop} (hS : St K H dk Γ Δ) (hm : (V.ref a, scaleD rs) ∈ Δ) (hl : rs.length ≤ 40) (q : ∀ H', St K H' dk Γ Δ → Q (hasZ rs) H') :
    tTest (tOp (rIn K false) (tC (.int 0)) (tLc (iTup K (tVar 0)) (gTup K 2 (gCons (gName 3) (gCons (gName 4) gNil))) tYes (tVar 4) [3, 4])) [some (.ref a), y1, y2, y3, y4, y5, y6] H Q := by
  refine go_test (go_op (go_c (lc_col hS hm hl 4 Prod.snd (Or.inr ⟨rfl, rfl⟩) fun D H1 hS1 => ?_)))
  have hS2 := hS1.freeze
  obtain ⟨vs, hL, hlen, Δ2, rfl, hS3, hv⟩ := hS2.lstAt (List.mem_cons_self ..)
  obtain rfl := hS3.ints_of hv
  refine ⟨D, _, rfl, Or.inl hL, rfl, flat_ints _, _, rfl, ?_⟩
  show Q (inV (.int 0) ((rs.map Prod.snd).map V.int)) H1
  rw [in_zero]
  exact q H1 (hS2.weaken fun _ h => List.mem_cons_of_mem _ h)
end
section
variable {K : PySem.W.Frag} {H : Hp} {dk : Dk} {Γ : List (Addr × List D)} {Δ : List (V × D)} {a : Addr} {rs : List Rule} {y1 y2 y3 y4 y5 y6 : Option V} {x top left : Int}
abbrev tZero (K : PySem.W.Frag) : TT := tTest (tOp (rIn K false) (tC (.int 0)) (tLc (iTup K (tVar 0)) (gTup K 2 (gCons (gName 3) (gCons (gName 4) gNil))) tYes (tVar 4) [3, 4]))
theorem test_over {n : Nat} {Q : Bool → Hp → Prop} (hS : St K H dk Γ Δ) (hm : (V.ref a, scaleD rs) ∈ Δ) (hl : rs.length ≤ 40) (e1 : [some (V.ref a), y1, y2, y3, y4, y5, y6][n]? = some (some (.int x))) (e2 : y2 = some (.int top))
    (q : ∀ H', St K H' dk Γ Δ → Q (decide (top < x) && hasZ rs) H') :
    tAnd (tTest (tOp (rI0 fun i j => .bl (decide (j < i))) (tVar n) (tVar 2))) (tZero K) [some (.ref a), y1, y2, y3, y4, y5, y6] H Q := by
  subst e2
  refine go_and ⟨_, e1, _, rfl, _, _, rfl, rfl, _, rfl, ?_⟩
  cases hd : decide (top < x) with
  | true =>
    rw [hd] at q
    exact iteT (test_zero hS hm hl q)
  | false =>
    rw [hd] at q
    exact iteF (q H hS)
theorem test_stop {Q : Bool → Hp → Prop} (hS : St K H dk Γ Δ) (hm : (V.ref a, scaleD rs) ∈ Δ) (hl : rs.length ≤ 40) (e1 : y5 = some (.int x)) (e2 : y2 = some (.int top)) (e3 : y6 = some (.int left))
    (q : ∀ H', St K H' dk Γ Δ → Q ((decide (top < x) && hasZ rs) || decide (left = 0)) H') :
    tOr (tAnd (tTest (tOp (rI0 fun i j => .bl (decide (j < i))) (tVar 5) (tVar 2))) (tZero K)) (tTest (tOp rEq (tVar 6) (tC (.int 0)))) [some (.ref a), y1, y2, y3, y4, y5, y6] H Q := by
  subst e3
  refine go_or (test_over hS hm hl (by rw [e1]; rfl) e2 fun H1 hS1 => ?_)
  cases hd : (decide (top < x) && hasZ rs) with
  | true =>
    rw [hd] at q
    exact iteT (q H1 hS1)
  | false =>
    rw [hd] at q
    refine iteF ⟨_, rfl, rfl, _, rfl, ?_⟩
    rw [dec_vI]
    exact q H1 hS1
end
/-! ### more expressions as data -/
section
variable {K : PySem.W.Frag} {B : List (V × D)} {σ : L2.St} {te td tl th ta tb tc : TE} {d : D} {rs : List Rule} {i j l h t : Int} {E : XK} {o : Option Int}
theorem ed_neI (h1 : EvD K B ta σ (.int i)) (h2 : EvD K B tb σ (.int j)) : EvD K B (tOp rNe ta tb) σ (.bool (!decide (i = j))) := fun H dk Γ Δ Q hb hS q =>
  h1 H dk Γ Δ _ hb hS fun v H1 Δ1 s1 hS1 d1 => h2 H1 dk Γ Δ1 _ (hb.trans s1) hS1 fun u H2 Δ2 s2 hS2 d2 => by
    obtain rfl := d1.isInt hS1
    obtain rfl := d2.isInt hS2
    refine ⟨rfl, ?_⟩
    rw [dec_vI]
    exact q _ _ _ (s1.trans s2) hS2 (.bl _)
theorem ed_ite {b : Bool} (hc : EvD K B tc σ (.bool b)) (h1 : b = true → EvD K B ta σ d) (h2 : b = false → EvD K B tb σ d) : EvD K B (tIf (tTest tc) ta tb) σ d := fun H dk Γ Δ Q hb hS q =>
  hc H dk Γ Δ _ hb hS fun v H1 Δ1 s1 hS1 d1 => by
    obtain rfl := d1.isBl hS1
    refine ⟨b, rfl, ?_⟩
    cases b with
    | true => exact iteT (h1 rfl H1 dk Γ Δ1 Q (hb.trans s1) hS1 fun v H' Δ' s' hS' d' => q v H' Δ' (s1.trans s') hS' d')
    | false => exact iteF (h2 rfl H1 dk Γ Δ1 Q (hb.trans s1) hS1 fun v H' Δ' s' hS' d' => q v H' Δ' (s1.trans s') hS' d')
theorem dv_rep {Δ : List (V × D)} {v : V} (h : Dv Δ v d) : ∀ k, DvAll Δ (List.replicate k [v]).flatten (List.replicate k d)
  | 0 => .nil
  | k + 1 => .cons h (dv_rep h k)
theorem rep_len {v : V} : ∀ k, (List.replicate k [v]).flatten.length = k
  | 0 => rfl
  | k + 1 => congrArg Nat.succ (rep_len k)
/-- [x] * k -/
theorem ed_rep1 {k : Nat} (hk : k ≤ 1000) (h1 : EvD K B te σ d) : EvD K B (tOp rRep (tLst (tCons te tNil)) (tC (.int (k : Int)))) σ (.list (List.replicate k d)) := fun H dk Γ Δ Q hb hS q =>
  h1 H dk Γ Δ _ hb hS fun v H1 Δ1 s1 hS1 d1 => ⟨by show 1 ≤ sizeLine; decide, fun p hp => by
    have hS2 := hS1.lst (vs := [v]) (ds := [d]) hp (.cons d1 .nil)
    refine ⟨p, _, [v], rfl, rfl, upd_same, by omega, by omega, by show 1 * k ≤ sizeLine; exact Nat.le_of_lt (small1000 (by omega)), fun p2 hp2 => ?_⟩
    have hS3 := hS2.lst (vs := (List.replicate k [v]).flatten) (ds := List.replicate k d) hp2 (dv_rep (d1.sub (Sub.cons .rfl')) k)
    exact q _ _ _ (s1.trans ((Sub.cons .rfl').trans (Sub.cons .rfl'))) hS3 (.of (List.mem_cons_self ..))⟩
theorem ed_many (h1 : EvD K B te σ (scaleD rs)) (h2 : EvD K B tl σ (.int l)) (h3 : EvD K B th σ (.int h)) (hOk : ScaleOk rs) (hlh : l ≤ h) : EvD K B (tCall (spfitting_many K) [] E (tCons te (tCons tl (tCons th tNil)))) σ (.int (cntP (fitsAll rs) l (h - l + 1).toNat : Nat)) := fun H dk Γ Δ Q hb hS q =>
  h1 H dk Γ Δ _ hb hS fun v H1 Δ1 s1 hS1 d1 => h2 H1 dk Γ Δ1 _ (hb.trans s1) hS1 fun u H2 Δ2 s2 hS2 d2 => h3 H2 dk Γ Δ2 _ (hb.trans (s1.trans s2)) hS2 fun w H3 Δ3 s3 hS3 d3 => by
    obtain rfl := d2.isInt hS2
    obtain rfl := d3.isInt hS3
    have d4 := (d1.sub s2).sub s3
    obtain ⟨a, rfl⟩ := d4.isRef hS3 trivial
    exact ⟨dk, Γ, _, a, rs, l, h, rfl, hS3.also d4, List.mem_cons_self .., hOk, hlh, fun H' hS' => q _ H' _ (s1.trans (s2.trans (s3.trans (Sub.cons .rfl')))) hS' (.int _)⟩
theorem ed_manyK (h1 : EvD K B te σ (scaleD rs)) (h2 : EvD K B tl σ (.int l)) (h3 : EvD K B th σ (.int h)) (hOk : ScaleOk rs) (hlh : l ≤ h) : EvD K B (tCallK0 (spfitting_many K) (fun zs => zs.reverse) E (tCons th (tCons tl (tCons te tNil)))) σ (.int (cntP (fitsAll rs) l (h - l + 1).toNat : Nat)) := fun H dk Γ Δ Q hb hS q =>
  h3 H dk Γ Δ _ hb hS fun w H1 Δ1 s1 hS1 d3 => h2 H1 dk Γ Δ1 _ (hb.trans s1) hS1 fun u H2 Δ2 s2 hS2 d2 => h1 H2 dk Γ Δ2 _ (hb.trans (s1.trans s2)) hS2 fun v H3 Δ3 s3 hS3 d1 => by
    obtain rfl := d2.isInt hS2
    obtain rfl := d3.isInt hS1
    obtain ⟨a, rfl⟩ := d1.isRef hS3 trivial
    exact ⟨dk, Γ, _, a, rs, l, h, rfl, hS3.also d1, List.mem_cons_self .., hOk, hlh, fun H' hS' => q _ H' _ (s1.trans (s2.trans (s3.trans (Sub.cons .rfl')))) hS' (.int _)⟩
theorem ed_from (h1 : EvD K B te σ (scaleD rs)) (h2 : EvD K B tl σ (.int t)) (hOk : ScaleOk rs) (ht : t.natAbs < 2 ^ 8000) (ho : IsLeastP (fitsAll rs) t o) : EvD K B (tCall (spfitting_from K) [] E (tCons te (tCons tl tNil))) σ (optD o) := fun H dk Γ Δ Q hb hS q =>
  h1 H dk Γ Δ _ hb hS fun v H1 Δ1 s1 hS1 d1 => h2 H1 dk Γ Δ1 _ (hb.trans s1) hS1 fun u H2 Δ2 s2 hS2 d2 => by
    obtain rfl := d2.isInt hS2
    have d4 := d1.sub s2
    obtain ⟨a, rfl⟩ := d4.isRef hS2 trivial
    refine ⟨dk, Γ, _, a, rs, t, rfl, hS2.also d4, List.mem_cons_self .., hOk, ht, fun H' o' ho' hS' => ?_⟩
    obtain rfl := least_uniq ho ho'
    exact q _ H' _ (s1.trans (s2.trans (Sub.cons .rfl'))) hS' dv_opt
theorem ed_fromK (h1 : EvD K B te σ (scaleD rs)) (h2 : EvD K B tl σ (.int t)) (hOk : ScaleOk rs) (ht : t.natAbs < 2 ^ 8000) (ho : IsLeastP (fitsAll rs) t o) : EvD K B (tCallK0 (spfitting_from K) (fun zs => zs.reverse) E (tCons tl (tCons te tNil))) σ (optD o) := fun H dk Γ Δ Q hb hS q =>
  h2 H dk Γ Δ _ hb hS fun u H1 Δ1 s1 hS1 d2 => h1 H1 dk Γ Δ1 _ (hb.trans s1) hS1 fun v H2 Δ2 s2 hS2 d1 => by
    obtain rfl := d2.isInt hS1
    obtain ⟨a, rfl⟩ := d1.isRef hS2 trivial
    refine ⟨dk, Γ, _, a, rs, t, rfl, hS2.also d1, List.mem_cons_self .., hOk, ht, fun H' o' ho' hS' => ?_⟩
    obtain rfl := least_uniq ho ho'
    exact q _ H' _ (s1.trans (s2.trans (Sub.cons .rfl'))) hS' dv_opt
theorem ed_next (h1 : EvD K B te σ (scaleD rs)) (h2 : EvD K B tl σ (.int t)) (hs : SmallOk 400 rs) (t1 : -450 ≤ t) (t2 : t ≤ 2000) (ho : IsLeastP (fitsAll rs) t o) : EvD K B (tCall (sp_law_next K) [] E (tCons te (tCons tl tNil))) σ (optD o) := fun H dk Γ Δ Q hb hS q =>
  h1 H dk Γ Δ _ hb hS fun v H1 Δ1 s1 hS1 d1 => h2 H1 dk Γ Δ1 _ (hb.trans s1) hS1 fun u H2 Δ2 s2 hS2 d2 => by
    obtain rfl := d2.isInt hS2
    have d4 := d1.sub s2
    obtain ⟨a, rfl⟩ := d4.isRef hS2 trivial
    refine ⟨dk, Γ, _, a, rs, t, rfl, hS2.also d4, List.mem_cons_self .., hs, t1, t2, fun H' o' ho' hS' => ?_⟩
    obtain rfl := least_uniq ho ho'
    exact q _ H' _ (s1.trans (s2.trans (Sub.cons .rfl'))) hS' dv_opt
end
theorem least_min {P : Int → Bool} {a : Int} : ∀ n : Nat, P (a + n) = true → ∃ m : Nat, P (a + m) = true ∧ ∀ k : Nat, k < m → P (a + k) = false := by
  intro n
  induction n using Nat.strongRecOn with
  | ind n ih =>
    intro h
    by_cases c : ∃ k, k < n ∧ P (a + (k : Nat)) = true
    · obtain ⟨k, k1, k2⟩ := c
      exact ih k k1 k2
    · exact ⟨n, h, fun k hk => Bool.eq_false_iff.mpr fun z => c ⟨k, hk, z⟩⟩
theorem least_ex (P : Int → Bool) (a : Int) : ∃ o, IsLeastP P a o := by
  by_cases h : ∃ n : Nat, P (a + n) = true
  · obtain ⟨n, hn⟩ := h
    obtain ⟨m, m1, m2⟩ := least_min n hn
    refine ⟨some (a + m), by omega, m1, fun k k1 k2 => ?_⟩
    have := m2 (k - a).toNat (by omega)
    rw [show a + ((k - a).toNat : Int) = k by omega] at this
    exact this
  · refine ⟨none, fun k hk => Bool.eq_false_iff.mpr fun z => h ⟨(k - a).toNat, ?_⟩⟩
    rw [show a + ((k - a).toNat : Int) = k by omega]
    exact z
theorem least_bound {rs : List Rule} {t m : Int} (hs : SmallOk 400 rs) (t1 : -450 ≤ t) (ho : IsLeastP (fitsAll rs) t (some m)) : m < t + 1300 := by
  apply Decidable.byContradiction
  intro c
  have hs' := hs
  obtain ⟨_, M, _, _, hr⟩ := hs'
  have := next_none (top := 400) hs (fun r h => (hr r h).2.1) (by decide) t1 (fun j j1 j2 => ho.2.2 j j1 (by omega)) m ho.1
  rw [ho.2.1] at this
  cases this
theorem scale_of {rs : List Rule} (hs : SmallOk 400 rs) : ScaleOk rs := by
  obtain ⟨hl, M, M1, M2, hr⟩ := hs
  refine ⟨hl, fun r h => ?_⟩
  obtain ⟨r1, r2, r3⟩ := hr r h
  have e : (400 : Int) ≤ 10 ^ 60 := by decide
  have e2 : (100 : Int) ≤ 10 ^ 60 := by decide
  refine ⟨r1, by omega, ?_, ?_⟩
  · omega
  · rcases r3 with h | ⟨_, h⟩
    · omega
    · have := Int.le_of_dvd (by omega) h
      omega
theorem small_mono {t : Int} {rs : List Rule} (ht : t ≤ 400) (h : SmallOk t rs) : SmallOk 400 rs := by
  obtain ⟨hl, M, M1, M2, hr⟩ := h
  refine ⟨hl, M, M1, M2, fun r h => ?_⟩
  obtain ⟨r1, r2, r3⟩ := hr r h
  exact ⟨r1, by omega, r3⟩
theorem neg_len : ∀ n : Fin 451, (Str.ofString (toString (-((n.val : Nat) : Int)))).length ≤ 10 := by decide +kernel
theorem sm_smallI {m : Int} (h1 : -450 ≤ m) (h2 : m < 10 ^ 570) : Sm 570 0 (.int m : D) := by
  by_cases h : 0 ≤ m
  · exact sm_int h h2
  · refine ⟨?_, by simp only [PyData.depth]; exact Nat.le_refl 0, ?_, by simp only [PyData.canLay0]⟩
    · simp only [PyData.showable, decide_eq_true_eq]
      have h2 : m.natAbs < 2 ^ 10 := by omega
      exact Nat.lt_trans (PySem.Flt.log2_lt_of (by decide) h2) (by decide)
    · simp only [PyData.shown]
      have e := neg_len ⟨m.natAbs, by omega⟩
      have e2 : -((m.natAbs : Nat) : Int) = m := by omega
      simp only [e2] at e
      exact Nat.le_trans e (by decide)
theorem sm_optD {rs : List Rule} {t : Int} {o : Option Int} (hs : SmallOk 400 rs) (t1 : -450 ≤ t) (t2 : t ≤ 2000) (ho : IsLeastP (fitsAll rs) t o) : Sm 570 0 (optD o) := by
  cases o with
  | none => exact sm_non.mono (by decide) (Nat.le_refl _)
  | some m =>
    have h1 := least_bound hs t1 ho
    have h2 := ho.1
    exact sm_smallI (by omega) (Int.lt_of_lt_of_le (show m < 4000 by omega) (by decide +kernel))
theorem sm_scale {rs : List Rule} (h : ScaleOk rs) : Sm 50000 2 (scaleD rs) := by
  have e1 : (10 : Int) ^ 60 < 10 ^ 570 := by decide +kernel
  refine (sm_tuple (n := 1147) (k := 1) (ds := rs.map ruleD) fun d hd => ?_).mono ?_ (Nat.le_refl _)
  · obtain ⟨r, hr, rfl⟩ := List.mem_map.mp hd
    obtain ⟨g1, g2, g3, g4⟩ := h.2 r hr
    refine sm_tuple (n := 570) (k := 0) (ds := [.int r.1, .int r.2]) fun d hd => ?_
    simp only [List.mem_cons, List.not_mem_nil, or_false] at hd
    rcases hd with rfl | rfl
    · exact sm_int g1 (Int.lt_of_le_of_lt g2 e1)
    · exact sm_int g3 (Int.lt_of_le_of_lt g4 e1)
  · rw [List.length_map]
    have := h.1
    omega
theorem cnt_le {P : Int → Bool} {a : Int} : ∀ k, cntP P a k ≤ k
  | 0 => Nat.le_refl _
  | k + 1 => by
    have := cnt_le (P := P) (a := a) k
    show cntP P a k + (if P (a + k) = true then 1 else 0) ≤ k + 1
    split <;> omega
theorem ed_ltI {K : PySem.W.Frag} {B : List (V × D)} {σ : L2.St} {ta tb : TE} {i j : Int} (h1 : EvD K B ta σ (.int i)) (h2 : EvD K B tb σ (.int j)) : EvD K B (tOp (rI0 fun i j => .bl (decide (i < j))) ta tb) σ (.bool (decide (i < j))) := fun H dk Γ Δ Q hb hS q =>
  h1 H dk Γ Δ _ hb hS fun v H1 Δ1 s1 hS1 d1 => h2 H1 dk Γ Δ1 _ (hb.trans s1) hS1 fun u H2 Δ2 s2 hS2 d2 => by
    obtain rfl := d1.isInt hS1
    obtain rfl := d2.isInt hS2
    exact ⟨i, j, rfl, rfl, q _ _ _ (s1.trans s2) hS2 (.bl _)⟩

local macro_rules | `(tactic| walk_at "evd") => `(tactic| (repeat' (first | exact ed_int | exact ed_str | exact ed_non | exact ed_bl | exact eds_nil | refine eds_cons ?_ ?_ | refine ed_tup ?_ ?_ | refine ed_lst ?_ ?_ | refine ed_neg ?_ | refine ed_I0 ?_ ?_ | exact ed_varI rfl | exact Nat.le_of_ble_eq_true rfl)))
section
variable {P : Program} {w : World} {K : PySem.W.Frag} {mg : Str → Option Value} {base : Heap}
theorem okstretches {f : Addr} {fd : FuncData} (F : Fun K "stretches" "stretches" sstretches f fd) (nb : NB mg bnames)    (c_lcm : mg "lcm" = some (.builtin "math.lcm")) : FnOk P w K mg base CX0 1 f fd ["scale"] (spstretches K) := by
  refine F.ok scstretches (fun vs H Q E h => ?_) (fun cdv A outer s H vs Q E hr h => ?_)
  · obtain ⟨dk, Γ, Δ, a, rs, rfl, _⟩ := h
    rfl
  · obtain ⟨dk, Γ, Δ, a, rs, rfl, hS, hm, hOk, q⟩ := h
    refine ⟨_, (pss_cons (ps_set (i := 1) scstretches.nd rfl (.inl rfl) (pe_lst pa_nil))
        (pss_cons (ps_set (i := 2) scstretches.nd rfl (.inl rfl) pe_int)
        (pss_cons (ps_set (i := 3) scstretches.nd rfl (.inl rfl) pe_int)
        (pss_cons (ps_for PassesOwn.never rfl (pi_list (pe_callB cr_sortedTP (by rfl) (nb "sorted" rfl) (by decide +kernel) (pa_cons (pv 0) pa_nil))) (pg_tup (by rfl) (pgs_cons (pg_name (i := 4) scstretches.nd rfl (.inl rfl)) (pgs_cons (pg_name (i := 5) scstretches.nd rfl (.inl rfl)) pgs_nil)))
        (pss_cons (ps_expr (pe_bm PySem.F.plainAttrs_list PySem.F.slot_list_append PySem.F.type_list_append mt_append (pv 1) (pa_cons (pe_tup (pa_cons (pv 2) (pa_cons (pv 4) (pa_cons (pv 3) pa_nil)))) pa_nil)))
        (pss_cons (ps_set (i := 2) scstretches.nd rfl (.inl rfl) (pe_op op_add (pv 4) pe_int))
        (pss_cons (ps_if (pt_cmpR op_eq (pv 5) pe_int (nomark _)) (pss_one (ps_ret (pv 1))) pss_nil)
        (pss_one (ps_set (i := 3) scstretches.nd rfl (.inl rfl) (pe_callBfun cr_lcm (by rfl) c_lcm (pa_cons (pv 3) (pa_cons (pv 5) pa_nil)))))))))
        (pss_cons (ps_expr (pe_bm PySem.F.plainAttrs_list PySem.F.slot_list_append PySem.F.type_list_append mt_append (pv 1) (pa_cons (pe_tup (pa_cons (pv 2) (pa_cons pe_non (pa_cons (pv 3) pa_nil)))) pa_nil)))
        (pss_one (ps_ret (pv 1)))))))), ?_⟩
    refine ⟨Nat.zero_le _, fun p hp => ?_⟩
    have hS1 := hS.make (ds := []) hp .nil
    obtain ⟨xs, hT, hlen, hz, hsort⟩ := hS1.sortT hm
    refine ⟨_, rfl, a, xs, rs, rfl, hT, hlen, hz, fun ys rs' p2 e1 e2 e3 hp2 => ?_⟩
    obtain ⟨hperm, hS2⟩ := hsort ys rs' p2 e1 e2 hp2
    have hS3 := hS2.freeze
    obtain ⟨zs, hL, hzl⟩ := hS3.lenL (List.mem_cons_self ..)
    have hlen40 : rs'.length ≤ 40 := by rw [hperm.length_eq]; exact hOk.1
    refine ⟨p2, rfl, ⟨zs, hL⟩, for_it (n := rs'.length) walkL (fun i σ H => ∃ (R : List EE.Row) (low : Int) (c : Nat) (y4 y5 : Option V), σ = [some (.ref a), some (.ref p), some (.int low), some (.int (c : Int)), y4, y5] ∧
        St K H dk ((p, R.map rowD) :: Γ) ((.ref p2, .list (rs'.map ruleD)) :: Δ) ∧ R ++ rowsOf low c (rs'.drop i) = rowsOf 0 1 rs' ∧ R.length = i ∧ c < 2 ^ (200 * i + 1))
      ⟨[], 0, 1, none, none, rfl, hS3, rfl, rfl, by decide⟩ (fun i σ H _ hP => ?_) (fun i x σ H H' hi hP hy => ?_) (fun σ H hP => ?_)⟩
    · obtain ⟨_, _, _, _, _, _, hS, _⟩ := hP
      obtain ⟨xs, h1, h3⟩ := hS.lenL (List.mem_cons_self ..)
      exact ⟨xs, h1, by rw [h3, List.length_map]⟩
    · obtain ⟨R, low, c, y4, y5, rfl, hS, hR, hRl, hc⟩ := hP
      obtain ⟨rfl, f⟩ := hy
      obtain ⟨d, e4, hS5⟩ := hS.turnL (List.mem_cons_self ..) f
      rw [List.getElem?_map, List.getElem?_eq_getElem hi] at e4
      cases Option.some.inj e4
      obtain ⟨ax, rfl⟩ := hS5.ref_of (List.mem_cons_self ..)
      have hT := hS5.pair (List.mem_cons_self ..)
      rw [List.drop_eq_getElem_cons hi] at hR
      obtain ⟨b1, b2, s1, s2⟩ := hOk.2 _ (hperm.mem_iff.mp (List.getElem_mem hi))
      generalize rs'[i] = r at hR b1 b2 s1 s2 hT
      refine ⟨ax, _, rfl, hT, rfl, _, _, rfl, _, _, rfl, rfl, ?_⟩
      obtain ⟨vf, hf1, hf2, _, _⟩ := hS.look
      refine ⟨_, rfl, .inl ⟨rfl, _, SqL.of hf1⟩, _, rfl, _, rfl, _, rfl, (by show 3 ≤ sizeLine; decide), fun t ht => ?_⟩
      have hS7 := hS.tup (vs := [.int low, .int r.1, .int (c : Int)]) (ds := [.int low, .int r.1, .int (c : Int)]) ht (.cons (.int _) (.cons (.int _) (.cons (.int _) .nil)))
      obtain ⟨vf2, k1, k2, k3⟩ := hS7.push (.of (List.mem_cons_self ..))
      refine ⟨p, vf2, _, rfl, rfl, k1, small1000 (by rw [k2, List.length_map]; omega), ?_⟩
      have hS8 := k3.weaken (Δ' := (.ref p2, .list (rs'.map ruleD)) :: Δ) fun _ h => List.mem_cons_of_mem _ h
      have eR : R.map rowD ++ [PyData.tuple [.int low, .int r.1, .int (c : Int)]] = (R ++ [(low, some r.1, c)]).map rowD := by
        rw [List.map_append]
        rfl
      rw [eR] at hS8
      refine ⟨_, rfl, _, _, rfl, rfl, _, rfl, rfl, _, rfl, ?_⟩
      rw [dec_vI]
      have hR2 : R ++ (low, some r.1, c) :: (if r.2 = 0 then [] else rowsOf (r.1 + 1) (Nat.lcm c r.2.natAbs) (rs'.drop (i + 1))) = rowsOf 0 1 rs' := hR
      refine ite2 (fun e => ?_) (fun e => ?_)
      · rw [if_pos (of_decide_eq_true e)] at hR2
        rw [hR2] at hS8
        exact ⟨_, rfl, q _ p rs' hperm e3 (hS8.weaken fun _ h => List.mem_cons_of_mem _ h)⟩
      · rw [if_neg fun z => e (decide_eq_true z)] at hR2
        obtain ⟨c1, c2, c3⟩ := lcm_step hc s1 s2
        refine ⟨_, rfl, _, rfl, _, _, rfl, Nat.lt_of_lt_of_le c1 (pow_le12 (by omega)), Nat.lt_of_lt_of_le c2 (pow_le12 (by decide)), ?_⟩
        refine ⟨R ++ [(low, some r.1, c)], r.1 + 1, Nat.lcm c r.2.natAbs, some (.int r.1), some (.int r.2), rfl, hS8, ?_, ?_, c3⟩
        · rw [List.append_assoc]
          exact hR2
        · rw [List.length_append, hRl]
          rfl
    · obtain ⟨R, low, c, y4, y5, rfl, hS, hR, hRl, hc⟩ := hP
      rw [List.drop_length] at hR
      have hR2 : R ++ [(low, none, c)] = rowsOf 0 1 rs' := hR
      obtain ⟨vf, hf1, hf2, _, _⟩ := hS.look
      refine ⟨_, rfl, .inl ⟨rfl, _, SqL.of hf1⟩, _, rfl, _, rfl, (by show 3 ≤ sizeLine; decide), fun t ht => ?_⟩
      have hS7 := hS.tup (vs := [.int low, .non, .int (c : Int)]) (ds := [.int low, .none, .int (c : Int)]) ht (.cons (.int _) (.cons .non (.cons (.int _) .nil)))
      obtain ⟨vf2, k1, k2, k3⟩ := hS7.push (.of (List.mem_cons_self ..))
      refine ⟨p, vf2, _, rfl, rfl, k1, small1000 (by rw [k2, List.length_map]; omega), ?_⟩
      have hS8 := k3.weaken (Δ' := Δ) fun _ h => List.mem_cons_of_mem _ (List.mem_cons_of_mem _ h)
      have eR : R.map rowD ++ [PyData.tuple [.int low, .none, .int (c : Int)]] = (R ++ [(low, none, c)]).map rowD := by
        rw [List.map_append]
        rfl
      rw [eR, hR2] at hS8
      exact ⟨_, rfl, q _ p rs' hperm e3 hS8⟩

theorem okfirst_multiple {f : Addr} {fd : FuncData} (F : Fun K "first_multiple" "first_multiple" sfirst_multiple f fd) (nb : NB mg bnames)     : FnOk P w K mg base CX0 1 f fd ["step", "low"] (spfirst_multiple K) := by
  refine F.ok scfirst_multiple (fun vs H Q E h => ?_) (fun cdv A outer s H vs Q E hr h => ?_)
  · obtain ⟨c, l, rfl, _⟩ := h
    rfl
  · obtain ⟨c, l, rfl, hc, hc2, hl, q⟩ := h
    refine ⟨_, (pss_one (ps_ret (pe_op op_mulX (pe_op op_fdivW (pe_op op_sub (pe_op op_add (pv 1) (pv 0)) pe_int) (pv 0)) (pv 0)))), ?_⟩
    have hdv : ∀ z : Int, CDivW z (c : Int) := fun z => wide_div (by omega) (show ((c : Int)).natAbs < 2 ^ 8001 from hc2) (by decide) (by decide)
    have m1 : (l + (c : Int) - 1).natAbs < 2 ^ 9002 := by
      have : (2 : Nat) ^ 9002 = 2 ^ 9000 * 4 := by rw [← Nat.pow_add (m := 9000) (n := 2)]
      have h2 : 2 ^ 8001 ≤ 2 ^ 9000 := Nat.pow_le_pow_right (by decide) (by decide)
      omega
    have m2 : ((l + (c : Int) - 1) / (c : Int)).natAbs < 2 ^ 9002 := Nat.lt_of_le_of_lt (Int.natAbs_ediv_le_natAbs _ _) m1
    exact ⟨_, rfl, _, rfl, _, _, rfl, rfl, _, _, rfl, rfl, _, rfl, _, _, rfl, rfl, hdv _, _, rfl, _, _, rfl, rfl, mulx_ok m2 (show ((c : Int)).natAbs < 2 ^ 8001 from hc2) (by decide), q⟩

theorem oklesser {f : Addr} {fd : FuncData} (F : Fun K "lesser" "lesser" slesser f fd) (nb : NB mg bnames)     : FnOk P w K mg base CX0 1 f fd ["top", "high"] (splesser K) := by
  refine F.ok sclesser (fun vs H Q E h => ?_) (fun cdv A outer s H vs Q E hr h => ?_)
  · obtain ⟨t, o, rfl, _⟩ := h
    rfl
  · obtain ⟨t, o, rfl, q⟩ := h
    refine ⟨_, (pss_one (ps_ret (pe_ifExp (pt_cmpR op_isN (pv 1) pe_non (nomark _)) (pv 0) (pe_callB (call_min2 rfl) (by rfl) (nb "min" rfl) (by decide +kernel) (pa_cons (pv 0) (pa_cons (pv 1) pa_nil)))))), ?_⟩
    cases o with
    | none => exact ⟨_, rfl, rfl, _, rfl, iteT ⟨_, rfl, q⟩⟩
    | some b => exact ⟨_, rfl, rfl, _, rfl, iteF ⟨_, rfl, _, rfl, _, _, rfl, q⟩⟩

theorem okmany_to {f : Addr} {fd : FuncData} (F : Fun K "many_to" "many_to" smany_to f fd) (nb : NB mg bnames) (Flesser : Fd P w K mg base "lesser" 1 ["top", "high"] (splesser K)) (Fstretches : Fd P w K mg base "stretches" 1 ["scale"] (spstretches K))    : FnOk P w K mg base CX0 2 f fd ["scale", "top"] (spmany_to K) := by
  refine F.ok scmany_to (fun vs H Q E h => ?_) (fun cdv A outer s H vs Q E hr h => ?_)
  · obtain ⟨dk, Γ, Δ, a, rs, t, rfl, _⟩ := h
    rfl
  · obtain ⟨dk, Γ, Δ, a, rs, t, rfl, hS, hm, hOk, q⟩ := h
    refine ⟨_, (pss_cons (ps_set (i := 2) scmany_to.nd rfl (.inl rfl) pe_int)
        (pss_cons (ps_for PassesOwn.never rfl (pi_list (pe_fd Fstretches (hr.mono (by decide)) (by rfl) (pa_cons (pv 0) pa_nil))) (pg_tup (by rfl) (pgs_cons (pg_name (i := 3) scmany_to.nd rfl (.inl rfl)) (pgs_cons (pg_name (i := 4) scmany_to.nd rfl (.inl rfl)) (pgs_cons (pg_name (i := 5) scmany_to.nd rfl (.inl rfl)) pgs_nil))))
        (pss_cons (ps_set (i := 6) scmany_to.nd rfl (.inl rfl) (pe_fd Flesser (hr.mono (by decide)) (by rfl) (pa_cons (pv 1) (pa_cons (pv 4) pa_nil))))
        (pss_one (ps_if (pt_cmpR op_le (pv 3) (pv 6) (nomark _)) (pss_one (ps_aug (i := 2) scmany_to.nd rfl (.inl rfl) (pe_op op_sub (pe_op op_fdivW (pv 6) (pv 5)) (pe_op op_fdivW (pe_op op_sub (pv 3) pe_int) (pv 5))) ip_add)) pss_nil))))
        (pss_one (ps_ret (pv 2))))), ?_⟩
    refine ⟨_, rfl, dk, Γ, Δ, a, rs, rfl, hS, hm, hOk, fun H1 p rs' hp hs hS1 => ?_⟩
    have hS2 := hS1.freeze
    have hb := rows_small hOk hp hs
    have hc := cnt_scale hOk hp hs t
    generalize rowsOf 0 1 rs' = R at hS2 hb hc
    obtain ⟨zs, hL, hzl⟩ := hS2.lenL (List.mem_cons_self ..)
    refine ⟨p, rfl, ⟨zs, hL⟩, for_it (n := R.length) walkL (fun i σ H => ∃ (m : Int) (y3 y4 y5 y6 : Option V), σ = [some (.ref a), some (.int t), some (.int m), y3, y4, y5, y6] ∧ St K H dk Γ ((.ref p, .list (R.map rowD)) :: Δ) ∧ m + manyR t (R.drop i) = manyR t R)
      ⟨0, none, none, none, none, rfl, hS2, by rw [List.drop_zero, Int.zero_add]⟩ (fun i σ H _ hP => ?_) (fun i x σ H H' hi hP hy => ?_) (fun σ H hP => ?_)⟩
    · obtain ⟨_, _, _, _, _, _, hS, _⟩ := hP
      obtain ⟨xs, h1, h3⟩ := hS.lenL (List.mem_cons_self ..)
      exact ⟨xs, h1, by rw [h3, List.length_map]⟩
    · obtain ⟨m, y3, y4, y5, y6, rfl, hS, hM⟩ := hP
      obtain ⟨rfl, f⟩ := hy
      obtain ⟨d, e4, hS5⟩ := hS.turnL (List.mem_cons_self ..) f
      rw [List.getElem?_map, List.getElem?_eq_getElem hi] at e4
      cases Option.some.inj e4
      obtain ⟨ax, rfl⟩ := hS5.ref_of (List.mem_cons_self ..)
      have hT := hS5.row (List.mem_cons_self ..)
      rw [List.drop_eq_getElem_cons hi] at hM
      obtain ⟨b1, b2, b3, b4⟩ := hb _ (List.getElem_mem hi)
      generalize R[i] = r at hM b1 b2 b3 b4 hT
      have hdv : ∀ z : Int, CDivW z (r.2.2 : Int) := fun z => wide_div (by omega) (show ((r.2.2 : Int)).natAbs < 2 ^ 8001 from b2) (by decide) (by decide)
      have hM2 : m + ((if r.1 ≤ lesserI t r.2.1 then lesserI t r.2.1 / (r.2.2 : Int) - (r.1 - 1) / (r.2.2 : Int) else 0) + manyR t (R.drop (i + 1))) = manyR t R := hM
      refine ⟨ax, _, rfl, hT, rfl, _, _, rfl, _, _, rfl, _, _, rfl, rfl, ?_⟩
      refine ⟨_, rfl, _, rfl, t, r.2.1, rfl, ?_⟩
      refine ⟨_, rfl, _, rfl, _, _, rfl, rfl, _, rfl, ite2 (fun e => ?_) (fun e => ?_)⟩
      · rw [if_pos (of_decide_eq_true e)] at hM2
        refine ⟨_, rfl, _, rfl, _, rfl, _, _, rfl, rfl, hdv _, _, rfl, _, _, rfl, rfl, _, rfl, _, _, rfl, rfl, hdv _, _, _, rfl, rfl, _, _, rfl, rfl, ?_⟩
        exact ⟨m + (lesserI t r.2.1 / (r.2.2 : Int) - (r.1 - 1) / (r.2.2 : Int)), some (.int r.1), some (optV r.2.1), some (.int (r.2.2 : Int)), some (.int (lesserI t r.2.1)), rfl, hS, by omega⟩
      · rw [if_neg fun z => e (decide_eq_true z)] at hM2
        exact ⟨m, _, _, _, _, rfl, hS, by omega⟩
    · obtain ⟨m, y3, y4, y5, y6, rfl, hS, hM⟩ := hP
      rw [List.drop_length] at hM
      have g := q H (hS.weaken fun _ h => List.mem_cons_of_mem _ h)
      rw [← hc, ← hM, show manyR t [] = 0 from rfl, Int.add_zero] at g
      exact ⟨_, rfl, g⟩

theorem okfitting_many {f : Addr} {fd : FuncData} (F : Fun K "fitting_many" "fitting_many" sfitting_many f fd) (nb : NB mg bnames) (Fmany_to : Fd P w K mg base "many_to" 2 ["scale", "top"] (spmany_to K))    : FnOk P w K mg base CX0 3 f fd ["scale", "low", "high"] (spfitting_many K) := by
  refine F.ok scfitting_many (fun vs H Q E h => ?_) (fun cdv A outer s H vs Q E hr h => ?_)
  · obtain ⟨dk, Γ, Δ, a, rs, l, h, rfl, _⟩ := h
    rfl
  · obtain ⟨dk, Γ, Δ, a, rs, l, h, rfl, hS, hm, hOk, hlh, q⟩ := h
    refine ⟨_, (pss_cons (ps_if (pt_cmpR op_gt (pv 1) pe_int (nomark _)) (pss_one (ps_ret (pe_op op_sub (pe_fd Fmany_to (hr.mono (by decide)) (by rfl) (pa_cons (pv 0) (pa_cons (pv 2) pa_nil))) (pe_fd Fmany_to (hr.mono (by decide)) (by rfl) (pa_cons (pv 0) (pa_cons (pe_op op_sub (pv 1) pe_int) pa_nil)))))) pss_nil)
        (pss_cons (ps_if (pt_cmpR op_lt (pv 2) pe_int (nomark _)) (pss_one (ps_ret (pe_op op_sub (pe_fd Fmany_to (hr.mono (by decide)) (by rfl) (pa_cons (pv 0) (pa_cons (pe_un un_neg (pv 1)) pa_nil))) (pe_fd Fmany_to (hr.mono (by decide)) (by rfl) (pa_cons (pv 0) (pa_cons (pe_op op_sub (pe_un un_neg (pv 2)) pe_int) pa_nil)))))) pss_nil)
        (pss_one (ps_ret (pe_op op_sub (pe_op op_add (pe_fd Fmany_to (hr.mono (by decide)) (by rfl) (pa_cons (pv 0) (pa_cons (pe_un un_neg (pv 1)) pa_nil))) (pe_fd Fmany_to (hr.mono (by decide)) (by rfl) (pa_cons (pv 0) (pa_cons (pv 2) pa_nil)))) pe_int))))), ?_⟩
    have ev : ∀ i, fitsAll rs (-i) = fitsAll rs i := fits_even
    refine ⟨_, rfl, _, _, rfl, rfl, _, rfl, ite2 (fun e => ?_) (fun e => ?_)⟩
    · have e' : 0 < l := of_decide_eq_true e
      refine ⟨_, rfl, _, rfl, dk, Γ, Δ, a, rs, h, rfl, hS, hm, hOk, fun H1 hS1 => ?_⟩
      refine ⟨_, rfl, _, rfl, _, _, rfl, rfl, dk, Γ, Δ, a, rs, l - 1, rfl, hS1, hm, hOk, fun H2 hS2 => ⟨_, _, rfl, rfl, ?_⟩⟩
      have g := q H2 hS2
      have ec : cntP (fitsAll rs) 0 (h - 0 + 1).toNat = cntP (fitsAll rs) 0 (l - 1 - 0 + 1).toNat + cntP (fitsAll rs) l (h - l + 1).toNat := by
        rw [show (h - 0 + 1).toNat = (l - 1 - 0 + 1).toNat + (h - l + 1).toNat by omega, cnt_add, show (0 : Int) + ((l - 1 - 0 + 1).toNat : Int) = l by omega]
      have e2 : ((cntP (fitsAll rs) 0 (h - 0 + 1).toNat : Nat) : Int) - ((cntP (fitsAll rs) 0 (l - 1 - 0 + 1).toNat : Nat) : Int) = (cntP (fitsAll rs) l (h - l + 1).toNat : Nat) := by
        rw [ec]
        omega
      rw [← e2] at g
      exact g
    · have e' : ¬ 0 < l := fun z => e (decide_eq_true z)
      refine ⟨_, rfl, _, _, rfl, rfl, _, rfl, ite2 (fun e3 => ?_) (fun e3 => ?_)⟩
      · have e3' : h < 0 := of_decide_eq_true e3
        refine ⟨_, rfl, _, rfl, _, rfl, dk, Γ, Δ, a, rs, -l, rfl, hS, hm, hOk, fun H1 hS1 => ?_⟩
        refine ⟨_, rfl, _, rfl, _, rfl, _, _, rfl, rfl, dk, Γ, Δ, a, rs, -h - 1, rfl, hS1, hm, hOk, fun H2 hS2 => ⟨_, _, rfl, rfl, ?_⟩⟩
        have g := q H2 hS2
        have em := cnt_mirror ev (k := (h - l + 1).toNat) (a := l)
        rw [show -(l + ((h - l + 1).toNat : Int) - 1) = -h by omega] at em
        have ec : cntP (fitsAll rs) 0 (-l - 0 + 1).toNat = cntP (fitsAll rs) 0 (-h - 1 - 0 + 1).toNat + cntP (fitsAll rs) l (h - l + 1).toNat := by
          rw [show (-l - 0 + 1).toNat = (-h - 1 - 0 + 1).toNat + (h - l + 1).toNat by omega, cnt_add, show (0 : Int) + ((-h - 1 - 0 + 1).toNat : Int) = -h by omega, em]
        have e2 : ((cntP (fitsAll rs) 0 (-l - 0 + 1).toNat : Nat) : Int) - ((cntP (fitsAll rs) 0 (-h - 1 - 0 + 1).toNat : Nat) : Int) = (cntP (fitsAll rs) l (h - l + 1).toNat : Nat) := by
          rw [ec]
          omega
        rw [← e2] at g
        exact g
      · have e3' : ¬ h < 0 := fun z => e3 (decide_eq_true z)
        refine ⟨_, rfl, _, rfl, _, rfl, dk, Γ, Δ, a, rs, -l, rfl, hS, hm, hOk, fun H1 hS1 => ?_⟩
        refine ⟨_, rfl, _, rfl, dk, Γ, Δ, a, rs, h, rfl, hS1, hm, hOk, fun H2 hS2 => ⟨_, _, rfl, rfl, _, _, rfl, rfl, ?_⟩⟩
        have g := q H2 hS2
        have f0 : fitsAll rs 0 = true := fits_low (b := 0) (Int.le_refl 0) (Int.le_refl 0) fun r hr => (hOk.2 r hr).1
        have em := cnt_mirror ev (k := (-l).toNat) (a := 1)
        rw [show -((1 : Int) + ((-l).toNat : Int) - 1) = l by omega] at em
        have eh : cntP (fitsAll rs) 0 (-l - 0 + 1).toNat = 1 + cntP (fitsAll rs) 1 (-l).toNat := by
          rw [show (-l - 0 + 1).toNat = (-l).toNat + 1 by omega, cnt_head, f0, if_pos rfl]
          rfl
        have ec : cntP (fitsAll rs) l (h - l + 1).toNat = cntP (fitsAll rs) 1 (-l).toNat + cntP (fitsAll rs) 0 (h - 0 + 1).toNat := by
          rw [show (h - l + 1).toNat = (-l).toNat + (h - 0 + 1).toNat by omega, cnt_add, em, show l + ((-l).toNat : Int) = 0 by omega]
        have e2 : ((cntP (fitsAll rs) 0 (-l - 0 + 1).toNat : Nat) : Int) + ((cntP (fitsAll rs) 0 (h - 0 + 1).toNat : Nat) : Int) - 1 = (cntP (fitsAll rs) l (h - l + 1).toNat : Nat) := by
          rw [ec, eh]
          omega
        rw [← e2] at g
        exact g

theorem okleast_from {f : Addr} {fd : FuncData} (F : Fun K "least_from" "least_from" sleast_from f fd) (nb : NB mg bnames) (Ffirst_multiple : Fd P w K mg base "first_multiple" 1 ["step", "low"] (spfirst_multiple K)) (Fstretches : Fd P w K mg base "stretches" 1 ["scale"] (spstretches K))    : FnOk P w K mg base CX0 2 f fd ["scale", "number"] (spleast_from K) := by
  refine F.ok scleast_from (fun vs H Q E h => ?_) (fun cdv A outer s H vs Q E hr h => ?_)
  · obtain ⟨dk, Γ, Δ, a, rs, t, rfl, _⟩ := h
    rfl
  · obtain ⟨dk, Γ, Δ, a, rs, t, rfl, hS, hm, hOk, ht, htb, q⟩ := h
    refine ⟨_, (pss_cons (ps_for PassesOwn.never rfl (pi_list (pe_fd Fstretches (hr.mono (by decide)) (by rfl) (pa_cons (pv 0) pa_nil))) (pg_tup (by rfl) (pgs_cons (pg_name (i := 2) scleast_from.nd rfl (.inl rfl)) (pgs_cons (pg_name (i := 3) scleast_from.nd rfl (.inl rfl)) (pgs_cons (pg_name (i := 4) scleast_from.nd rfl (.inl rfl)) pgs_nil))))
        (pss_cons (ps_set (i := 5) scleast_from.nd rfl (.inl rfl) (pe_fd Ffirst_multiple (hr.mono (by decide)) (by rfl) (pa_cons (pv 4) (pa_cons (pe_callB (call_max2 rfl) (by rfl) (nb "max" rfl) (by decide +kernel) (pa_cons (pv 2) (pa_cons (pv 1) pa_nil))) pa_nil))))
        (pss_one (ps_if (PW.pt (pw_or (pt_cmpR op_isN (pv 3) pe_non (nomark _)) (pw_or1 (pt_cmpR op_le (pv 5) (pv 3) (nomark _))))) (pss_one (ps_ret (pv 5))) pss_nil))))
        (pss_one (ps_ret pe_non))), ?_⟩
    refine ⟨_, rfl, dk, Γ, Δ, a, rs, rfl, hS, hm, hOk, fun H1 p rs' hp hs hS1 => ?_⟩
    have hS2 := hS1.freeze
    have hb := rows_small hOk hp hs
    have hc := least_scale hOk hp hs ht
    generalize rowsOf 0 1 rs' = R at hS2 hb hc
    obtain ⟨zs, hL, hzl⟩ := hS2.lenL (List.mem_cons_self ..)
    refine ⟨p, rfl, ⟨zs, hL⟩, for_it (n := R.length) walkL (fun i σ H => ∃ (y2 y3 y4 y5 : Option V), σ = [some (.ref a), some (.int t), y2, y3, y4, y5] ∧ St K H dk Γ ((.ref p, .list (R.map rowD)) :: Δ) ∧ leastR t (R.drop i) = leastR t R)
      ⟨none, none, none, none, rfl, hS2, by rw [List.drop_zero]⟩ (fun i σ H _ hP => ?_) (fun i x σ H H' hi hP hy => ?_) (fun σ H hP => ?_)⟩
    · obtain ⟨_, _, _, _, _, hS, _⟩ := hP
      obtain ⟨xs, h1, h3⟩ := hS.lenL (List.mem_cons_self ..)
      exact ⟨xs, h1, by rw [h3, List.length_map]⟩
    · obtain ⟨y2, y3, y4, y5, rfl, hS, hM⟩ := hP
      obtain ⟨rfl, f⟩ := hy
      obtain ⟨d, e4, hS5⟩ := hS.turnL (List.mem_cons_self ..) f
      rw [List.getElem?_map, List.getElem?_eq_getElem hi] at e4
      cases Option.some.inj e4
      obtain ⟨ax, rfl⟩ := hS5.ref_of (List.mem_cons_self ..)
      have hT := hS5.row (List.mem_cons_self ..)
      rw [List.drop_eq_getElem_cons hi] at hM
      obtain ⟨b1, b2, b3, b4⟩ := hb _ (List.getElem_mem hi)
      generalize R[i] = r at hM b1 b2 b3 b4 hT
      obtain ⟨low, high, c⟩ := r
      dsimp only at b1 b2 b3 b4 hT
      have hmx : (maxI low t).natAbs < 2 ^ 9000 := by
        have e1 : (2 : Nat) ^ 8000 ≤ 2 ^ 9000 := Nat.pow_le_pow_right (by decide) (by decide)
        have e2 : (10 : Nat) ^ 60 + 1 < 2 ^ 9000 := by decide +kernel
        unfold maxI
        split <;> omega
      refine ⟨ax, _, rfl, hT, rfl, _, _, rfl, _, _, rfl, _, _, rfl, rfl, ?_⟩
      refine ⟨_, rfl, _, rfl, _, rfl, _, _, rfl, c, maxI low t, rfl, b1, b2, hmx, ?_⟩
      have hfin := hS.weaken (Δ' := Δ) fun _ h => List.mem_cons_of_mem _ h
      cases high with
      | none =>
        have hM2 : some (firstMul c (maxI low t)) = leastR t R := hM
        rw [← hM2] at hc
        exact ⟨_, rfl, rfl, _, rfl, iteT ⟨_, rfl, q _ _ hc hfin⟩⟩
      | some b =>
        have hM2 : (if firstMul c (maxI low t) ≤ b then some (firstMul c (maxI low t)) else leastR t (R.drop (i + 1))) = leastR t R := hM
        refine ⟨_, rfl, rfl, _, rfl, iteF ⟨_, rfl, _, rfl, _, _, rfl, rfl, _, rfl, ite2 (fun e => ?_) (fun e => ?_)⟩⟩
        · rw [if_pos (of_decide_eq_true e)] at hM2
          rw [← hM2] at hc
          exact ⟨_, rfl, q _ _ hc hfin⟩
        · rw [if_neg fun z => e (decide_eq_true z)] at hM2
          exact ⟨_, _, _, _, rfl, hS, hM2⟩
    · obtain ⟨y2, y3, y4, y5, rfl, hS, hM⟩ := hP
      rw [List.drop_length] at hM
      rw [← hM] at hc
      exact q _ none hc (hS.weaken fun _ h => List.mem_cons_of_mem _ h)

theorem okgreatest_to {f : Addr} {fd : FuncData} (F : Fun K "greatest_to" "greatest_to" sgreatest_to f fd) (nb : NB mg bnames) (Flesser : Fd P w K mg base "lesser" 1 ["top", "high"] (splesser K)) (Fstretches : Fd P w K mg base "stretches" 1 ["scale"] (spstretches K))    : FnOk P w K mg base CX0 2 f fd ["scale", "number"] (spgreatest_to K) := by
  refine F.ok scgreatest_to (fun vs H Q E h => ?_) (fun cdv A outer s H vs Q E hr h => ?_)
  · obtain ⟨dk, Γ, Δ, a, rs, t, rfl, _⟩ := h
    rfl
  · obtain ⟨dk, Γ, Δ, a, rs, t, rfl, hS, hm, hOk, ht, htb, q⟩ := h
    refine ⟨_, (pss_cons (ps_set (i := 2) scgreatest_to.nd rfl (.inl rfl) pe_int)
        (pss_cons (ps_for PassesOwn.never rfl (pi_list (pe_fd Fstretches (hr.mono (by decide)) (by rfl) (pa_cons (pv 0) pa_nil))) (pg_tup (by rfl) (pgs_cons (pg_name (i := 3) scgreatest_to.nd rfl (.inl rfl)) (pgs_cons (pg_name (i := 4) scgreatest_to.nd rfl (.inl rfl)) (pgs_cons (pg_name (i := 5) scgreatest_to.nd rfl (.inl rfl)) pgs_nil))))
        (pss_cons (ps_set (i := 6) scgreatest_to.nd rfl (.inl rfl) (pe_op op_mulX (pe_op op_fdivW (pe_fd Flesser (hr.mono (by decide)) (by rfl) (pa_cons (pv 1) (pa_cons (pv 4) pa_nil))) (pv 5)) (pv 5)))
        (pss_one (ps_if (pt_cmpR op_ge (pv 6) (pv 3) (nomark _)) (pss_one (ps_set (i := 2) scgreatest_to.nd rfl (.inl rfl) (pv 6))) pss_nil))))
        (pss_one (ps_ret (pv 2))))), ?_⟩
    refine ⟨_, rfl, dk, Γ, Δ, a, rs, rfl, hS, hm, hOk, fun H1 p rs' hp hs hS1 => ?_⟩
    have hS2 := hS1.freeze
    have hb := rows_small hOk hp hs
    have hlb := rows_lesser hOk hp ht
    have hc := great_scale hOk hp hs t
    generalize rowsOf 0 1 rs' = R at hS2 hb hc hlb
    obtain ⟨zs, hL, hzl⟩ := hS2.lenL (List.mem_cons_self ..)
    refine ⟨p, rfl, ⟨zs, hL⟩, for_it (n := R.length) walkL (fun i σ H => ∃ (g : Int) (y3 y4 y5 y6 : Option V), σ = [some (.ref a), some (.int t), some (.int g), y3, y4, y5, y6] ∧ St K H dk Γ ((.ref p, .list (R.map rowD)) :: Δ) ∧ greatR t g (R.drop i) = greatR t 0 R)
      ⟨0, none, none, none, none, rfl, hS2, by rw [List.drop_zero]⟩ (fun i σ H _ hP => ?_) (fun i x σ H H' hi hP hy => ?_) (fun σ H hP => ?_)⟩
    · obtain ⟨_, _, _, _, _, _, hS, _⟩ := hP
      obtain ⟨xs, h1, h3⟩ := hS.lenL (List.mem_cons_self ..)
      exact ⟨xs, h1, by rw [h3, List.length_map]⟩
    · obtain ⟨g, y3, y4, y5, y6, rfl, hS, hM⟩ := hP
      obtain ⟨rfl, f⟩ := hy
      obtain ⟨d, e4, hS5⟩ := hS.turnL (List.mem_cons_self ..) f
      rw [List.getElem?_map, List.getElem?_eq_getElem hi] at e4
      cases Option.some.inj e4
      obtain ⟨ax, rfl⟩ := hS5.ref_of (List.mem_cons_self ..)
      have hT := hS5.row (List.mem_cons_self ..)
      rw [List.drop_eq_getElem_cons hi] at hM
      obtain ⟨b1, b2, b3, b4⟩ := hb _ (List.getElem_mem hi)
      obtain ⟨c1, c2⟩ := hlb _ (List.getElem_mem hi)
      generalize R[i] = r at hM b1 b2 b3 b4 c1 c2 hT
      have hdv : ∀ z : Int, CDivW z (r.2.2 : Int) := fun z => wide_div (by omega) (show ((r.2.2 : Int)).natAbs < 2 ^ 8001 from b2) (by decide) (by decide)
      have hz : (lesserI t r.2.1).natAbs < 2 ^ 8000 := Nat.lt_of_le_of_lt (show (lesserI t r.2.1).natAbs ≤ t.natAbs by omega) htb
      have hz2 : (lesserI t r.2.1 / (r.2.2 : Int)).natAbs < 2 ^ 8000 := Nat.lt_of_le_of_lt (Int.natAbs_ediv_le_natAbs _ _) hz
      have hM2 : greatR t (if lesserI t r.2.1 / (r.2.2 : Int) * (r.2.2 : Int) ≥ r.1 then lesserI t r.2.1 / (r.2.2 : Int) * (r.2.2 : Int) else g) (R.drop (i + 1)) = greatR t 0 R := hM
      refine ⟨ax, _, rfl, hT, rfl, _, _, rfl, _, _, rfl, _, _, rfl, rfl, ?_⟩
      refine ⟨_, rfl, _, rfl, t, r.2.1, rfl, _, rfl, _, _, rfl, rfl, hdv _, _, rfl, _, _, rfl, rfl, mulx_ok hz2 (show ((r.2.2 : Int)).natAbs < 2 ^ 8001 from b2) (by decide), ?_⟩
      refine ⟨_, rfl, _, rfl, _, _, rfl, rfl, _, rfl, ite2 (fun e => ?_) (fun e => ?_)⟩
      · rw [if_pos (of_decide_eq_true e)] at hM2
        exact ⟨_, rfl, _, _, _, _, _, rfl, hS, hM2⟩
      · rw [if_neg fun z => e (decide_eq_true z)] at hM2
        exact ⟨g, _, _, _, _, rfl, hS, hM2⟩
    · obtain ⟨g, y3, y4, y5, y6, rfl, hS, hM⟩ := hP
      rw [List.drop_length] at hM
      rw [← hM] at hc
      exact ⟨_, rfl, q H _ hc (hS.weaken fun _ h => List.mem_cons_of_mem _ h)⟩

theorem okfitting_from {f : Addr} {fd : FuncData} (F : Fun K "fitting_from" "fitting_from" sfitting_from f fd) (nb : NB mg bnames) (Fgreatest_to : Fd P w K mg base "greatest_to" 2 ["scale", "number"] (spgreatest_to K)) (Fleast_from : Fd P w K mg base "least_from" 2 ["scale", "number"] (spleast_from K))    : FnOk P w K mg base CX0 3 f fd ["scale", "number"] (spfitting_from K) := by
  refine F.ok scfitting_from (fun vs H Q E h => ?_) (fun cdv A outer s H vs Q E hr h => ?_)
  · obtain ⟨dk, Γ, Δ, a, rs, t, rfl, _⟩ := h
    rfl
  · obtain ⟨dk, Γ, Δ, a, rs, t, rfl, hS, hm, hOk, htb, q⟩ := h
    refine ⟨_, (pss_cons (ps_if (pt_cmpR op_gt (pv 1) pe_int (nomark _)) (pss_one (ps_ret (pe_fd Fleast_from (hr.mono (by decide)) (by rfl) (pa_cons (pv 0) (pa_cons (pv 1) pa_nil))))) pss_nil)
        (pss_one (ps_ret (pe_un un_neg (pe_fd Fgreatest_to (hr.mono (by decide)) (by rfl) (pa_cons (pv 0) (pa_cons (pe_un un_neg (pv 1)) pa_nil))))))), ?_⟩
    refine ⟨_, rfl, _, _, rfl, rfl, _, rfl, ite2 (fun e => ?_) (fun e => ?_)⟩
    · exact ⟨_, rfl, _, rfl, dk, Γ, Δ, a, rs, t, rfl, hS, hm, hOk, of_decide_eq_true e, htb, fun H' o ho hS' => q H' o ho hS'⟩
    · have e' : ¬ 0 < t := fun z => e (decide_eq_true z)
      exact ⟨_, rfl, _, rfl, _, rfl, dk, Γ, Δ, a, rs, -t, rfl, hS, hm, hOk, by omega, by rw [Int.natAbs_neg]; exact htb, fun H' res ho hS' => ⟨_, rfl, q H' (some (-res)) (great_least hOk (by omega) ho) hS'⟩⟩

theorem cut63 {ns : List Int} (h : ns.length ≤ 63) : cutV (ns.map V.int) none (some 63) = ns.map V.int := by
  unfold cutV
  rw [show HT.sIx (ns.map V.int).length (ns.map V.int).length (some 63) = min 63 (ns.map V.int).length from HT.sIx_nat _ _ 63, HT.sIx_none]
  rw [List.drop_zero, List.length_map]
  apply List.take_of_length_le
  rw [List.length_map]
  omega
theorem wS0 {K : PySem.W.Frag} {H : Hp} {a c d : Addr} {xs : List V} {o u : HO} (h : SqL K H a xs) (hc : H c = none) (hd : H d = some (.dK [])) : SqL K (upd (upd H c o) d u) a xs := by
  have ne : ∀ {w : HO}, H a = some w → (∀ k, w ≠ .dK k) → a ≠ c ∧ a ≠ d := fun e n => ⟨ne_of_none e hc, ne_of e hd (n [])⟩
  rcases h with (h | ⟨o, h⟩) | h
  · obtain ⟨n1, n2⟩ := ne h (by intro k z; cases z)
    exact .inl (.inl ((upd_ne n2).trans ((upd_ne n1).trans h)))
  · obtain ⟨n1, n2⟩ := ne h (by intro k z; cases z)
    exact .inl (.inr ⟨o, (upd_ne n2).trans ((upd_ne n1).trans h)⟩)
  · exact .inr h
theorem ok_law_deck {f : Addr} {fd : FuncData} (F : Fun K "_law_deck" "_law_deck" s_law_deck f fd) (nb : NB mg bnames)     : FnOk P w K mg base CX0 1 f fd ["script"] (sp_law_deck K) := by
  refine F.ok sc_law_deck (fun vs H Q E h => ?_) (fun cdv A outer s H vs Q E hr h => ?_)
  · obtain ⟨a, ns, rfl, _⟩ := h
    rfl
  · obtain ⟨a, ns, rfl, hS, hlen, q⟩ := h
    refine ⟨_, (pss_cons (ps_set (i := 1) sc_law_deck.nd rfl (.inl rfl) (pe_disp (pps_cons pe_str (pe_lst pa_nil) (pps_cons pe_str (pe_op op_add pe_int (pe_callB call_len_seq (by rfl) (nb "len" rfl) PySem.boot_len (pa_cons (pe_slice sl_list (pv 0) po_none (po_some pe_int)) pa_nil))) pps_nil)) (by rfl) (by rfl) (fun z => by cases z) (by decide)))
        (pss_cons (ps_for PassesOwn.never rfl (pi_list (pe_slice sl_list (pv 0) po_none (po_some pe_int))) (pg_name (i := 2) sc_law_deck.nd rfl (.inl rfl))
        (pss_cons (ps_set (i := 3) sc_law_deck.nd rfl (.inl rfl) (pe_callB call_abs (by rfl) (nb "abs" rfl) (by decide +kernel) (pa_cons (pv 2) pa_nil)))
        (Evl.pss_cut (ps_if (pt_cmpR op_ge (pv 3) (pe_op op_powW pe_int pe_int) (nomark _)) (pss_one (ps_dput (hu_of hr) (pv 1) pe_str (pe_op op_cat (pe_lst (pa_cons (pv 3) pa_nil)) (pe_dget (hu_of hr) (pv 1) pe_str (fun _ _ => rfl))) rfl)) pss_nil)
        (pss_cons (ps_set (i := 4) sc_law_deck.nd rfl (.inl rfl) (pe_op op_add (pe_op op_mul (pe_op op_add (pe_op op_add (pe_op op_add (pe_dget (hu_of hr) (pv 1) pe_str (fun _ _ => rfl)) (pe_op op_mul pe_int (pv 3))) (pe_callTy call_int1 (by rfl) (nb "int" rfl) (by decide +kernel) (pa_cons (pe_cmpR op_lt (pv 2) pe_int (nomark _)) pa_nil))) pe_int) pe_int) pe_int))
        (pss_one (ps_dput (hu_of hr) (pv 1) pe_str (pe_op op_mod (pe_callTy call_int1 (by rfl) (nb "int" rfl) (by decide +kernel) (pa_cons (pv 4) pa_nil)) pe_int) rfl))))))
        (pss_one (ps_ret (pv 1))))), ?_⟩
    -- deck = {'deep': [], 'state': ..}
    refine fun d hd => ⟨Nat.zero_le _, fun l hl => ?_⟩
    have nld : l ≠ d := (ne_of_none upd_same hl).symm
    have s0 : Same H (upd H d (.dK [])) := fun b o e => by rw [upd_ne (ne_of_none e hd)]; exact e
    have s1 : Same (upd H d (.dK [])) (upd (upd H d (.dK [])) l (.lst [])) := fun b o e => by rw [upd_ne (ne_of_none e hl)]; exact e
    have w1 : upd (upd H d (.dK [])) l (.lst []) d = some (.dK []) := (upd_ne nld.symm).trans upd_same
    have w2 : upd (upd H d (.dK [])) l (.lst []) l = some (.lst []) := upd_same
    have wS : SqL K (upd (upd H d (.dK [])) l (.lst [])) a (ns.map V.int) := (s0.trans s1).seq hS
    revert w1 w2 wS
    generalize upd (upd H d (.dK [])) l (.lst []) = H1
    intro w1 w2 wS
    refine ⟨_, rfl, _, rfl, a, _, rfl, wS, fun c hc => ?_⟩
    rw [cut63 hlen]
    have s2 : Same H1 (upd H1 c (.lst (ns.map V.int))) := fun b o e => by rw [upd_ne (ne_of_none e hc)]; exact e
    refine ⟨c, _, rfl, .inl (SqL.of upd_same), _, _, rfl, rfl, s2 _ _ w1, [(.inr "deep", .ref l), (.inr "state", .int _)], rfl, (by show 2 ≤ 15; decide), ?_⟩
    have hlen' : (ns.map V.int).length ≤ 63 := by rw [List.length_map]; exact hlen
    have h20 : 0 ≤ (1278803 : Int) + ((ns.map V.int).length : Nat) := by omega
    have h21 : (1278803 : Int) + ((ns.map V.int).length : Nat) < 2305843009213693951 := by omega
    revert h20 h21
    show _ → _ → _
    intro h20 h21
    have ncd : d ≠ c := ne_of_none w1 hc
    have ncl : l ≠ c := ne_of_none w2 hc
    refine ⟨_, rfl, _, rfl, a, ns.map V.int, rfl, wS0 wS hc w1, fun c2 hc2 => ?_⟩
    rw [cut63 hlen]
    refine ⟨c2, rfl, ⟨_, SqL.of upd_same⟩, ?_⟩
    have ncd2 : d ≠ c2 := ne_of_none upd_same hc2
    have ncl2 : l ≠ c2 := ne_of_none ((upd_ne nld).trans ((upd_ne ncl).trans w2)) hc2
    have st : St K (upd (upd (upd H1 c (.lst (ns.map V.int))) d (.dK (mergeK [] [(.inr "deep", .ref l), (.inr "state", .int (1278803 + ((ns.map V.int).length : Nat)))]))) c2 (.lst (ns.map V.int))) (some (d, l)) [] [(.ref c2, .list (ns.map PyData.int))] := by
      refine ⟨fun b => if b = c2 then some (.lst (ns.map V.int)) else none, fun b o e => ?_, fun p hp => ?_, fun g hg => (nomatch hg), List.Pairwise.nil, fun d' l' e => ?_⟩
      · by_cases hb : b = c2
        · subst hb
          rw [if_pos rfl] at e
          rw [← e]
          exact upd_same
        · rw [if_neg hb] at e
          cases e
      · rw [List.mem_singleton.mp hp]
        exact .lst (SqL.of (if_pos rfl)) (dps_of_ints ns)
      · cases e
        refine ⟨if_neg ncd2, if_neg ncl2, fun g hg => (nomatch hg), _, [], (upd_ne ncd2).trans ?_, (upd_ne ncl2).trans ((upd_ne nld).trans ((upd_ne ncl).trans w2)), fun x hx => (nomatch hx), by decide, h20, h21⟩
        exact upd_same
    refine for_it (n := ns.length) walkL (fun i σ H => ∃ l s xs y2 y3 y4, σ = [some (.ref a), some (.ref d), y2, y3, y4] ∧ St K H (some (d, l)) [] [(.ref c2, .list (ns.map PyData.int))] ∧ H d = some (.dK [(.inr "deep", .ref l), (.inr "state", .int s)]) ∧ H l = some (.lst (xs.map V.int)) ∧
        (∀ x ∈ xs, 0 ≤ x) ∧ xs.length ≤ i ∧ 0 ≤ s ∧ s < 2305843009213693951)
      ⟨l, _, [], _, _, _, rfl, st, (upd_ne ncd2).trans upd_same, (upd_ne ncl2).trans ((upd_ne nld).trans ((upd_ne ncl).trans w2)), fun x hx => (nomatch hx), Nat.zero_le _, h20, h21⟩ (fun i σ H _ hP => ?_) (fun i x σ H H' hi hP hy => ?_) (fun σ H hP => ?_)
    · obtain ⟨_, _, _, _, _, _, _, hS, _⟩ := hP
      obtain ⟨xs, h1, h3⟩ := hS.lenL (List.mem_cons_self ..)
      exact ⟨xs, h1, by rw [h3, List.length_map]⟩
    · obtain ⟨l, s, xs, y2, y3, y4, rfl, hS, h1, h2, h3, h4, h5, h6⟩ := hP
      obtain ⟨rfl, f⟩ := hy
      obtain ⟨dd, e1, hS1⟩ := hS.turnL (List.mem_cons_self ..) f
      rw [List.getElem?_map, List.getElem?_eq_getElem hi] at e1
      cases Option.some.inj e1
      have ex := hS1.int_of (List.mem_cons_self ..)
      subst ex
      generalize ns[i] = z at hS1 e1
      have hw : 0 ≤ (if z < 0 then -z else z) := by
        by_cases hz : z < 0
        · rw [if_pos hz]; omega
        · rw [if_neg hz]; omega
      -- whole = abs(cell)
      refine ⟨_, rfl, _, rfl, ?_⟩
      generalize (if z < 0 then -z else z) = wh at hw
      -- if whole >= 10 ** 18
      refine ⟨fun σ H => ∃ (l : Addr) (xs : List Int), σ = [some (.ref a), some (.ref d), some (.int z), some (.int wh), y4] ∧ St K H (some (d, l)) [] [(.ref c2, .list (ns.map PyData.int))] ∧ H d = some (.dK [(.inr "deep", .ref l), (.inr "state", .int s)]) ∧ H l = some (.lst (xs.map V.int)) ∧
        (∀ x ∈ xs, 0 ≤ x) ∧ xs.length ≤ i + 1, ?_, fun σ H hM => ?_⟩
      · refine ⟨_, rfl, _, _, rfl, rfl, ⟨by decide, by decide⟩, _, _, rfl, rfl, _, rfl, ite2 (fun e => ?_) (fun e => ?_)⟩
        · refine ⟨_, rfl, (by show 1 ≤ sizeLine; decide), fun t ht => ⟨_, rfl, d, .ref l, rfl, deck_deep ((upd_ne (ne_of_none h1 ht)).trans h1), t, l, _, _, rfl, rfl, upd_same, (upd_ne (ne_of_none h2 ht)).trans h2, ?_, fun m hm => ?_⟩⟩
          · rw [List.length_map]
            exact Nat.le_of_lt (small1000 (by show 1 + xs.length ≤ 1000; omega))
          · have hS2 := ((hS1.weaken (Δ' := [(.ref c2, .list (ns.map PyData.int))]) fun _ => List.mem_cons_of_mem _).lst (vs := [.int wh]) (ds := [.int wh]) ht (.cons (.int _) .nil)).weaken (Δ' := [(.ref c2, .list (ns.map PyData.int))]) fun _ => List.mem_cons_of_mem _
            have k1 := (upd_ne (o := HO.lst [V.int wh]) (ne_of_none h1 ht)).trans h1
            have ndm : d ≠ m := ne_of_none k1 hm
            have k2 := (upd_ne (H := upd _ t (.lst [.int wh])) (o := HO.lst ([V.int wh] ++ xs.map V.int)) ndm).trans k1
            have e1 : [V.int wh] ++ xs.map V.int = (wh :: xs).map V.int := rfl
            refine ⟨_, rfl, d, _, rfl, put_deep k2, m, wh :: xs, rfl, hS2.redeck hm (fun b hb hb2 => (upd_ne hb).trans (upd_ne hb2)) ⟨s, wh :: xs, upd_same, (upd_ne ndm.symm).trans upd_same, ?_, ?_, h5, h6⟩, upd_same, (upd_ne ndm.symm).trans upd_same, ?_, ?_⟩
            · intro x hx
              rcases List.mem_cons.mp hx with rfl | hx
              · exact hw
              · exact h3 x hx
            · rw [List.length_cons]
              omega
            · intro x hx
              rcases List.mem_cons.mp hx with rfl | hx
              · exact hw
              · exact h3 x hx
            · rw [List.length_cons]
              omega
        · exact ⟨l, xs, rfl, hS1.weaken fun _ => List.mem_cons_of_mem _, h1, h2, h3, by omega⟩
      · obtain ⟨l, xs, rfl, hS2, k1, k2, k3, k4⟩ := hM
        have ndl : d ≠ l := dk_ne k1 k2
        refine ⟨_, rfl, d, _, rfl, deck_state k1, _, rfl, _, _, rfl, rfl, .inl (by decide), _, _, rfl, rfl, _, rfl, _, _, rfl, rfl, .inr ⟨_, rfl, _, _, rfl, rfl, _, _, rfl, rfl, _, _, rfl, rfl, .inr (by decide), _, _, rfl, rfl, ?_⟩⟩
        refine ⟨_, rfl, .inl ⟨_, rfl, _, _, rfl, rfl, (by show (0 : Int) < 2305843009213693951; decide), _, rfl, d, _, rfl, put_state k1, ?_⟩⟩
        refine ⟨l, _, xs, _, _, _, rfl, hS2.deal (fun b hb _ => upd_ne hb) ⟨_, xs, upd_same, (upd_ne ndl.symm).trans k2, k3, by omega, Int.emod_nonneg _ (by decide), Int.emod_lt_of_pos _ (by decide)⟩, upd_same, (upd_ne ndl.symm).trans k2, k3, k4, Int.emod_nonneg _ (by decide), Int.emod_lt_of_pos _ (by decide)⟩
    · obtain ⟨l, s, xs, y2, y3, y4, rfl, hS, h1, h2, h3, h4, h5, h6⟩ := hP
      exact ⟨_, rfl, q _ d l (hS.weaken fun _ h => nomatch h)⟩

theorem ok_law_draw {f : Addr} {fd : FuncData} (F : Fun K "_law_draw" "_law_draw" s_law_draw f fd) (nb : NB mg bnames)     : FnOk P w K mg base CX0 1 f fd ["deck", "many"] (sp_law_draw K) := by
  refine F.ok sc_law_draw (fun vs H Q E h => ?_) (fun cdv A outer s H vs Q E hr h => ?_)
  · obtain ⟨d, l, m, Γ, Δ, rfl, _⟩ := h
    rfl
  · obtain ⟨d, l, m, Γ, Δ, rfl, hS, hm, q⟩ := h
    refine ⟨_, (pss_cons (ps_if (pt_cmpR op_lt (pv 1) pe_int (nomark _)) (pss_one (ps_ret pe_int)) pss_nil)
        (pss_cons (ps_if (pt_cmpR (op_neD hr.units) (pe_dget (hu_of hr) (pv 0) pe_str (fun _ _ => rfl)) (pe_lst pa_nil) (nomark _)) (pss_cons (ps_set (i := 2) sc_law_draw.nd rfl (.inl rfl) (pe_bm0 PySem.F.plainAttrs_list PySem.F.slot_list_pop PySem.F.type_list_pop mt_pop (pe_dget (hu_of hr) (pv 0) pe_str (fun _ _ => rfl))))
        (pss_cons (ps_if (pt_cmpR op_ge (pv 2) (pv 1) (nomark _)) (pss_one (ps_expr (pe_bm PySem.F.plainAttrs_list PySem.F.slot_list_append PySem.F.type_list_append mt_append (pe_dget (hu_of hr) (pv 0) pe_str (fun _ _ => rfl)) (pa_cons (pe_op op_fdivW (pv 2) (pv 1)) pa_nil)))) pss_nil)
        (pss_one (ps_ret (pe_op op_mod (pe_callTy call_int1 (by rfl) (nb "int" rfl) (by decide +kernel) (pa_cons (pv 2) pa_nil)) (pv 1)))))) pss_nil)
        (pss_cons (ps_set (i := 3) sc_law_draw.nd rfl (.inl rfl) (pe_op op_mod (pe_callTy call_int1 (by rfl) (nb "int" rfl) (by decide +kernel) (pa_cons (pe_op op_add (pe_op op_mul (pe_dget (hu_of hr) (pv 0) pe_str (fun _ _ => rfl)) pe_int) pe_int) pa_nil)) pe_int))
        (pss_cons (ps_dput (hu_of hr) (pv 0) pe_str (pv 3) rfl)
        (pss_cons (ps_set (i := 4) sc_law_draw.nd rfl (.inl rfl) (pe_op op_mod (pe_callTy call_int1 (by rfl) (nb "int" rfl) (by decide +kernel) (pa_cons (pe_op op_add (pe_op op_add (pe_op op_mulX (pv 3) (pv 3)) (pe_op op_mul pe_int (pv 3))) pe_int) pa_nil)) pe_int))
        (pss_one (ps_ret (pe_op op_mod (pe_callTy call_int1 (by rfl) (nb "int" rfl) (by decide +kernel) (pa_cons (pe_op op_fdiv (pv 4) pe_int) pa_nil)) (pv 1))))))))), ?_⟩
    refine ⟨_, rfl, _, _, rfl, rfl, _, rfl, ite2 (fun e => ?_) (fun e => ?_)⟩
    · exact q H 0 hS (Int.le_refl 0) (Or.inr rfl)
    · have hm2 : 2 ≤ m := by simpa using e
      have hpos : 0 < m := by omega
      have hdiv : ∀ z : Int, CDivW z m := fun z => wide_div hpos hm (by decide) (by decide)
      obtain ⟨s, xs, h1, h2, h3, h4, h5, h6⟩ := hS.deck
      refine ⟨_, rfl, d, .ref l, rfl, deck_deep h1, Nat.zero_le _, fun p hp => ?_⟩
      have hS1 := (hS.lst (ds := []) hp .nil).weaken fun x hx => List.mem_cons_of_mem _ hx
      have g1 := (upd_ne (H := H) (o := HO.lst []) (ne_of_none h1 hp)).trans h1
      have g2 := (upd_ne (H := H) (o := HO.lst []) (ne_of_none h2 hp)).trans h2
      have g3 : upd H p (.lst []) p = some (.lst []) := upd_same
      revert hS1 g1 g2 g3
      generalize upd H p (.lst []) = H1
      intro hS1 g1 g2 g3
      have ndl : d ≠ l := dk_ne g1 g2
      refine ne_nil_list (ds := xs.map PyData.int) (.lst (SqL.of g2) (dps_of_ints xs)) (.lst (SqL.of g3) .nil) (lay_ints xs) ⟨_, rfl, ite2 (fun e2 => ?_) (fun e2 => ?_)⟩
      · have hne : xs ≠ [] := by
          intro z
          subst z
          exact absurd e2 (by decide)
        obtain ⟨ys, z, rfl⟩ : ∃ ys z, xs = ys ++ [z] := ⟨_, _, (List.dropLast_concat_getLast hne).symm⟩
        have hz : 0 ≤ z := h3 z (by simp)
        have elast : ((ys ++ [z]).map V.int)[((ys ++ [z]).map V.int).length - 1]? = some (.int z) := by simp
        have edrop : ((ys ++ [z]).map V.int).dropLast = ys.map V.int := by simp
        refine ⟨_, rfl, d, .ref l, rfl, deck_deep g1, .inl ⟨rfl, _, SqL.of g2⟩, l, _, .int z, rfl, rfl, g2, elast, ?_⟩
        rw [edrop]
        have hl : ys.length ≤ 63 := by
          rw [List.length_append, List.length_singleton] at h4
          omega
        have k1 : upd H1 l (.lst (ys.map V.int)) d = _ := (upd_ne ndl).trans g1
        have k2 : upd H1 l (.lst (ys.map V.int)) l = some (.lst (ys.map V.int)) := upd_same
        have k3 : ∀ b, b ≠ d → b ≠ l → upd H1 l (.lst (ys.map V.int)) b = H1 b := fun b _ hb => upd_ne hb
        revert k1 k2 k3
        generalize upd H1 l (.lst (ys.map V.int)) = H2
        intro k1 k2 k3
        have hmod : 0 ≤ z % m ∧ z % m < m := ⟨Int.emod_nonneg z (by omega), Int.emod_lt_of_pos z hpos⟩
        refine ⟨_, rfl, _, rfl, _, _, rfl, rfl, _, rfl, ite2 (fun e3 => ?_) (fun e3 => ?_)⟩
        · refine ⟨_, rfl, d, .ref l, rfl, deck_deep k1, .inl ⟨rfl, _, SqL.of k2⟩, _, rfl, _, rfl, _, _, rfl, rfl, hdiv z, l, _, _, rfl, rfl, k2, ?_, ?_⟩
          · rw [List.length_map]
            exact small1000 (by omega)
          · have eapp : ys.map V.int ++ [V.int (z / m)] = (ys ++ [z / m]).map V.int := by simp
            rw [eapp]
            refine ⟨_, rfl, .inl ⟨_, rfl, _, rfl, _, _, rfl, rfl, hpos, q _ (z % m) (hS1.deal (fun b hb hb2 => (upd_ne hb2).trans (k3 b hb hb2)) ⟨s, ys ++ [z / m], (upd_ne ndl).trans k1, upd_same, ?_, ?_, h5, h6⟩) hmod.1 (Or.inl hmod.2)⟩⟩
            · intro x hx
              rcases List.mem_append.mp hx with hx | hx
              · exact h3 x (List.mem_append_left _ hx)
              · rw [List.mem_singleton.mp hx]
                exact Int.ediv_nonneg hz (by omega)
            · rw [List.length_append, List.length_singleton]
              omega
        · exact ⟨_, rfl, .inl ⟨_, rfl, _, rfl, _, _, rfl, rfl, hpos, q _ (z % m) (hS1.deal k3 ⟨s, ys, k1, k2, fun x hx => h3 x (List.mem_append_left _ hx), by omega, h5, h6⟩) hmod.1 (Or.inl hmod.2)⟩⟩
      · have o1 : 0 ≤ (s * 1181783497276652981 + 88172645463325) % 2305843009213693951 := Int.emod_nonneg _ (by decide)
        have o2 : (s * 1181783497276652981 + 88172645463325) % 2305843009213693951 < 2305843009213693951 := Int.emod_lt_of_pos _ (by decide)
        have hmul : CMulX ((s * 1181783497276652981 + 88172645463325) % 2305843009213693951) ((s * 1181783497276652981 + 88172645463325) % 2305843009213693951) := mulx_ok (a := 61) (b := 61) (by omega) (by omega) (by decide)
        refine ⟨_, rfl, d, _, rfl, deck_state g1, _, _, rfl, rfl, .inr (by decide), _, _, rfl, rfl, .inl ⟨_, rfl, _, _, rfl, rfl, (by show (0 : Int) < 2305843009213693951; decide), ?_⟩⟩
        refine ⟨_, rfl, _, rfl, d, _, rfl, put_state g1, ?_⟩
        refine ⟨_, rfl, _, rfl, _, _, rfl, rfl, hmul, _, rfl, _, _, rfl, rfl, .inl (by decide), _, _, rfl, rfl, _, _, rfl, rfl, .inl ⟨_, rfl, _, _, rfl, rfl, (by show (0 : Int) < 2305843009213693921; decide), ?_⟩⟩
        refine ⟨_, rfl, _, _, rfl, rfl, ⟨by decide, by decide⟩, .inl ⟨_, rfl, _, rfl, _, _, rfl, rfl, hpos, ?_⟩⟩
        exact q _ _ (hS1.deal (fun b hb _ => upd_ne hb) ⟨_, xs, upd_same, (upd_ne ndl.symm).trans g2, h3, h4, o1, o2⟩) (Int.emod_nonneg _ (by omega)) (Or.inl (Int.emod_lt_of_pos _ hpos))

theorem ok_law_pick {f : Addr} {fd : FuncData} (F : Fun K "_law_pick" "_law_pick" s_law_pick f fd) (nb : NB mg bnames) (F_law_draw : Fd P w K mg base "_law_draw" 1 ["deck", "many"] (sp_law_draw K))    : FnOk P w K mg base CX0 2 f fd ["deck", "items"] (sp_law_pick K) := by
  refine F.ok sc_law_pick (fun vs H Q E h => ?_) (fun cdv A outer s H vs Q E hr h => ?_)
  · obtain ⟨d, l, a, ds, Γ, Δ, rfl, _⟩ := h
    rfl
  · obtain ⟨d, l, a, ds, Γ, Δ, rfl, hS, hm, hne, hz, q⟩ := h
    refine ⟨_, (pss_one (ps_ret (pe_ix ix_list (pv 1) (pe_fd F_law_draw (hr.mono (by decide)) (by rfl) (pa_cons (pv 0) (pa_cons (pe_callB call_len_seq (by rfl) (nb "len" rfl) PySem.boot_len (pa_cons (pv 1) pa_nil)) pa_nil))) (fun _ _ => rfl)))), ?_⟩
    obtain ⟨vs, hL, hlen, Δ', rfl, hS', hv⟩ := hS.lstAt hm
    refine ⟨_, rfl, _, rfl, _, rfl, a, vs, rfl, .inl hL, d, l, _, Γ, Δ, rfl, hS, ?_, fun H' r hS2 h0 h1 => ?_⟩
    · rw [hlen]
      exact Nat.lt_of_le_of_lt (show ((ds.length : Nat) : Int).natAbs ≤ 10000 by omega) (by decide +kernel)
    · obtain ⟨us, hL2, hlen2, Δ2, rfl, hS3, hv2⟩ := hS2.lstAt hm
      have hpos : 0 < ds.length := List.length_pos_iff.mpr hne
      have hr : r.toNat < ds.length := by omega
      obtain ⟨v, e1, e2⟩ := dvs_at hv2 (List.getElem?_eq_getElem hr)
      refine ⟨a, us, r, v, rfl, rfl, hL2, atI_of h0 e1, q H' v _ (List.getElem_mem hr) ((hS3.also e2).weaken fun x hx => ?_)⟩
      rcases List.mem_cons.mp hx with rfl | hx
      · exact List.mem_cons_self ..
      · exact List.mem_cons_of_mem _ (List.mem_append_right _ hx)

theorem abs_mod (n m : Int) : decide ((if n < 0 then -n else n) % m = 0) = decide (n % m = 0) := by
  by_cases h : n < 0
  · rw [if_pos h]
    have e : ((-n) % m = 0) ↔ (n % m = 0) := by
      rw [← Int.dvd_iff_emod_eq_zero, ← Int.dvd_iff_emod_eq_zero]
      exact Int.dvd_neg
    exact decide_eq_decide.mpr e
  · rw [if_neg h]
theorem fits_at (n : Int) (rs : List Rule) {i : Nat} (hi : i < rs.length) (hb : fitR rs[i] n = false) : fitsAll rs n = false := by
  cases e : fitsAll rs n with
  | false => rfl
  | true =>
    have := List.all_eq_true.mp e rs[i] (List.getElem_mem hi)
    rw [hb] at this
    cases this
theorem fits_all (n : Int) (rs : List Rule) (h : ∀ r ∈ rs, fitR r n = true) : fitsAll rs n = true := List.all_eq_true.mpr h
theorem take_all {n : Int} {rs : List Rule} {i : Nat} (hi : i < rs.length) (h : ∀ r ∈ rs.take i, fitR r n = true) (hb : fitR rs[i] n = true) : ∀ r ∈ rs.take (i + 1), fitR r n = true := fun r hr => by
  rw [List.take_add_one, List.getElem?_eq_getElem hi] at hr
  rcases List.mem_append.mp hr with hr | hr
  · exact h r hr
  · rw [List.mem_singleton.mp hr]
    exact hb
theorem ok_law_fits {f : Addr} {fd : FuncData} (F : Fun K "_law_fits" "_law_fits" s_law_fits f fd) (nb : NB mg bnames)     : FnOk P w K mg base CX0 1 f fd ["scale", "number"] (sp_law_fits K) := by
  refine F.ok sc_law_fits (fun vs H Q E h => ?_) (fun cdv A outer s H vs Q E hr h => ?_)
  · obtain ⟨dk, Γ, Δ, a, rs, n, rfl, _⟩ := h
    rfl
  · obtain ⟨dk, Γ, Δ, a, rs, n, rfl, hS, hm, h2, q⟩ := h
    refine ⟨_, (pss_cons (ps_for PassesOwn.never rfl (pi_tup (pv 0)) (pg_tup (by rfl) (pgs_cons (pg_name (i := 2) sc_law_fits.nd rfl (.inl rfl)) (pgs_cons (pg_name (i := 3) sc_law_fits.nd rfl (.inl rfl)) pgs_nil)))
        (pss_one (ps_if (PW.pt (pw_and (pt_cmpR op_gt (pe_callB call_abs (by rfl) (nb "abs" rfl) (by decide +kernel) (pa_cons (pv 1) pa_nil)) (pv 2) (nomark _)) (pw_and1 (PW.pt (pw_or (pt_cmpR op_eq (pv 3) pe_int (nomark _)) (pw_or1 (pt_cmpR op_ne (pe_op op_mod (pe_callTy call_int1 (by rfl) (nb "int" rfl) (by decide +kernel) (pa_cons (pe_callB call_abs (by rfl) (nb "abs" rfl) (by decide +kernel) (pa_cons (pv 1) pa_nil)) pa_nil)) (pv 3)) pe_int (nomark _)))))))) (pss_one (ps_ret pe_bl)) pss_nil)))
        (pss_one (ps_ret pe_bl))), ?_⟩
    obtain ⟨vs, hT, hlen⟩ := hS.lenT hm
    refine ⟨_, rfl, a, rfl, ⟨vs, hT⟩, for_it (n := rs.length) walkT (fun i σ H => ∃ y2 y3, σ = [some (.ref a), some (.int n), y2, y3] ∧ St K H dk Γ Δ ∧ ∀ r ∈ rs.take i, fitR r n = true)
      ⟨_, _, rfl, hS, fun r hr => by simp at hr⟩ (fun i σ H _ hP => ?_) (fun i x σ H H' hi hP hy => ?_) (fun σ H hP => ?_)⟩
    · obtain ⟨_, _, _, hS, _⟩ := hP
      obtain ⟨xs, h1, h3⟩ := hS.lenT hm
      exact ⟨xs, h1, by rw [h3, List.length_map]⟩
    · obtain ⟨y2, y3, rfl, hS, hall⟩ := hP
      obtain ⟨rfl, f⟩ := hy
      obtain ⟨d, e1, hS1⟩ := hS.turnT hm f
      rw [List.getElem?_map, List.getElem?_eq_getElem hi] at e1
      cases Option.some.inj e1
      obtain ⟨ax, rfl⟩ := hS1.ref_of (List.mem_cons_self ..)
      have hs := h2 _ (List.getElem_mem hi)
      have hT := hS1.pair (List.mem_cons_self ..)
      refine ⟨ax, _, rfl, hT, rfl, _, _, rfl, _, _, rfl, rfl, ?_⟩
      refine ⟨_, rfl, _, rfl, _, rfl, _, _, rfl, rfl, _, rfl, ite2 (fun e => ?_) (fun e => ?_)⟩
      · have e' : ¬ (if n < 0 then -n else n) ≤ rs[i].1 := by simpa using e
        refine ⟨_, rfl, rfl, _, rfl, ite2 (fun e2 => ?_) (fun e2 => ?_)⟩
        · have hz : rs[i].2 = 0 := V.int.inj (of_decide_eq_true e2)
          have hb : fitR rs[i] n = false := by
            unfold fitR
            rw [decide_eq_false e', hz]
            rfl
          refine iteT ?_
          have g := q _ hS
          rw [fits_at n rs hi hb] at g
          exact g
        · have hz : rs[i].2 ≠ 0 := fun z => e2 (decide_eq_true (by rw [z]))
          refine ⟨_, rfl, _, rfl, .inl ⟨_, rfl, ?_⟩⟩
          refine ⟨_, rfl, _, _, rfl, rfl, by omega, rfl, _, rfl, ?_⟩
          have e3 : fitR rs[i] n = decide ((if n < 0 then -n else n) % rs[i].2 = 0) := by
            unfold fitR
            rw [decide_eq_false e', decide_eq_false hz, abs_mod]
            rfl
          have e4 : (!decide (V.int ((if n < 0 then -n else n) % rs[i].2) = V.int 0)) = !fitR rs[i] n := by
            rw [e3, dec_int]
            exact congrArg _ (Bool.beq_eq_decide_eq _ _)
          have e5 : ∀ {A B : Prop}, (if (!fitR rs[i] n) = true then A else B) → if (!decide (V.int ((if n < 0 then -n else n) % rs[i].2) = V.int 0)) = true then A else B := fun {A B} h => by
            rw [e4]
            exact h
          refine e5 ?_
          cases hb : fitR rs[i] n with
          | true => exact iteF ⟨_, _, rfl, hS, take_all hi hall hb⟩
          | false =>
            refine iteT ?_
            have g := q _ hS
            rw [fits_at n rs hi hb] at g
            exact g
      · have e' : (if n < 0 then -n else n) ≤ rs[i].1 := by simpa using e
        refine iteF ⟨_, _, rfl, hS, take_all hi hall ?_⟩
        unfold fitR
        rw [decide_eq_true e']
        rfl
    · obtain ⟨y2, y3, rfl, hS, hall⟩ := hP
      have g := q _ hS
      rw [fits_all n rs (fun r hr => hall r (by rw [List.take_length]; exact hr))] at g
      exact g

def smallMenu : List (List Int) := [[2, 4, 8, 16], [2, 3, 6, 12], [10, 5, 2, 100], [2, 3, 4, 5, 6, 10], [7, 14], [2, 9, 6]]
def SR (top M : Int) (r : Rule) : Prop := 0 ≤ r.1 ∧ r.1 ≤ top ∧ (r.2 = 0 ∨ (2 ≤ r.2 ∧ r.2 ∣ M))
theorem small_ok : ∀ ns ∈ smallMenu, ns ≠ [] ∧ (∀ x ∈ ns, 2 ≤ x ∧ x ≤ 100) ∧ ∃ M : Int, 1 ≤ M ∧ M ≤ 100 ∧ ∀ x ∈ ns, x ∣ M := by
  intro ns h
  simp only [smallMenu, List.mem_cons, List.not_mem_nil, or_false] at h
  rcases h with rfl | rfl | rfl | rfl | rfl | rfl
  · exact ⟨by decide, by decide, 16, by decide, by decide, by decide⟩
  · exact ⟨by decide, by decide, 12, by decide, by decide, by decide⟩
  · exact ⟨by decide, by decide, 100, by decide, by decide, by decide⟩
  · exact ⟨by decide, by decide, 60, by decide, by decide, by decide⟩
  · exact ⟨by decide, by decide, 14, by decide, by decide, by decide⟩
  · exact ⟨by decide, by decide, 18, by decide, by decide, by decide⟩
theorem small_len : ∀ ns ∈ smallMenu, ns.length ≤ 10000 := by decide
theorem ok_law_small {f : Addr} {fd : FuncData} (F : Fun K "_law_small" "_law_small" s_law_small f fd) (nb : NB mg bnames) (F_law_draw : Fd P w K mg base "_law_draw" 1 ["deck", "many"] (sp_law_draw K)) (F_law_pick : Fd P w K mg base "_law_pick" 2 ["deck", "items"] (sp_law_pick K))    : FnOk P w K mg base CX0 3 f fd ["deck", "most", "top"] (sp_law_small K) := by
  refine F.ok sc_law_small (fun vs H Q E h => ?_) (fun cdv A outer s H vs Q E hr h => ?_)
  · obtain ⟨d, l, m, t, Γ, Δ, rfl, _⟩ := h
    rfl
  · obtain ⟨d, l, most, top, Γ, Δ, rfl, hS, hm1, hm2, ht1, ht2, q⟩ := h
    refine ⟨_, (pss_cons (ps_set (i := 3) sc_law_small.nd rfl (.inl rfl) (pe_fd F_law_pick (hr.mono (by decide)) (by rfl) (pa_cons (pv 0) (pa_cons (pe_lst (pa_cons (pe_lst (pa_cons pe_int (pa_cons pe_int (pa_cons pe_int (pa_cons pe_int pa_nil))))) (pa_cons (pe_lst (pa_cons pe_int (pa_cons pe_int (pa_cons pe_int (pa_cons pe_int pa_nil))))) (pa_cons (pe_lst (pa_cons pe_int (pa_cons pe_int (pa_cons pe_int (pa_cons pe_int pa_nil))))) (pa_cons (pe_lst (pa_cons pe_int (pa_cons pe_int (pa_cons pe_int (pa_cons pe_int (pa_cons pe_int (pa_cons pe_int pa_nil))))))) (pa_cons (pe_lst (pa_cons pe_int (pa_cons pe_int pa_nil))) (pa_cons (pe_lst (pa_cons pe_int (pa_cons pe_int (pa_cons pe_int pa_nil)))) pa_nil))))))) pa_nil))))
        (pss_cons (ps_set (i := 4) sc_law_small.nd rfl (.inl rfl) (pe_lst pa_nil))
        (pss_cons (ps_for PassesOwn.never rfl (pi_range1 (by rfl) (nb "range" rfl) (pa_cons (pe_fd F_law_draw (hr.mono (by decide)) (by rfl) (pa_cons (pv 0) (pa_cons (pe_op op_add (pv 1) pe_int) pa_nil))) pa_nil)) (pg_name (i := 5) sc_law_small.nd rfl (.inl rfl))
        (pss_cons (ps_set (i := 6) sc_law_small.nd rfl (.inl rfl) (pe_fd F_law_pick (hr.mono (by decide)) (by rfl) (pa_cons (pv 0) (pa_cons (pv 3) pa_nil))))
        (pss_cons (ps_set (i := 7) sc_law_small.nd rfl (.inl rfl) (pe_fd F_law_draw (hr.mono (by decide)) (by rfl) (pa_cons (pv 0) (pa_cons (pe_op op_add (pe_op op_fdivW (pv 2) (pv 6)) pe_int) pa_nil))))
        (pss_cons (ps_set (i := 8) sc_law_small.nd rfl (.inl rfl) (pe_fd F_law_pick (hr.mono (by decide)) (by rfl) (pa_cons (pv 0) (pa_cons (pe_lst (pa_cons (pe_fd F_law_draw (hr.mono (by decide)) (by rfl) (pa_cons (pv 0) (pa_cons (pe_op op_add (pv 2) pe_int) pa_nil))) (pa_cons (pe_op op_mulX (pv 6) (pv 7)) (pa_cons (pe_op op_sub (pe_op op_mulX (pv 6) (pv 7)) pe_int) (pa_cons (pe_op op_add (pe_op op_mulX (pv 6) (pv 7)) pe_int) pa_nil))))) pa_nil))))
        (Evl.pss_cut (ps_if (PW.pt (pw_and (pt_cmpR (op_neD hr.units) (pv 4) (pe_lst pa_nil) (nomark _)) (pw_and1 (pt_cmpR op_eq (pe_fd F_law_draw (hr.mono (by decide)) (by rfl) (pa_cons (pv 0) (pa_cons pe_int pa_nil))) pe_int (nomark _))))) (pss_one (ps_set (i := 8) sc_law_small.nd rfl (.inl rfl) (pe_ix ix_tup (pe_ix ix_list (pv 4) (pe_un un_neg pe_int) (fun _ _ => rfl)) pe_int (fun _ _ => rfl)))) pss_nil)
        (pss_one (ps_expr (pe_bm PySem.F.plainAttrs_list PySem.F.slot_list_append PySem.F.type_list_append mt_append (pv 4) (pa_cons (pe_tup (pa_cons (pe_callB (call_min2 rfl) (by rfl) (nb "min" rfl) (by decide +kernel) (pa_cons (pv 2) (pa_cons (pe_callB (call_max2 rfl) (by rfl) (nb "max" rfl) (by decide +kernel) (pa_cons pe_int (pa_cons (pv 8) pa_nil))) pa_nil))) (pa_cons (pv 6) pa_nil))) pa_nil)))))))))
        (Evl.pss_cut (ps_if (pt_cmpR op_gt (pe_fd F_law_draw (hr.mono (by decide)) (by rfl) (pa_cons (pv 0) (pa_cons pe_int pa_nil))) pe_int (nomark _)) (pss_one (ps_expr (pe_bm PySem.F.plainAttrs_list PySem.F.slot_list_insert PySem.F.type_list_insert mt_insert (pv 4) (pa_cons (pe_fd F_law_draw (hr.mono (by decide)) (by rfl) (pa_cons (pv 0) (pa_cons (pe_op op_add (pe_callB call_len_seq (by rfl) (nb "len" rfl) PySem.boot_len (pa_cons (pv 4) pa_nil)) pe_int) pa_nil))) (pa_cons (pe_tup (pa_cons (pe_fd F_law_draw (hr.mono (by decide)) (by rfl) (pa_cons (pv 0) (pa_cons (pe_op op_add (pv 2) pe_int) pa_nil))) (pa_cons pe_int pa_nil))) pa_nil))))) pss_nil)
        (Evl.pss_cut (ps_if (pt_cmpR op_eq (pe_fd F_law_draw (hr.mono (by decide)) (by rfl) (pa_cons (pv 0) (pa_cons pe_int pa_nil))) pe_int (nomark _)) (pss_one (ps_expr (pe_bm PySem.F.plainAttrs_list PySem.F.slot_list_insert PySem.F.type_list_insert mt_insert (pv 4) (pa_cons (pe_fd F_law_draw (hr.mono (by decide)) (by rfl) (pa_cons (pv 0) (pa_cons (pe_op op_add (pe_callB call_len_seq (by rfl) (nb "len" rfl) PySem.boot_len (pa_cons (pv 4) pa_nil)) pe_int) pa_nil))) (pa_cons (pe_tup (pa_cons (pe_fd F_law_draw (hr.mono (by decide)) (by rfl) (pa_cons (pv 0) (pa_cons (pe_op op_add (pv 2) pe_int) pa_nil))) (pa_cons pe_int pa_nil))) pa_nil))))) pss_nil)
        (pss_one (ps_ret (pe_callTy call_tuple_of (by rfl) (nb "tuple" rfl) (by decide +kernel) (pa_cons (pe_slice sl_list (pv 4) po_none (po_some (pv 1))) pa_nil))))))))), ?_⟩
    -- steps
    refine go_set ?_
    refine go_pick (B := []) (ds := smallMenu.map fun ns => .list (ns.map PyData.int)) rfl ?_ sub_nil hS (by decide) (by decide) (fun H1 v x hx hS1 => ?_)
    · unfold smallMenu
      walk_at "evd"
    obtain ⟨ns, hns, rfl⟩ := List.mem_map.mp hx
    obtain ⟨n1, n2, M, M1, M2, M3⟩ := small_ok ns hns
    obtain ⟨as, rfl⟩ := hS1.lref_of (List.mem_cons_self ..)
    -- found
    refine ⟨Nat.zero_le _, fun f hf => ?_⟩
    have hS2 := hS1.make (ds := []) hf .nil
    -- the loop
    dsimp only [gName]
    refine go_for (go_rng1 ?_)
    refine go_draw (B := []) rfl (ed_I0 (ed_varI rfl) ed_int) sub_nil hS2 (small8000 (by omega) (by omega)) (fun H3 many hS3 r0 r1 => ?_)
    refine ⟨many, rfl, by omega, by omega, for_range (lo := 0) (n := many.toNat) (fun i σ H => ∃ (rs : List Rule) (y6 y7 y8 y9 : Option V), σ = [some (.ref d), some (.int most), some (.int top), some (.ref as), some (.ref f), y6, y7, y8, y9] ∧
        St K H (some (d, l)) ((f, rs.map ruleD) :: Γ) ((.ref as, .list (ns.map PyData.int)) :: Δ) ∧ rs.length = i ∧ ∀ r ∈ rs, SR top M r)
      ⟨[], _, _, _, _, rfl, hS3, rfl, fun r hr => (nomatch hr)⟩ (fun i σ H hi hP => ?_) (fun σ H hP => ?_)⟩
    · obtain ⟨rs, y6, y7, y8, y9, rfl, hS, hlen, hok⟩ := hP
      -- step
      refine go_set ?_
      refine go_pick (B := [(.ref as, .list (ns.map PyData.int))]) rfl (ed_var rfl (.of (List.mem_cons_self ..))) (fun y hy => by rw [List.mem_singleton.mp hy]; exact List.mem_cons_self ..) hS (by simpa using n1) (by rw [List.length_map]; exact small_len ns hns) (fun H1 v x hx hS1 => ?_)
      obtain ⟨step, hstep, rfl⟩ := List.mem_map.mp hx
      obtain ⟨s1, s2⟩ := n2 step hstep
      obtain rfl := hS1.int_of (List.mem_cons_self ..)
      replace hS1 := hS1.weaken (Δ' := (.ref as, .list (ns.map PyData.int)) :: Δ) fun _ => List.mem_cons_of_mem _
      -- times
      have hdv : CDivW top step := ⟨by omega, Nat.lt_of_lt_of_le (PySem.Flt.log2_lt_of (k := 8) (by decide) (by omega)) (by decide)⟩
      have q1 : 0 ≤ top / step := Int.ediv_nonneg ht1 (by omega)
      have q2 : top / step ≤ top := Int.ediv_le_self _ ht1
      refine go_set ?_
      refine go_draw (B := []) rfl (ed_I0 (ed_I (ed_varI rfl) (ed_varI rfl) hdv) ed_int) sub_nil hS1 (small8000 (by omega) (by omega)) (fun H2 t hS2 u1 u2 => ?_)
      have mu : CMulX step t := mulx_ok (a := 8) (b := 12) (by omega) (by omega) (by decide)
      -- bound
      refine go_set ⟨_, rfl, ?_⟩
      refine go_lst (go_cons ?_)
      refine go_draw (B := []) rfl (ed_I0 (ed_varI rfl) ed_int) sub_nil hS2 (small8000 (by omega) (by omega)) (fun H3 r hS3 r0 r1 => ?_)
      refine ⟨_, rfl, _, rfl, _, _, rfl, rfl, mu, _, rfl, _, rfl, _, _, rfl, rfl, mu, _, _, rfl, rfl, _, rfl, _, rfl, _, _, rfl, rfl, mu, _, _, rfl, rfl, (by show 4 ≤ sizeLine; decide), fun p hp => ?_⟩
      have hS4 := hS3.lst (vs := [.int r, .int (step * t), .int (step * t - 1), .int (step * t + 1)]) (ds := [.int r, .int (step * t), .int (step * t - 1), .int (step * t + 1)]) hp (.cons (.int _) (.cons (.int _) (.cons (.int _) (.cons (.int _) .nil))))
      refine ⟨d, l, p, _, _, _, rfl, hS4, List.mem_cons_self .., by simp, by show 4 ≤ 10000; decide, fun H4 v x hx hS5 => ?_⟩
      obtain ⟨c, rfl⟩ : ∃ c : Int, x = .int c := by
        simp only [List.mem_cons, List.not_mem_nil, or_false] at hx
        rcases hx with rfl | rfl | rfl | rfl
        · exact ⟨_, rfl⟩
        · exact ⟨_, rfl⟩
        · exact ⟨_, rfl⟩
        · exact ⟨_, rfl⟩
      obtain rfl := hS5.int_of (List.mem_cons_self ..)
      replace hS5 := hS5.weaken (Δ' := (.ref as, .list (ns.map PyData.int)) :: Δ) fun _ h => List.mem_cons_of_mem _ (List.mem_cons_of_mem _ h)
      -- if found != [] and ..
      refine go_cut (fun σ H' => ∃ b : Int, σ = [some (.ref d), some (.int most), some (.int top), some (.ref as), some (.ref f), some (.int (0 + (i : Int))), some (.int step), some (.int t), some (.int b)] ∧
        St K H' (some (d, l)) ((f, rs.map ruleD) :: Γ) ((.ref as, .list (ns.map PyData.int)) :: Δ)) ?_ (fun σ H5 hM => ?_)
      · refine go_if (go_and (go_test (go_ne rfl hS5 (fun H6 hS6 => ⟨_, rfl, ?_⟩))))
        by_cases hrs : rs = []
        · subst hrs
          refine iteF (iteF ⟨_, rfl, hS6⟩)
        · have e0 : (!rs.isEmpty) = true := by
            cases rs with
            | nil => exact absurd rfl hrs
            | cons r rs => rfl
          rw [e0]
          refine iteT (go_test (go_op (go_draw (B := []) rfl ed_int sub_nil hS6 (by decide +kernel) (fun H7 r hS7 r0 r1 => ⟨rfl, _, rfl, ite2 (fun e => ?_) (fun e => ?_)⟩))))
          · obtain ⟨rl, hrl⟩ : ∃ rl, rs[rs.length - 1]? = some rl := ⟨_, List.getElem?_eq_getElem (by have := List.length_pos_iff.mpr hrs; omega)⟩
            have hrl2 : (rs.map ruleD)[(rs.map ruleD).length - 1]? = some (ruleD rl) := by
              rw [List.length_map, List.getElem?_map, hrl]
              rfl
            obtain ⟨vs, v, k1, k2, k3⟩ := hS7.last hrl2
            obtain ⟨av, rfl⟩ := k3.ref_of (List.mem_cons_self ..)
            have hT := k3.pair (List.mem_cons_self ..)
            exact ⟨_, rfl, _, rfl, f, vs, -1, _, rfl, rfl, SqL.of k1, k2, av, _, 0, _, rfl, rfl, hT, atI_nat (j := 0) rfl, _, rfl, hS7⟩
          · exact ⟨_, rfl, hS7⟩
      · obtain ⟨b, rfl, hS6⟩ := hM
        obtain ⟨vf, hf1, hf2, _, _⟩ := hS6.look
        refine ⟨_, rfl, .inl ⟨rfl, _, SqL.of hf1⟩, _, rfl, _, rfl, _, _, rfl, _, _, rfl, _, rfl, (by show 2 ≤ sizeLine; decide), fun p hp => ?_⟩
        obtain ⟨b', hb', w1, w2⟩ : ∃ b' : Int, (if (if b > 0 then b else 0) < top then (if b > 0 then b else 0) else top) = b' ∧ 0 ≤ b' ∧ b' ≤ top := by
          have hb0 : 0 ≤ (if b > 0 then b else 0) := by split <;> omega
          generalize (if b > 0 then b else 0) = bb at hb0
          refine ⟨_, rfl, ?_, ?_⟩
          · split <;> omega
          · split <;> omega
        rw [hb']
        have hS7 := hS6.tup (vs := [.int b', .int step]) (ds := [.int b', .int step]) hp (.cons (.int _) (.cons (.int _) .nil))
        obtain ⟨vf2, g1, g2, g3⟩ := hS7.push (.of (List.mem_cons_self ..))
        refine ⟨f, vf2, _, rfl, rfl, g1, small1000 (by rw [g2, List.length_map]; omega), ?_⟩
        refine ⟨rs ++ [(b', step)], _, _, _, _, rfl, ?_, ?_, ?_⟩
        · rw [List.map_append]
          exact g3.weaken fun _ h => List.mem_cons_of_mem _ h
        · rw [List.length_append, List.length_singleton, hlen]
        · intro r hr
          rcases List.mem_append.mp hr with hr | hr
          · exact hok r hr
          · rw [List.mem_singleton.mp hr]
            exact ⟨w1, w2, Or.inr ⟨s1, M3 _ hstep⟩⟩
    · obtain ⟨rs, y6, y7, y8, y9, rfl, hS, hlen, hok⟩ := hP
      have hl2 : rs.length ≤ 41 := by omega
      -- if _law_draw(deck, 3) > 0
      refine go_cut (fun σ H' => ∃ rs : List Rule, σ = [some (.ref d), some (.int most), some (.int top), some (.ref as), some (.ref f), y6, y7, y8, y9] ∧
        St K H' (some (d, l)) ((f, rs.map ruleD) :: Γ) ((.ref as, .list (ns.map PyData.int)) :: Δ) ∧ rs.length ≤ 42 ∧ ∀ r ∈ rs, SR top M r) ?_ (fun σ H5 hM => ?_)
      · refine go_if (go_test (go_op (go_draw (B := []) rfl ed_int sub_nil hS (by decide +kernel) (fun H2 r hS2 r0 r1 => ⟨_, _, rfl, rfl, _, rfl, ite2 (fun e => ?_) (fun e => ?_)⟩))))
        · -- found.insert(.., (.., 0))
          obtain ⟨vf, f1, f2, _, _⟩ := hS2.look
          have hv : vf.length = rs.length := by rw [f2, List.length_map]
          refine go_drop ⟨_, rfl, .inl ⟨rfl, _, SqL.of f1⟩, _, rfl, _, rfl, f, vf, rfl, .inl (SqL.of f1), _, _, rfl, rfl, d, l, _, _, _, rfl, hS2, ?_, fun H3 k hS3 k0 k1 => ?_⟩
          · rw [hv]
            exact small8000 (by omega) (by omega)
          rw [hv] at k1
          refine ⟨_, rfl, _, rfl, _, _, rfl, rfl, d, l, _, _, _, rfl, hS3, small8000 (by omega) (by omega), fun H4 c hS4 c0 c1 => ⟨(by show 2 ≤ sizeLine; decide), fun u hu => ?_⟩⟩
          have hS5 := hS4.tup (vs := [.int c, .int 0]) (ds := [.int c, .int 0]) hu (.cons (.int _) (.cons (.int _) .nil))
          obtain ⟨vf2, g1, g2, g3⟩ := hS5.insAt (.of (List.mem_cons_self ..)) k.toNat
          refine ⟨f, vf2, k, _, rfl, rfl, g1, small1000 (by rw [g2, List.length_map]; omega), k0, by omega, rs.take k.toNat ++ [(c, 0)] ++ rs.drop k.toNat, rfl, ?_, ?_, ?_⟩
          · rw [List.map_append, List.map_append, List.map_take, List.map_drop]
            exact g3.weaken fun _ h => List.mem_cons_of_mem _ h
          · rw [List.length_append, List.length_append, List.length_take, List.length_drop, List.length_singleton]
            omega
          · intro r' hr'
            rcases List.mem_append.mp hr' with h | h
            · rcases List.mem_append.mp h with h | h
              · exact hok _ (List.mem_of_mem_take h)
              · rw [List.mem_singleton.mp h]
                exact ⟨c0, (by show c ≤ top; omega), Or.inl rfl⟩
            · exact hok _ (List.mem_of_mem_drop h)
        · exact ⟨rs, rfl, hS2, by omega, hok⟩
      · obtain ⟨rs, rfl, hS, hl2, hok⟩ := hM
        -- if _law_draw(deck, 3) == 0
        refine go_cut (fun σ H' => ∃ rs : List Rule, σ = [some (.ref d), some (.int most), some (.int top), some (.ref as), some (.ref f), y6, y7, y8, y9] ∧
          St K H' (some (d, l)) ((f, rs.map ruleD) :: Γ) ((.ref as, .list (ns.map PyData.int)) :: Δ) ∧ rs.length ≤ 43 ∧ ∀ r ∈ rs, SR top M r) ?_ (fun σ H5 hM => ?_)
        · refine go_if (go_test (go_op (go_draw (B := []) rfl ed_int sub_nil hS (by decide +kernel) (fun H2 r hS2 r0 r1 => ⟨rfl, _, rfl, ite2 (fun e => ?_) (fun e => ?_)⟩))))
          · -- found.insert(.., (.., 0))
            obtain ⟨vf, f1, f2, _, _⟩ := hS2.look
            have hv : vf.length = rs.length := by rw [f2, List.length_map]
            refine go_drop ⟨_, rfl, .inl ⟨rfl, _, SqL.of f1⟩, _, rfl, _, rfl, f, vf, rfl, .inl (SqL.of f1), _, _, rfl, rfl, d, l, _, _, _, rfl, hS2, ?_, fun H3 k hS3 k0 k1 => ?_⟩
            · rw [hv]
              exact small8000 (by omega) (by omega)
            rw [hv] at k1
            refine ⟨_, rfl, _, rfl, _, _, rfl, rfl, d, l, _, _, _, rfl, hS3, small8000 (by omega) (by omega), fun H4 c hS4 c0 c1 => ⟨(by show 2 ≤ sizeLine; decide), fun u hu => ?_⟩⟩
            have hS5 := hS4.tup (vs := [.int c, .int 0]) (ds := [.int c, .int 0]) hu (.cons (.int _) (.cons (.int _) .nil))
            obtain ⟨vf2, g1, g2, g3⟩ := hS5.insAt (.of (List.mem_cons_self ..)) k.toNat
            refine ⟨f, vf2, k, _, rfl, rfl, g1, small1000 (by rw [g2, List.length_map]; omega), k0, by omega, rs.take k.toNat ++ [(c, 0)] ++ rs.drop k.toNat, rfl, ?_, ?_, ?_⟩
            · rw [List.map_append, List.map_append, List.map_take, List.map_drop]
              exact g3.weaken fun _ h => List.mem_cons_of_mem _ h
            · rw [List.length_append, List.length_append, List.length_take, List.length_drop, List.length_singleton]
              omega
            · intro r' hr'
              rcases List.mem_append.mp hr' with h | h
              · rcases List.mem_append.mp h with h | h
                · exact hok _ (List.mem_of_mem_take h)
                · rw [List.mem_singleton.mp h]
                  exact ⟨c0, (by show c ≤ top; omega), Or.inl rfl⟩
              · exact hok _ (List.mem_of_mem_drop h)
          · exact ⟨rs, rfl, hS2, by omega, hok⟩
        · obtain ⟨rs, rfl, hS6, hl3, hok⟩ := hM
          obtain ⟨vf, f1, f2, _, f4⟩ := hS6.look
          refine go_ret (go_cb (go_cons ⟨_, rfl, _, rfl, _, rfl, f, vf, rfl, SqL.of f1, fun p hp => ?_⟩))
          obtain ⟨mo, rfl⟩ := Int.eq_ofNat_of_zero_le hm1
          have hS7 := hS6.make_ (vs := cutV vf none (some (mo : Int))) (ds := (rs.take mo).map ruleD) hp fun H0 I => by
            rw [cut_take, List.map_take]
            exact dps_take mo (f4 H0 I)
          have hS8 := hS7.freeze
          obtain ⟨vs, hL, hlen2, Δ2, rfl, hS10, hv2⟩ := hS8.lstAt (List.mem_cons_self ..)
          refine ⟨p, vs, rfl, .inl ⟨hL, fun u hu => ?_⟩⟩
          have hS11 := (hS10.tup hu hv2).drop
          refine q _ (.ref u) (rs.take mo) ⟨?_, M, M1, M2, fun r hr => hok r (List.mem_of_mem_take hr)⟩ (hS11.weaken fun y hy => ?_)
          · rw [List.length_take]
            omega
          · rcases List.mem_cons.mp hy with rfl | hy
            · exact List.mem_cons_self ..
            · exact List.mem_cons_of_mem _ (List.mem_append_right _ (List.mem_cons_of_mem _ (List.mem_cons_of_mem _ hy)))

theorem ok_law_next {f : Addr} {fd : FuncData} (F : Fun K "_law_next" "_law_next" s_law_next f fd) (nb : NB mg bnames) (F_law_fits : Fd P w K mg base "_law_fits" 1 ["scale", "number"] (sp_law_fits K))    : FnOk P w K mg base CX0 2 f fd ["scale", "number"] (sp_law_next K) := by
  refine F.ok sc_law_next (fun vs H Q E h => ?_) (fun cdv A outer s H vs Q E hr h => ?_)
  · obtain ⟨dk, Γ, Δ, a, rs, t, rfl, _⟩ := h
    rfl
  · obtain ⟨dk, Γ, Δ, a, rs, t, rfl, hS, hm, hs, t1, t2, q⟩ := h
    refine ⟨_, (pss_cons (ps_set (i := 2) sc_law_next.nd rfl (.inl rfl) (pe_callB (cr_max rfl) (by rfl) (nb "max" rfl) (by decide +kernel) (pa_cons (pe_op op_cat (pe_lc (own := [("bound", 3), ("step", 4)]) (by rfl) sc_law_next.nd (g := gTup K 2 (gCons (gName 3) (gCons (gName 4) gNil))) (pi_tup (pv 0)) (blkOk_by (own := [("bound", 3), ("step", 4)]) (N := ["scale", "number", "top", "bound", "step", "here", "left"]) (sc := defScope s_law_next) (by decide +kernel)) (fun _ _ _ _ _ => by exact (pg_tup (by rfl) (pgs_cons (pg_name (i := 3) sc_law_next.nd rfl (.inl rfl)) (pgs_cons (pg_name (i := 4) sc_law_next.nd rfl (.inl rfl)) pgs_nil)))) (fun _ _ _ _ _ => by exact pts_nil) (fun _ _ _ _ _ => by exact (pv 3))) (pe_lst (pa_cons pe_int pa_nil))) pa_nil)))
        (pss_cons (ps_if (PW.pt (pw_and (pt_cmpR op_gt (pv 1) (pv 2) (nomark _)) (pw_and1 (pt_cmpR op_in_seq pe_int (pe_lc (own := [("bound", 3), ("step", 4)]) (by rfl) sc_law_next.nd (g := gTup K 2 (gCons (gName 3) (gCons (gName 4) gNil))) (pi_tup (pv 0)) (blkOk_by (own := [("bound", 3), ("step", 4)]) (N := ["scale", "number", "top", "bound", "step", "here", "left"]) (sc := defScope s_law_next) (by decide +kernel)) (fun _ _ _ _ _ => by exact (pg_tup (by rfl) (pgs_cons (pg_name (i := 3) sc_law_next.nd rfl (.inl rfl)) (pgs_cons (pg_name (i := 4) sc_law_next.nd rfl (.inl rfl)) pgs_nil)))) (fun _ _ _ _ _ => by exact pts_nil) (fun _ _ _ _ _ => by exact (pv 4))) (by rfl))))) (pss_one (ps_ret pe_non)) pss_nil)
        (pss_cons (ps_par (by rfl) (i := 5) (j := 6) sc_law_next.nd rfl rfl (by decide) rfl rfl (pa_cons (pv 1) (pa_cons (pe_op op_add (pe_op op_mul pe_int (pv 2)) pe_int) pa_nil)) (by rfl))
        (pss_cons (ps_while PassesOwn.never (pt_not (pt_val (pe_fd F_law_fits (hr.mono (by decide)) (by rfl) (pa_cons (pv 0) (pa_cons (pv 5) pa_nil))))) (pss_cons (ps_if (PW.pt (pw_or (PW.pt (pw_and (pt_cmpR op_gt (pv 5) (pv 2) (nomark _)) (pw_and1 (pt_cmpR op_in_seq pe_int (pe_lc (own := [("bound", 3), ("step", 4)]) (by rfl) sc_law_next.nd (g := gTup K 2 (gCons (gName 3) (gCons (gName 4) gNil))) (pi_tup (pv 0)) (blkOk_by (own := [("bound", 3), ("step", 4)]) (N := ["scale", "number", "top", "bound", "step", "here", "left"]) (sc := defScope s_law_next) (by decide +kernel)) (fun _ _ _ _ _ => by exact (pg_tup (by rfl) (pgs_cons (pg_name (i := 3) sc_law_next.nd rfl (.inl rfl)) (pgs_cons (pg_name (i := 4) sc_law_next.nd rfl (.inl rfl)) pgs_nil)))) (fun _ _ _ _ _ => by exact pts_nil) (fun _ _ _ _ _ => by exact (pv 4))) (by rfl))))) (pw_or1 (pt_cmpR op_eq (pv 6) pe_int (nomark _))))) (pss_one (ps_ret pe_non)) pss_nil)
        (pss_one (ps_par (by rfl) (i := 5) (j := 6) sc_law_next.nd rfl rfl (by decide) rfl rfl (pa_cons (pe_op op_add (pv 5) pe_int) (pa_cons (pe_op op_sub (pv 6) pe_int) pa_nil)) (by rfl)))))
        (pss_one (ps_ret (pv 5))))))), ?_⟩
    have hl : rs.length ≤ 40 := hs.1
    have h2 : ∀ r ∈ rs, 0 ≤ r.2 := fun r hr => by
      obtain ⟨_, M, _, _, h⟩ := hs
      have := (h r hr).2.2
      omega
    -- top
    refine go_set (go_cb (go_cons (go_op (lc_col hS hm hl 3 Prod.fst (Or.inl ⟨rfl, rfl⟩) fun D H1 hS1 => ?_))))
    refine ⟨by show 1 ≤ sizeLine; decide, fun p hp => ?_⟩
    have hS2 := (hS1.make (ds := [.int 0]) hp (.cons (.int 0) .nil)).swap
    obtain ⟨xs, zs, x1, x2, x3, x4, x5⟩ := hS2.cat
    refine ⟨D, p, xs, zs, rfl, rfl, x1, x2, Nat.le_of_lt (small1000 (by rw [x3, x4, List.length_map, List.length_map]; show rs.length + 1 ≤ 1000; omega)), fun u hu => ?_⟩
    have hS3 := (x5 u hu).freeze.drop.drop
    have eN : (rs.map Prod.fst).map PyData.int ++ [PyData.int 0] = (rs.map Prod.fst ++ [0]).map PyData.int := by rw [List.map_append]; rfl
    rw [eN] at hS3
    obtain ⟨vs, hL, hlen, Δ2, rfl, hS4, hv⟩ := hS3.lstAt (List.mem_cons_self ..)
    obtain rfl := hS4.ints_of hv
    refine ⟨u, _, rfl, hL, by rw [List.length_append]; exact Nat.succ_pos _, fun top m1 m2 => ?_⟩
    have hS5 := hS3.weaken (Δ' := Δ) fun _ h => List.mem_cons_of_mem _ h
    have ht0 : 0 ≤ top := m2 0 (List.mem_append_right _ (List.mem_singleton_self _))
    have htop : ∀ r ∈ rs, r.1 ≤ top := fun r hr => m2 r.1 (List.mem_append_left _ (List.mem_map.mpr ⟨r, hr, rfl⟩))
    have ht4 : top ≤ 400 := by
      rcases List.mem_append.mp m1 with h | h
      · obtain ⟨r, hr, e⟩ := List.mem_map.mp h
        obtain ⟨_, M, _, _, g⟩ := hs
        have := (g r hr).2.1
        omega
      · rw [List.mem_singleton.mp h]
        decide
    clear hS hS1 hS2 hS3 hS4 hL hv hlen x1 x2 x3 x4 x5 m1 m2
    refine go_if (test_over (n := 1) hS5 hm hl rfl rfl fun H2 hS6 => ?_)
    by_cases hb : (decide (top < t) && hasZ rs) = true
    · rw [hb]
      have hb1 := Bool.and_eq_true_iff.mp hb
      refine iteT ?_
      exact q _ none (fun k hk => no_fit hb1.2 htop ht0 (by have := of_decide_eq_true hb1.1; omega)) hS6
    rw [Bool.eq_false_iff.mpr hb]
    refine iteF ?_
    refine ⟨_, rfl, _, rfl, _, _, rfl, rfl, .inl (by decide), _, _, rfl, rfl, _, _, rfl, ?_⟩
    -- while
    refine ⟨fun m σ H' => ∃ (k : Nat), σ = [some (.ref a), some (.int t), some (.int top), none, none, some (.int (t + k)), some (.int (2 * top + 500 - k))] ∧ St K H' dk Γ Δ ∧ (∀ j, t ≤ j → j < t + k → fitsAll rs j = false) ∧ (k : Int) ≤ 2 * top + 500 ∧ m = (2 * top + 501).toNat - k,
      ⟨_, 0, ?_, hS6, fun j j1 j2 => (by omega), by omega, rfl⟩, fun m σ H' hW => ?_⟩
    · rw [show t + ((0 : Nat) : Int) = t by omega, show 2 * top + 500 - ((0 : Nat) : Int) = 2 * top + 500 by omega]
      rfl
    obtain ⟨k, rfl, hS7, hk, hk2, rfl⟩ := hW
    refine ⟨_, rfl, _, rfl, dk, Γ, Δ, a, rs, t + k, rfl, hS7, hm, h2, fun H3 hS8 => ⟨_, rfl, ?_⟩⟩
    cases hf : fitsAll rs (t + k) with
    | true =>
      refine iteF ?_
      exact ⟨_, rfl, q _ (some (t + k)) ⟨by omega, hf, hk⟩ hS8⟩
    | false =>
      have hk3 : ∀ j, t ≤ j → j < t + (k + 1 : Nat) → fitsAll rs j = false := fun j j1 j2 => by
        by_cases c : j < t + k
        · exact hk j j1 c
        · have : j = t + k := by omega
          rw [this]
          exact hf
      refine iteT ⟨fun σ2 H2 => σ2 = [some (.ref a), some (.int t), some (.int top), none, none, some (.int (t + (k + 1 : Nat))), some (.int (2 * top + 500 - (k + 1 : Nat)))] ∧ St K H2 dk Γ Δ ∧ (k : Int) < 2 * top + 500, fun σ2 H2 hN => ?_, ?_⟩
      · obtain ⟨rfl, hS9, hk4⟩ := hN
        exact ⟨_, by omega, k + 1, rfl, hS9, hk3, by omega, rfl⟩
      · refine go_if (test_stop hS8 hm hl rfl rfl rfl fun H4 hS9 => ?_)
        by_cases hb2 : ((decide (top < t + k) && hasZ rs) || decide (2 * top + 500 - (k : Int) = 0)) = true
        · rw [hb2]
          refine iteT ?_
          refine q _ none ?_ hS9
          rcases Bool.or_eq_true_iff.mp hb2 with h | h
          · have hb1 := Bool.and_eq_true_iff.mp h
            have hgt := of_decide_eq_true hb1.1
            intro j hj
            by_cases c : j < t + k
            · exact hk j hj c
            · exact no_fit hb1.2 htop ht0 (by omega)
          · have he := of_decide_eq_true h
            exact next_none hs htop ht0 t1 fun j j1 j2 => hk j j1 (by omega)
        · rw [Bool.eq_false_iff.mpr hb2]
          refine iteF ?_
          have hne : ¬ (2 * top + 500 - (k : Int) = 0) := fun z => hb2 (Bool.or_eq_true_iff.mpr (Or.inr (decide_eq_true z)))
          refine ⟨_, rfl, _, _, rfl, rfl, _, rfl, _, _, rfl, rfl, _, _, rfl, ?_, hS9, by omega⟩
          rw [show t + ((k + 1 : Nat) : Int) = t + k + 1 by omega, show 2 * top + 500 - ((k + 1 : Nat) : Int) = 2 * top + 500 - k - 1 by omega]
          rfl

theorem oklaw {f : Addr} {fd : FuncData} (F : Fun K "law" "law" slaw f fd) (nb : NB mg bnames) (F_law_deck : Fd P w K mg base "_law_deck" 1 ["script"] (sp_law_deck K)) (F_law_draw : Fd P w K mg base "_law_draw" 1 ["deck", "many"] (sp_law_draw K)) (F_law_fits : Fd P w K mg base "_law_fits" 1 ["scale", "number"] (sp_law_fits K)) (F_law_next : Fd P w K mg base "_law_next" 2 ["scale", "number"] (sp_law_next K)) (F_law_pick : Fd P w K mg base "_law_pick" 2 ["deck", "items"] (sp_law_pick K)) (F_law_small : Fd P w K mg base "_law_small" 3 ["deck", "most", "top"] (sp_law_small K)) (Ffitting_from : Fd P w K mg base "fitting_from" 3 ["scale", "number"] (spfitting_from K)) (Ffitting_many : Fd P w K mg base "fitting_many" 3 ["scale", "low", "high"] (spfitting_many K)) (Kfitting_many : Fk P w K mg base "fitting_many" 3 ["scale", "low", "high"] ["high", "low", "scale"] (fun zs => zs.reverse) (spfitting_many K)) (Kfitting_from : Fk P w K mg base "fitting_from" 3 ["scale", "number"] ["number", "scale"] (fun zs => zs.reverse) (spfitting_from K))   : FnG P w K mg base 4 f fd ["script"] (splaw K) := by
  refine okG F sclaw (fun vs H Q E h => ?_) (fun cdv A outer s H vs Q E hg hr h => ?_)
  · obtain ⟨a, ns, rfl, _⟩ := h
    rfl
  · obtain ⟨a0, ns0, rfl, hS, hlen, q⟩ := h
    refine ⟨_, (pss_cons (ps_set (i := 1) sclaw.nd rfl (.inl rfl) (pe_fd F_law_deck (hr.mono (by decide)) (by rfl) (pa_cons (pv 0) pa_nil)))
        (pss_cons (ps_for PassesOwn.never rfl (pi_range1 (by rfl) (nb "range" rfl) (pa_cons pe_int pa_nil)) (pg_name (i := 2) sclaw.nd rfl (.inl rfl))
        (pss_cons (ps_set (i := 3) sclaw.nd rfl (.inr rfl) (pe_fd F_law_small (hr.mono (by decide)) (by rfl) (pa_cons (pv 1) (pa_cons pe_int (pa_cons (pe_ix ix_list (pe_lst (pa_cons pe_int (pa_cons pe_int (pa_cons pe_int (pa_cons pe_int (pa_cons pe_int (pa_cons pe_int pa_nil))))))) (pv 2) (fun _ _ => rfl)) pa_nil)))))
        (pss_cons (ps_set (i := 4) sclaw.nd rfl (.inl rfl) (pe_op op_sub (pe_fd F_law_draw (hr.mono (by decide)) (by rfl) (pa_cons (pv 1) (pa_cons pe_int pa_nil))) (pe_fd F_law_pick (hr.mono (by decide)) (by rfl) (pa_cons (pv 1) (pa_cons (pe_lst (pa_cons pe_int (pa_cons pe_int (pa_cons pe_int (pa_cons pe_int pa_nil))))) pa_nil)))))
        (pss_cons (ps_par (by rfl) (i := 5) (j := 6) sclaw.nd rfl rfl (by decide) rfl rfl (pa_cons (pe_op op_add (pv 4) (pe_fd F_law_draw (hr.mono (by decide)) (by rfl) (pa_cons (pv 1) (pa_cons (pe_fd F_law_pick (hr.mono (by decide)) (by rfl) (pa_cons (pv 1) (pa_cons (pe_lst (pa_cons pe_int (pa_cons pe_int (pa_cons pe_int (pa_cons pe_int pa_nil))))) pa_nil))) pa_nil)))) (pa_cons (pe_callB (call_repr hg (by have := hr.units; exact this)) (by rfl) (nb "repr" rfl) (by decide +kernel) (pa_cons (pv 3) pa_nil)) pa_nil)) (by rfl))
        (pss_cons (ps_set (i := 7) sclaw.nd rfl (.inl rfl) (pe_callB call_len_seq (by rfl) (nb "len" rfl) PySem.boot_len (pa_cons (pe_lc (own := [("number", 8)]) (by rfl) sclaw.nd (pi_range2 (by rfl) (nb "range" rfl) (pa_cons (pv 4) (pa_cons (pe_op op_add (pv 5) pe_int) pa_nil))) (blkOk_by (own := [("number", 8)]) (N := ["script", "deck", "turn", "scale", "low", "high", "kept", "due", "number", "seen", "amid", "rest"]) (sc := defScope slaw) (by decide +kernel)) (fun _ _ _ _ _ => by exact (pg_name (i := 8) sclaw.nd rfl (.inl rfl))) (fun _ _ _ _ _ => by exact (pts_one (pt_val (pe_fd F_law_fits (hr.mono (by decide)) (by rfl) (pa_cons (pv 3) (pa_cons (pv 8) pa_nil)))))) (fun _ _ _ _ _ => by exact pe_int)) pa_nil)))
        (pss_cons (ps_set (i := 9) sclaw.nd rfl (.inl rfl) (pe_ifExp (pt_cmpR op_eq (pv 2) pe_int (nomark _)) (pe_fk Kfitting_many (hr.mono (by decide)) (by rfl) (pk_cons (pv 5) (pk_cons (pv 4) (pk_cons (pv 3) pk_nil)))) (pe_fd Ffitting_many (hr.mono (by decide)) (by rfl) (pa_cons (pv 3) (pa_cons (pv 4) (pa_cons (pv 5) pa_nil))))))
        (pss_cons (ps_if (pt_cmpR op_ne (pe_callB (call_repr hg (by have := hr.units; exact this)) (by rfl) (nb "repr" rfl) (by decide +kernel) (pa_cons (pe_lst (pa_cons (pv 9) (pa_cons (pe_fd Ffitting_many (hr.mono (by decide)) (by rfl) (pa_cons (pv 3) (pa_cons (pv 4) (pa_cons (pv 5) pa_nil)))) (pa_cons (pe_fd Ffitting_many (hr.mono (by decide)) (by rfl) (pa_cons (pv 3) (pa_cons (pe_un un_neg (pv 5)) (pa_cons (pe_un un_neg (pv 4)) pa_nil)))) pa_nil)))) pa_nil)) (pe_callB (call_repr hg (by have := hr.units; exact this)) (by rfl) (nb "repr" rfl) (by decide +kernel) (pa_cons (pe_op op_rep (pe_lst (pa_cons (pv 7) pa_nil)) pe_int) pa_nil)) (nomark _)) (pss_one (ps_ret pe_bl)) pss_nil)
        (pss_cons (ps_set (i := 10) sclaw.nd rfl (.inl rfl) (pe_op op_add (pv 4) (pe_fd F_law_draw (hr.mono (by decide)) (by rfl) (pa_cons (pv 1) (pa_cons (pe_op op_add (pe_op op_sub (pv 5) (pv 4)) pe_int) pa_nil)))))
        (pss_cons (ps_set (i := 11) sclaw.nd rfl (.inl rfl) (pe_ifExp (pt_cmpR op_lt (pv 10) (pv 5) (nomark _)) (pe_fd Ffitting_many (hr.mono (by decide)) (by rfl) (pa_cons (pv 3) (pa_cons (pe_op op_add (pv 10) pe_int) (pa_cons (pv 5) pa_nil)))) pe_int))
        (pss_cons (ps_if (pt_cmpR op_ne (pe_op op_add (pe_fd Ffitting_many (hr.mono (by decide)) (by rfl) (pa_cons (pv 3) (pa_cons (pv 4) (pa_cons (pv 10) pa_nil)))) (pv 11)) (pv 7) (nomark _)) (pss_one (ps_ret pe_bl)) pss_nil)
        (pss_cons (ps_for PassesOwn.never rfl (pi_tup (pe_tup (pa_cons (pv 4) (pa_cons (pv 10) (pa_cons (pv 5) (pa_cons (pe_op op_add (pv 5) pe_int) pa_nil)))))) (pg_name (i := 8) sclaw.nd rfl (.inl rfl))
        (pss_cons (ps_set (i := 9) sclaw.nd rfl (.inl rfl) (pe_ifExp (pt_cmpR op_eq (pv 2) pe_int (nomark _)) (pe_fk Kfitting_from (hr.mono (by decide)) (by rfl) (pk_cons (pv 8) (pk_cons (pv 3) pk_nil))) (pe_fd Ffitting_from (hr.mono (by decide)) (by rfl) (pa_cons (pv 3) (pa_cons (pv 8) pa_nil)))))
        (pss_one (ps_if (pt_cmpR op_ne (pe_callB (call_repr hg (by have := hr.units; exact this)) (by rfl) (nb "repr" rfl) (by decide +kernel) (pa_cons (pe_lst (pa_cons (pv 9) (pa_cons (pe_fd Ffitting_from (hr.mono (by decide)) (by rfl) (pa_cons (pv 3) (pa_cons (pv 8) pa_nil))) pa_nil))) pa_nil)) (pe_callB (call_repr hg (by have := hr.units; exact this)) (by rfl) (nb "repr" rfl) (by decide +kernel) (pa_cons (pe_op op_rep (pe_lst (pa_cons (pe_fd F_law_next (hr.mono (by decide)) (by rfl) (pa_cons (pv 3) (pa_cons (pv 8) pa_nil))) pa_nil)) pe_int) pa_nil)) (nomark _)) (pss_one (ps_ret pe_bl)) pss_nil))))
        (pss_one (ps_if (pt_cmpR op_ne (pe_callB (call_repr hg (by have := hr.units; exact this)) (by rfl) (nb "repr" rfl) (by decide +kernel) (pa_cons (pv 3) pa_nil)) (pv 6) (nomark _)) (pss_one (ps_ret pe_bl)) pss_nil)))))))))))))
        (pss_one (ps_ret pe_bl)))), ?_⟩
    -- deck = _law_deck(script)
    refine go_set ⟨_, rfl, a0, ns0, rfl, hS, hlen, fun H1 d l hS1 => ?_⟩
    dsimp only [L2.start]
    -- for turn in range(6)
    refine ⟨6, rfl, by decide, by decide, for_range (lo := 0) (n := 6) (fun i σ H => ∃ y2 y3 y4 y5 y6 y7 y8 y9 y10 y11 : Option V, σ = [some (.ref a0), some (.ref d), y2, y3, y4, y5, y6, y7, y8, y9, y10, y11] ∧ St K H (some (d, l)) [] [])
      ⟨_, _, _, _, _, _, _, _, _, _, rfl, hS1⟩ (fun i σ H hi hP => ?_) (fun σ H hP => q H)⟩
    obtain ⟨y2, y3, y4, y5, y6, y7, y8, y9, y10, y11, rfl, hS⟩ := hP
    dsimp only [gName, List.set_cons_succ, List.set_cons_zero]
    -- scale
    have htop : 0 ≤ ([20, 60, 150, 400, 60, 90] : List Int).getD i 0 ∧ ([20, 60, 150, 400, 60, 90] : List Int).getD i 0 ≤ 400 := by
      have : i = 0 ∨ i = 1 ∨ i = 2 ∨ i = 3 ∨ i = 4 ∨ i = 5 := by omega
      rcases this with rfl | rfl | rfl | rfl | rfl | rfl <;> decide
    refine go_set ⟨_, rfl, (by show 6 ≤ sizeLine; decide), fun p hp => ⟨_, rfl, p, _, _, .int (([20, 60, 150, 400, 60, 90] : List Int).getD i 0), rfl, rfl, SqL.of upd_same, ?_, ?_⟩⟩
    · have : i = 0 ∨ i = 1 ∨ i = 2 ∨ i = 3 ∨ i = 4 ∨ i = 5 := by omega
      rcases this with rfl | rfl | rfl | rfl | rfl | rfl <;> rfl
    have hS2 := (hS.lst (vs := [.int 20, .int 60, .int 150, .int 400, .int 60, .int 90]) (ds := [.int 20, .int 60, .int 150, .int 400, .int 60, .int 90]) hp (.cons (.int _) (.cons (.int _) (.cons (.int _) (.cons (.int _) (.cons (.int _) (.cons (.int _) .nil))))))).weaken (Δ' := []) fun _ h => nomatch h
    refine ⟨d, l, 6, _, [], [], rfl, hS2, by decide, by decide, htop.1, by omega, fun H2 v rs hsm hS3 => ?_⟩
    replace hsm := small_mono htop.2 hsm
    have hOk := scale_of hsm
    have h2 : ∀ r ∈ rs, 0 ≤ r.2 := fun r hr => (hOk.2 r hr).2.2.1
    obtain ⟨av, rfl⟩ := hS3.ref_of (List.mem_cons_self ..)
    dsimp only [gName, List.set_cons_succ, List.set_cons_zero]
    -- low
    refine go_set ⟨_, rfl, d, l, 300, [], _, rfl, hS3, by decide +kernel, fun H3 r hS4 r0 r1 => ⟨_, rfl, (by show 4 ≤ sizeLine; decide), fun p hp => ?_⟩⟩
    have hS5 := hS4.lst (vs := [.int 0, .int 150, .int 299, .int 450]) (ds := [.int 0, .int 150, .int 299, .int 450]) hp (.cons (.int _) (.cons (.int _) (.cons (.int _) (.cons (.int _) .nil))))
    refine ⟨d, l, p, _, _, _, rfl, hS5, List.mem_cons_self .., by simp, by show 4 ≤ 10000; decide, fun H4 v x hx hS6 => ?_⟩
    obtain ⟨c, rfl, c1, c2⟩ : ∃ c : Int, x = .int c ∧ 0 ≤ c ∧ c ≤ 450 := by
      simp only [List.mem_cons, List.not_mem_nil, or_false] at hx
      rcases hx with rfl | rfl | rfl | rfl <;> exact ⟨_, rfl, by decide, by decide⟩
    obtain rfl := hS6.int_of (List.mem_cons_self ..)
    replace hS6 := hS6.weaken (Δ' := [(.ref av, scaleD rs)]) fun _ h => List.mem_cons_of_mem _ (List.mem_cons_of_mem _ h)
    refine ⟨_, _, rfl, rfl, ?_⟩
    obtain ⟨low, hlow, w1, w2⟩ : ∃ low : Int, r - c = low ∧ -450 ≤ low ∧ low < 300 := ⟨_, rfl, by omega, by omega⟩
    dsimp only [gName, List.set_cons_succ, List.set_cons_zero]
    rw [hlow]
    -- high, kept
    refine go_seq ⟨_, rfl, _, rfl, _, rfl, (by show 4 ≤ sizeLine; decide), fun p hp => ?_⟩
    have hS7 := hS6.lst (vs := [.int 1, .int 9, .int 200, .int 300]) (ds := [.int 1, .int 9, .int 200, .int 300]) hp (.cons (.int _) (.cons (.int _) (.cons (.int _) (.cons (.int _) .nil))))
    refine ⟨d, l, p, _, _, _, rfl, hS7, List.mem_cons_self .., by simp, by show 4 ≤ 10000; decide, fun H5 v x hx hS8 => ?_⟩
    obtain ⟨g, rfl, g1, g2⟩ : ∃ c : Int, x = .int c ∧ 1 ≤ c ∧ c ≤ 300 := by
      simp only [List.mem_cons, List.not_mem_nil, or_false] at hx
      rcases hx with rfl | rfl | rfl | rfl <;> exact ⟨_, rfl, by decide, by decide⟩
    obtain rfl := hS8.int_of (List.mem_cons_self ..)
    replace hS8 := hS8.weaken (Δ' := [(.ref av, scaleD rs)]) fun _ h => List.mem_cons_of_mem _ (List.mem_cons_of_mem _ h)
    refine ⟨d, l, g, [], _, rfl, hS8, small8000 (by omega) (by omega), fun H6 r2 hS9 q0 q1 => ⟨_, _, rfl, rfl, ?_⟩⟩
    obtain ⟨high, hhigh, v1, v2⟩ : ∃ high : Int, low + r2 = high ∧ low ≤ high ∧ high < low + 300 := ⟨_, rfl, by omega, by omega⟩
    refine (ed_repr (B := [(.ref av, scaleD rs)]) (ed_var rfl (.of (List.mem_cons_self ..))) trivial (sm_scale hOk) (by decide) (by decide)) _ _ _ _ _ .rfl' hS9 (fun v H7 Δ7 s7 hS10 dv => ?_)
    obtain rfl := dv.isStr hS10
    replace hS10 := hS10.weaken s7
    refine ⟨_, _, rfl, ?_⟩
    dsimp only [gName, List.set_cons_succ, List.set_cons_zero]
    rw [hhigh]
    clear hS hS1 hS2 hS3 hS4 hS5 hS6 hS7 hS8 hS9 hlow hhigh
    -- due
    refine go_set (go_cb (go_cons ⟨_, rfl, _, rfl, _, _, rfl, rfl, _, _, rfl, ⟨by omega, by omega, by omega, by omega⟩, fun D hD => lc_range (lo := low) (n := (high + 1 - low).toNat) (fun k H => St K H (some (d, l)) [(D, List.replicate (cntP (fitsAll rs) low k) (PyData.int 1))] [(.ref av, scaleD rs)])
      (hS10.make (ds := []) hD .nil) (fun k H hk hP => ?_) (fun H hP => ?_)⟩))
    · refine ⟨rfl, ?_⟩
      refine ⟨_, rfl, _, rfl, _, _, _, av, rs, _, rfl, hP, List.mem_cons_self .., h2, fun H' hS => ⟨_, rfl, ?_⟩⟩
      have ec : cntP (fitsAll rs) low (k + 1) = cntP (fitsAll rs) low k + if fitsAll rs (low + k) = true then 1 else 0 := rfl
      rw [ec]
      have hcl := cnt_le (P := fitsAll rs) (a := low) k
      cases hf : fitsAll rs (low + k) with
      | true =>
        obtain ⟨vd, g1, g2, g3⟩ := (hS.push (y := .int 1) (x := .int 1) (.int _))
        refine iteT ⟨vd, g1, small1000 (by rw [g2, List.length_replicate]; omega), ?_⟩
        rw [if_pos rfl, List.replicate_succ']
        exact g3
      | false =>
        refine iteF ?_
        rw [if_neg Bool.false_ne_true, Nat.add_zero]
        exact hS
    obtain ⟨vd, j1, j2, _, _⟩ := hP.look
    refine ⟨D, vd, rfl, .inl (SqL.of j1), ?_⟩
    have hdl : vd.length = cntP (fitsAll rs) low (high - low + 1).toNat := by
      rw [j2, List.length_replicate, show high + 1 - low = high - low + 1 by omega]
    rw [hdl]
    replace hS10 := hP.drop
    have hcl := cnt_le (P := fitsAll rs) (a := low) (high - low + 1).toNat
    have B0 : Dv [(V.ref av, scaleD rs)] (.ref av) (scaleD rs) := .of (List.mem_cons_self ..)
    dsimp only [gName, List.set_cons_succ, List.set_cons_zero]
    -- seen
    refine go_set (EvD.go (B := [(V.ref av, scaleD rs)]) (d := .int (cntP (fitsAll rs) low (high - low + 1).toNat : Nat)) (ed_ite (ed_eqI (ed_varI rfl) ed_int) (fun _ => ed_manyK (ed_var rfl B0) (ed_varI rfl) (ed_varI rfl) hOk v1) (fun _ => ed_many (ed_var rfl B0) (ed_varI rfl) (ed_varI rfl) hOk v1)) .rfl' hS10 (fun v H8 hS11 => ?_))
    obtain rfl := hS11.int_of (List.mem_cons_self ..)
    replace hS11 := hS11.weaken (Δ' := [(.ref av, scaleD rs)]) fun _ => List.mem_cons_of_mem _
    dsimp only [gName, List.set_cons_succ, List.set_cons_zero]
    have em : cntP (fitsAll rs) (-high) (-low - -high + 1).toNat = cntP (fitsAll rs) low (high - low + 1).toNat := by
      have e := cnt_mirror (P := fitsAll rs) fits_even (k := (high - low + 1).toNat) (a := low)
      rw [show -(low + ((high - low + 1).toNat : Int) - 1) = -high by omega] at e
      rw [show -low - -high + 1 = high - low + 1 by omega]
      exact e
    have ed3 := ed_many (K := K) (B := [(V.ref av, scaleD rs)]) (E := E0) (σ := [some (.ref a0), some (.ref d), some (.int (0 + (i : Int))), some (.ref av), some (.int low), some (.int high), some (.str (scaleD rs).shown), some (.int (cntP (fitsAll rs) low (high - low + 1).toNat : Nat)), y8, some (.int (cntP (fitsAll rs) low (high - low + 1).toNat : Nat)), y10, y11]) (ed_var (n := 3) rfl B0) (ed_neg (g := fun i => -i) (ed_varI (n := 5) rfl)) (ed_neg (g := fun i => -i) (ed_varI (n := 4) rfl)) hOk (show -high ≤ -low by omega)
    rw [em] at ed3
    have hdue : (0 : Int) ≤ (cntP (fitsAll rs) low (high - low + 1).toNat : Nat) ∧ ((cntP (fitsAll rs) low (high - low + 1).toNat : Nat) : Int) < 10 ^ 570 := ⟨Int.natCast_nonneg _, Int.lt_of_le_of_lt (show _ ≤ (300 : Int) by omega) (by decide +kernel)⟩
    have sm3 : Sm 1721 1 (.list [PyData.int (cntP (fitsAll rs) low (high - low + 1).toNat : Nat), .int (cntP (fitsAll rs) low (high - low + 1).toNat : Nat), .int (cntP (fitsAll rs) low (high - low + 1).toNat : Nat)]) := (sm_list (n := 570) (k := 0) fun x hx => by
      simp only [List.mem_cons, List.not_mem_nil, or_false] at hx
      rcases hx with rfl | rfl | rfl <;> exact sm_int hdue.1 hdue.2).mono (by show 3 * (570 + 2) + 3 ≤ 1721; decide) (Nat.le_refl _)
    refine go_if (EvD.test (b := !decide ((PyData.list [PyData.int (cntP (fitsAll rs) low (high - low + 1).toNat : Nat), .int (cntP (fitsAll rs) low (high - low + 1).toNat : Nat), .int (cntP (fitsAll rs) low (high - low + 1).toNat : Nat)]).shown = (PyData.list [PyData.int (cntP (fitsAll rs) low (high - low + 1).toNat : Nat), .int (cntP (fitsAll rs) low (high - low + 1).toNat : Nat), .int (cntP (fitsAll rs) low (high - low + 1).toNat : Nat)]).shown)) (B := [(.ref av, scaleD rs)])
      (ed_neS (ed_repr (ed_lst (eds_cons (ed_varI rfl) (eds_cons (ed_many (ed_var rfl B0) (ed_varI rfl) (ed_varI rfl) hOk v1) (eds_cons ed3 eds_nil))) (by show 3 ≤ 10000; decide)) trivial sm3 (by decide) (by decide))
        (ed_repr (ed_rep1 (k := 3) (by decide) (ed_varI rfl)) trivial sm3 (by decide) (by decide))) .rfl' hS11 (fun H9 hS12 => ?_))
    rw [decide_eq_true rfl]
    refine iteF ?_
    refine go_next ?_
    dsimp only [gName, List.set_cons_succ, List.set_cons_zero]
    clear ed3 sm3
    -- amid
    refine go_set (go_op ⟨_, rfl, ?_⟩)
    refine go_draw (B := []) rfl (ed_I0 (ed_I0 (ed_varI rfl) (ed_varI rfl)) ed_int) sub_nil hS12 (small8000 (by omega) (by omega)) (fun H10 r3 hS13 u0 u1 => ⟨_, _, rfl, rfl, ?_⟩)
    obtain ⟨amid, hamid, z1, z2⟩ : ∃ amid : Int, low + r3 = amid ∧ low ≤ amid ∧ amid ≤ high := ⟨_, rfl, by omega, by omega⟩
    dsimp only [gName, List.set_cons_succ, List.set_cons_zero]
    rw [hamid]
    clear hamid
    -- rest
    have hz : ¬ amid < high → (high - (amid + 1) + 1).toNat = 0 := fun h => by omega
    refine go_set (EvD.go (B := [(V.ref av, scaleD rs)]) (d := .int (cntP (fitsAll rs) (amid + 1) (high - (amid + 1) + 1).toNat : Nat)) (ed_ite (b := decide (amid < high)) (ed_ltI (ed_varI rfl) (ed_varI rfl)) (fun h => ed_many (ed_var rfl B0) (ed_I0 (ed_varI rfl) ed_int) (ed_varI rfl) hOk (by have := of_decide_eq_true h; omega)) (fun h => ?_)) .rfl' hS13 (fun v H11 hS14 => ?_))
    · rw [hz (of_decide_eq_false h)]
      exact ed_int
    obtain rfl := hS14.int_of (List.mem_cons_self ..)
    replace hS14 := hS14.weaken (Δ' := [(.ref av, scaleD rs)]) fun _ => List.mem_cons_of_mem _
    dsimp only [gName, List.set_cons_succ, List.set_cons_zero]
    -- if .. + rest != due
    have esum : ((cntP (fitsAll rs) low (amid - low + 1).toNat : Nat) : Int) + ((cntP (fitsAll rs) (amid + 1) (high - (amid + 1) + 1).toNat : Nat) : Int) = (cntP (fitsAll rs) low (high - low + 1).toNat : Nat) := by
      rw [show (high - low + 1).toNat = (amid - low + 1).toNat + (high - (amid + 1) + 1).toNat by omega, cnt_add, Int.natCast_add, show low + ((amid - low + 1).toNat : Int) = amid + 1 by omega]
    refine go_if (EvD.test (b := !decide (((cntP (fitsAll rs) low (amid - low + 1).toNat : Nat) : Int) + ((cntP (fitsAll rs) (amid + 1) (high - (amid + 1) + 1).toNat : Nat) : Int) = (cntP (fitsAll rs) low (high - low + 1).toNat : Nat))) (B := [(V.ref av, scaleD rs)])
      (ed_neI (ed_I0 (ed_many (ed_var rfl B0) (ed_varI rfl) (ed_varI rfl) hOk z1) (ed_varI rfl)) (ed_varI rfl)) .rfl' hS14 (fun H12 hS15 => ?_))
    rw [decide_eq_true esum]
    refine iteF ?_
    refine go_next ?_
    dsimp only [gName, List.set_cons_succ, List.set_cons_zero]
    clear hS10 hS11 hS12 hS13 hS14 esum hz
    -- for number in (low, amid, high, high + 1)
    refine go_for ⟨_, rfl, _, rfl, _, rfl, _, rfl, _, _, rfl, rfl, (by show 4 ≤ sizeLine; decide), fun p4 hp4 => ?_⟩
    have hS16 := hS15.tup (vs := [.int low, .int amid, .int high, .int (high + 1)]) (ds := ([low, amid, high, high + 1] : List Int).map PyData.int) hp4 (.cons (.int _) (.cons (.int _) (.cons (.int _) (.cons (.int _) .nil))))
    obtain ⟨xs0, hT0, hx0⟩ := hS16.lenT (List.mem_cons_self ..)
    refine ⟨p4, rfl, ⟨xs0, hT0⟩, for_it (n := 4) walkT (fun k σ H => ∃ y8 y9 : Option V, σ = [some (.ref a0), some (.ref d), some (.int (0 + (i : Int))), some (.ref av), some (.int low), some (.int high), some (.str (scaleD rs).shown), some (.int (cntP (fitsAll rs) low (high - low + 1).toNat : Nat)), y8, y9, some (.int amid), some (.int (cntP (fitsAll rs) (amid + 1) (high - (amid + 1) + 1).toNat : Nat))] ∧
        St K H (some (d, l)) [] [(V.ref p4, PyData.tuple (([low, amid, high, high + 1] : List Int).map PyData.int)), (.ref av, scaleD rs)])
      ⟨_, _, rfl, hS16⟩ (fun k σ H _ hP => ?_) (fun k x σ H H' hk hP hy => ?_) (fun σ H hP => ?_)⟩
    · obtain ⟨_, _, _, hS⟩ := hP
      obtain ⟨xs, h1, h3⟩ := hS.lenT (List.mem_cons_self ..)
      exact ⟨xs, h1, h3⟩
    · obtain ⟨y8, y9, rfl, hS⟩ := hP
      obtain ⟨rfl, ff⟩ := hy
      obtain ⟨dd, e1, hS1⟩ := hS.turnT (List.mem_cons_self ..) ff
      obtain ⟨num, rfl, n1, n2⟩ : ∃ num : Int, dd = .int num ∧ -450 ≤ num ∧ num ≤ 2000 := by
        have : k = 0 ∨ k = 1 ∨ k = 2 ∨ k = 3 := by omega
        rcases this with rfl | rfl | rfl | rfl <;> cases Option.some.inj e1 <;> exact ⟨_, rfl, by omega, by omega⟩
      obtain rfl := hS1.int_of (List.mem_cons_self ..)
      have hS2 := hS1.weaken (Δ' := [(V.ref p4, PyData.tuple (([low, amid, high, high + 1] : List Int).map PyData.int)), (.ref av, scaleD rs)]) fun _ => List.mem_cons_of_mem _
      have B1 : Dv [(V.ref p4, PyData.tuple (([low, amid, high, high + 1] : List Int).map PyData.int)), (.ref av, scaleD rs)] (.ref av) (scaleD rs) := .of (List.mem_cons_of_mem _ (List.mem_cons_self ..))
      obtain ⟨o, ho⟩ := least_ex (fitsAll rs) num
      have hn : num.natAbs < 2 ^ 8000 := Nat.lt_of_le_of_lt (show num.natAbs ≤ 2000 by omega) (Nat.lt_of_lt_of_le (show 2000 < 2 ^ 11 by decide) (Nat.pow_le_pow_right (by decide) (by decide)))
      dsimp only [gName, List.set_cons_succ, List.set_cons_zero]
      refine go_set (EvD.go (B := [(V.ref p4, PyData.tuple (([low, amid, high, high + 1] : List Int).map PyData.int)), (.ref av, scaleD rs)]) (d := optD o) (ed_ite (ed_eqI (ed_varI rfl) ed_int) (fun _ => ed_fromK (ed_var rfl B1) (ed_varI rfl) hOk hn ho) (fun _ => ed_from (ed_var rfl B1) (ed_varI rfl) hOk hn ho)) .rfl' hS2 (fun v H8 hS11 => ?_))
      have smo := sm_optD hsm n1 n2 ho
      have sm2 : Sm 1147 1 (.list [optD o, optD o]) := (sm_list (n := 570) (k := 0) fun x hx => by
        simp only [List.mem_cons, List.not_mem_nil, or_false] at hx
        rcases hx with rfl | rfl <;> exact smo).mono (by show 2 * (570 + 2) + 3 ≤ 1147; decide) (Nat.le_refl _)
      have B2 : Dv [(v, optD o), (V.ref p4, PyData.tuple (([low, amid, high, high + 1] : List Int).map PyData.int)), (.ref av, scaleD rs)] (.ref av) (scaleD rs) := .of (List.mem_cons_of_mem _ (List.mem_cons_of_mem _ (List.mem_cons_self ..)))
      dsimp only [gName, List.set_cons_succ, List.set_cons_zero]
      refine go_if (EvD.test (b := !decide ((PyData.list [optD o, optD o]).shown = (PyData.list [optD o, optD o]).shown)) (B := [(v, optD o), (V.ref p4, PyData.tuple (([low, amid, high, high + 1] : List Int).map PyData.int)), (.ref av, scaleD rs)])
        (ed_neS (ed_repr (ed_lst (eds_cons (ed_var rfl (.of (List.mem_cons_self ..))) (eds_cons (ed_from (ed_var rfl B2) (ed_varI rfl) hOk hn ho) eds_nil)) (by show 2 ≤ 10000; decide)) trivial sm2 (by decide) (by decide))
          (ed_repr (ed_rep1 (k := 2) (by decide) (ed_next (ed_var rfl B2) (ed_varI rfl) hsm n1 n2 ho)) trivial sm2 (by decide) (by decide))) .rfl' hS11 (fun H9 hS12 => ?_))
      rw [decide_eq_true rfl]
      refine iteF ?_
      exact ⟨_, _, rfl, hS12.weaken fun _ => List.mem_cons_of_mem _⟩
    · obtain ⟨y8, y9, rfl, hS⟩ := hP
      have B1 : Dv [(V.ref p4, PyData.tuple (([low, amid, high, high + 1] : List Int).map PyData.int)), (.ref av, scaleD rs)] (.ref av) (scaleD rs) := .of (List.mem_cons_of_mem _ (List.mem_cons_self ..))
      refine go_if (EvD.test (b := !decide ((scaleD rs).shown = (scaleD rs).shown)) (B := [(V.ref p4, PyData.tuple (([low, amid, high, high + 1] : List Int).map PyData.int)), (.ref av, scaleD rs)])
        (ed_neS (ed_repr (ed_var rfl B1) trivial (sm_scale hOk) (by decide) (by decide)) (ed_var rfl (.str _))) .rfl' hS (fun H9 hS12 => ?_))
      rw [decide_eq_true rfl]
      refine iteF ?_
      exact ⟨_, _, _, _, _, _, _, _, _, _, rfl, hS12.weaken fun _ h => nomatch h⟩

end
theorem all_mk {l : PySem.W.OpenLaw} {w : World} {K : PySem.W.Frag} {h : Heap} {mg : Str → Option Value} {fa : Addr} (X : K.In h) (G : h.Ns mainGlobals mg) (hfa : mg "law" = some (.ref fa))
    {f0 : Addr} {od0 an0 : Option Addr} {sl0 : Array (Option Value)} {oc0 kV0 dc0 pm0 cd0 ct0 : Value}
    {f1 : Addr} {od1 an1 : Option Addr} {sl1 : Array (Option Value)} {oc1 kV1 dc1 pm1 cd1 ct1 : Value}
    {f2 : Addr} {od2 an2 : Option Addr} {sl2 : Array (Option Value)} {oc2 kV2 dc2 pm2 cd2 ct2 : Value}
    {f3 : Addr} {od3 an3 : Option Addr} {sl3 : Array (Option Value)} {oc3 kV3 dc3 pm3 cd3 ct3 : Value}
    {f4 : Addr} {od4 an4 : Option Addr} {sl4 : Array (Option Value)} {oc4 kV4 dc4 pm4 cd4 ct4 : Value}
    {f5 : Addr} {od5 an5 : Option Addr} {sl5 : Array (Option Value)} {oc5 kV5 dc5 pm5 cd5 ct5 : Value}
    {f6 : Addr} {od6 an6 : Option Addr} {sl6 : Array (Option Value)} {oc6 kV6 dc6 pm6 cd6 ct6 : Value}
    {f7 : Addr} {od7 an7 : Option Addr} {sl7 : Array (Option Value)} {oc7 kV7 dc7 pm7 cd7 ct7 : Value}
    {f8 : Addr} {od8 an8 : Option Addr} {sl8 : Array (Option Value)} {oc8 kV8 dc8 pm8 cd8 ct8 : Value}
    {f9 : Addr} {od9 an9 : Option Addr} {sl9 : Array (Option Value)} {oc9 kV9 dc9 pm9 cd9 ct9 : Value}
    {f10 : Addr} {od10 an10 : Option Addr} {sl10 : Array (Option Value)} {oc10 kV10 dc10 pm10 cd10 ct10 : Value}
    {f11 : Addr} {od11 an11 : Option Addr} {sl11 : Array (Option Value)} {oc11 kV11 dc11 pm11 cd11 ct11 : Value}
    {f12 : Addr} {od12 an12 : Option Addr} {sl12 : Array (Option Value)} {oc12 kV12 dc12 pm12 cd12 ct12 : Value}
    {f13 : Addr} {od13 an13 : Option Addr} {sl13 : Array (Option Value)} {oc13 kV13 dc13 pm13 cd13 ct13 : Value}
    {f14 : Addr} {od14 an14 : Option Addr} {sl14 : Array (Option Value)} {oc14 kV14 dc14 pm14 cd14 ct14 : Value}
    (a0 : PySem.W.nsIn K mainGlobals "stretches" = some (some (.ref f0))) (l0 : K.lookup f0 = some ⟨oc0, od0, .func (PySem.W.fnOf "stretches" "stretches" (defArgs sstretches) (defBody sstretches) (defScope sstretches) .none kV0 dc0 pm0 an0 cd0 ct0), sl0⟩) (c0 : PySem.W.codeIn K cd0 "stretches" = true) (k0 : PySem.W.keepIn K (.ref f0) = true)
    (a1 : PySem.W.nsIn K mainGlobals "first_multiple" = some (some (.ref f1))) (l1 : K.lookup f1 = some ⟨oc1, od1, .func (PySem.W.fnOf "first_multiple" "first_multiple" (defArgs sfirst_multiple) (defBody sfirst_multiple) (defScope sfirst_multiple) .none kV1 dc1 pm1 an1 cd1 ct1), sl1⟩) (c1 : PySem.W.codeIn K cd1 "first_multiple" = true) (k1 : PySem.W.keepIn K (.ref f1) = true)
    (a2 : PySem.W.nsIn K mainGlobals "lesser" = some (some (.ref f2))) (l2 : K.lookup f2 = some ⟨oc2, od2, .func (PySem.W.fnOf "lesser" "lesser" (defArgs slesser) (defBody slesser) (defScope slesser) .none kV2 dc2 pm2 an2 cd2 ct2), sl2⟩) (c2 : PySem.W.codeIn K cd2 "lesser" = true) (k2 : PySem.W.keepIn K (.ref f2) = true)
    (a3 : PySem.W.nsIn K mainGlobals "many_to" = some (some (.ref f3))) (l3 : K.lookup f3 = some ⟨oc3, od3, .func (PySem.W.fnOf "many_to" "many_to" (defArgs smany_to) (defBody smany_to) (defScope smany_to) .none kV3 dc3 pm3 an3 cd3 ct3), sl3⟩) (c3 : PySem.W.codeIn K cd3 "many_to" = true) (k3 : PySem.W.keepIn K (.ref f3) = true)
    (a4 : PySem.W.nsIn K mainGlobals "fitting_many" = some (some (.ref f4))) (l4 : K.lookup f4 = some ⟨oc4, od4, .func (PySem.W.fnOf "fitting_many" "fitting_many" (defArgs sfitting_many) (defBody sfitting_many) (defScope sfitting_many) .none kV4 dc4 pm4 an4 cd4 ct4), sl4⟩) (c4 : PySem.W.codeIn K cd4 "fitting_many" = true) (k4 : PySem.W.keepIn K (.ref f4) = true)
    (a5 : PySem.W.nsIn K mainGlobals "least_from" = some (some (.ref f5))) (l5 : K.lookup f5 = some ⟨oc5, od5, .func (PySem.W.fnOf "least_from" "least_from" (defArgs sleast_from) (defBody sleast_from) (defScope sleast_from) .none kV5 dc5 pm5 an5 cd5 ct5), sl5⟩) (c5 : PySem.W.codeIn K cd5 "least_from" = true) (k5 : PySem.W.keepIn K (.ref f5) = true)
    (a6 : PySem.W.nsIn K mainGlobals "greatest_to" = some (some (.ref f6))) (l6 : K.lookup f6 = some ⟨oc6, od6, .func (PySem.W.fnOf "greatest_to" "greatest_to" (defArgs sgreatest_to) (defBody sgreatest_to) (defScope sgreatest_to) .none kV6 dc6 pm6 an6 cd6 ct6), sl6⟩) (c6 : PySem.W.codeIn K cd6 "greatest_to" = true) (k6 : PySem.W.keepIn K (.ref f6) = true)
    (a7 : PySem.W.nsIn K mainGlobals "fitting_from" = some (some (.ref f7))) (l7 : K.lookup f7 = some ⟨oc7, od7, .func (PySem.W.fnOf "fitting_from" "fitting_from" (defArgs sfitting_from) (defBody sfitting_from) (defScope sfitting_from) .none kV7 dc7 pm7 an7 cd7 ct7), sl7⟩) (c7 : PySem.W.codeIn K cd7 "fitting_from" = true) (k7 : PySem.W.keepIn K (.ref f7) = true)
    (a8 : PySem.W.nsIn K mainGlobals "_law_deck" = some (some (.ref f8))) (l8 : K.lookup f8 = some ⟨oc8, od8, .func (PySem.W.fnOf "_law_deck" "_law_deck" (defArgs s_law_deck) (defBody s_law_deck) (defScope s_law_deck) .none kV8 dc8 pm8 an8 cd8 ct8), sl8⟩) (c8 : PySem.W.codeIn K cd8 "_law_deck" = true) (k8 : PySem.W.keepIn K (.ref f8) = true)
    (a9 : PySem.W.nsIn K mainGlobals "_law_draw" = some (some (.ref f9))) (l9 : K.lookup f9 = some ⟨oc9, od9, .func (PySem.W.fnOf "_law_draw" "_law_draw" (defArgs s_law_draw) (defBody s_law_draw) (defScope s_law_draw) .none kV9 dc9 pm9 an9 cd9 ct9), sl9⟩) (c9 : PySem.W.codeIn K cd9 "_law_draw" = true) (k9 : PySem.W.keepIn K (.ref f9) = true)
    (a10 : PySem.W.nsIn K mainGlobals "_law_pick" = some (some (.ref f10))) (l10 : K.lookup f10 = some ⟨oc10, od10, .func (PySem.W.fnOf "_law_pick" "_law_pick" (defArgs s_law_pick) (defBody s_law_pick) (defScope s_law_pick) .none kV10 dc10 pm10 an10 cd10 ct10), sl10⟩) (c10 : PySem.W.codeIn K cd10 "_law_pick" = true) (k10 : PySem.W.keepIn K (.ref f10) = true)
    (a11 : PySem.W.nsIn K mainGlobals "_law_fits" = some (some (.ref f11))) (l11 : K.lookup f11 = some ⟨oc11, od11, .func (PySem.W.fnOf "_law_fits" "_law_fits" (defArgs s_law_fits) (defBody s_law_fits) (defScope s_law_fits) .none kV11 dc11 pm11 an11 cd11 ct11), sl11⟩) (c11 : PySem.W.codeIn K cd11 "_law_fits" = true) (k11 : PySem.W.keepIn K (.ref f11) = true)
    (a12 : PySem.W.nsIn K mainGlobals "_law_small" = some (some (.ref f12))) (l12 : K.lookup f12 = some ⟨oc12, od12, .func (PySem.W.fnOf "_law_small" "_law_small" (defArgs s_law_small) (defBody s_law_small) (defScope s_law_small) .none kV12 dc12 pm12 an12 cd12 ct12), sl12⟩) (c12 : PySem.W.codeIn K cd12 "_law_small" = true) (k12 : PySem.W.keepIn K (.ref f12) = true)
    (a13 : PySem.W.nsIn K mainGlobals "_law_next" = some (some (.ref f13))) (l13 : K.lookup f13 = some ⟨oc13, od13, .func (PySem.W.fnOf "_law_next" "_law_next" (defArgs s_law_next) (defBody s_law_next) (defScope s_law_next) .none kV13 dc13 pm13 an13 cd13 ct13), sl13⟩) (c13 : PySem.W.codeIn K cd13 "_law_next" = true) (k13 : PySem.W.keepIn K (.ref f13) = true)
    (a14 : PySem.W.nsIn K mainGlobals "law" = some (some (.ref f14))) (l14 : K.lookup f14 = some ⟨oc14, od14, .func (PySem.W.fnOf "law" "law" (defArgs slaw) (defBody slaw) (defScope slaw) .none kV14 dc14 pm14 an14 cd14 ct14), sl14⟩) (c14 : PySem.W.codeIn K cd14 "law" = true) (k14 : PySem.W.keepIn K (.ref f14) = true)
    (glcm : PySem.W.nsIn K mainGlobals "lcm" = some (some (.builtin "math.lcm")))
    (hz : ∀ x : Str, bnames.contains x = true → PySem.W.nsIn K mainGlobals x = some none) :
    ∃ fd : FuncData, (∀ (s : Shared) (v : Value), BindsTo s fd ⟨[v], []⟩ [("script", v)]) ∧ ∀ base : Heap, K.In base → base.Ns mainGlobals mg → FnG l.prog w K mg base 4 fa fd ["script"] (splaw K) := by
  have e := hfa.symm.trans (PySem.W.mg_of X G a14)
  cases e
  have nb : NB mg bnames := fun x hx => PySem.W.mg_none_of X G (hz x hx)
  have F0 := fun_mk (st := sstretches) l0 c0 k0
  have b0 := F0.binds (ps := ["scale"]) fun _ _ _ _ _ _ us hl => match us, hl with | [_], _ => rfl
  have F1 := fun_mk (st := sfirst_multiple) l1 c1 k1
  have b1 := F1.binds (ps := ["step", "low"]) fun _ _ _ _ _ _ us hl => match us, hl with | [_, _], _ => rfl
  have F2 := fun_mk (st := slesser) l2 c2 k2
  have b2 := F2.binds (ps := ["top", "high"]) fun _ _ _ _ _ _ us hl => match us, hl with | [_, _], _ => rfl
  have F3 := fun_mk (st := smany_to) l3 c3 k3
  have b3 := F3.binds (ps := ["scale", "top"]) fun _ _ _ _ _ _ us hl => match us, hl with | [_, _], _ => rfl
  have F4 := fun_mk (st := sfitting_many) l4 c4 k4
  have b4 := F4.binds (ps := ["scale", "low", "high"]) fun _ _ _ _ _ _ us hl => match us, hl with | [_, _, _], _ => rfl
  have F5 := fun_mk (st := sleast_from) l5 c5 k5
  have b5 := F5.binds (ps := ["scale", "number"]) fun _ _ _ _ _ _ us hl => match us, hl with | [_, _], _ => rfl
  have F6 := fun_mk (st := sgreatest_to) l6 c6 k6
  have b6 := F6.binds (ps := ["scale", "number"]) fun _ _ _ _ _ _ us hl => match us, hl with | [_, _], _ => rfl
  have F7 := fun_mk (st := sfitting_from) l7 c7 k7
  have b7 := F7.binds (ps := ["scale", "number"]) fun _ _ _ _ _ _ us hl => match us, hl with | [_, _], _ => rfl
  have F8 := fun_mk (st := s_law_deck) l8 c8 k8
  have b8 := F8.binds (ps := ["script"]) fun _ _ _ _ _ _ us hl => match us, hl with | [_], _ => rfl
  have F9 := fun_mk (st := s_law_draw) l9 c9 k9
  have b9 := F9.binds (ps := ["deck", "many"]) fun _ _ _ _ _ _ us hl => match us, hl with | [_, _], _ => rfl
  have F10 := fun_mk (st := s_law_pick) l10 c10 k10
  have b10 := F10.binds (ps := ["deck", "items"]) fun _ _ _ _ _ _ us hl => match us, hl with | [_, _], _ => rfl
  have F11 := fun_mk (st := s_law_fits) l11 c11 k11
  have b11 := F11.binds (ps := ["scale", "number"]) fun _ _ _ _ _ _ us hl => match us, hl with | [_, _], _ => rfl
  have F12 := fun_mk (st := s_law_small) l12 c12 k12
  have b12 := F12.binds (ps := ["deck", "most", "top"]) fun _ _ _ _ _ _ us hl => match us, hl with | [_, _, _], _ => rfl
  have F13 := fun_mk (st := s_law_next) l13 c13 k13
  have b13 := F13.binds (ps := ["scale", "number"]) fun _ _ _ _ _ _ us hl => match us, hl with | [_, _], _ => rfl
  have F14 := fun_mk (st := slaw) l14 c14 k14
  refine ⟨PySem.W.fnOf "law" "law" (defArgs slaw) (defBody slaw) (defScope slaw) .none kV14 dc14 pm14 an14 cd14 ct14, fun s v => .of_eq rfl, fun base _ _ => ?_⟩
  have D_law_deck : Fd l.prog w K mg base "_law_deck" 1 ["script"] (sp_law_deck K) := .mk' F8 (ok_law_deck F8 nb    ) (PySem.W.mg_of X G a8) b8
  have D_law_draw : Fd l.prog w K mg base "_law_draw" 1 ["deck", "many"] (sp_law_draw K) := .mk' F9 (ok_law_draw F9 nb    ) (PySem.W.mg_of X G a9) b9
  have D_law_fits : Fd l.prog w K mg base "_law_fits" 1 ["scale", "number"] (sp_law_fits K) := .mk' F11 (ok_law_fits F11 nb    ) (PySem.W.mg_of X G a11) b11
  have D_law_next : Fd l.prog w K mg base "_law_next" 2 ["scale", "number"] (sp_law_next K) := .mk' F13 (ok_law_next F13 nb D_law_fits   ) (PySem.W.mg_of X G a13) b13
  have D_law_pick : Fd l.prog w K mg base "_law_pick" 2 ["deck", "items"] (sp_law_pick K) := .mk' F10 (ok_law_pick F10 nb D_law_draw   ) (PySem.W.mg_of X G a10) b10
  have D_law_small : Fd l.prog w K mg base "_law_small" 3 ["deck", "most", "top"] (sp_law_small K) := .mk' F12 (ok_law_small F12 nb D_law_draw D_law_pick   ) (PySem.W.mg_of X G a12) b12
  have Dlesser : Fd l.prog w K mg base "lesser" 1 ["top", "high"] (splesser K) := .mk' F2 (oklesser F2 nb    ) (PySem.W.mg_of X G a2) b2
  have Dstretches : Fd l.prog w K mg base "stretches" 1 ["scale"] (spstretches K) := .mk' F0 (okstretches F0 nb    (PySem.W.mg_of X G glcm)) (PySem.W.mg_of X G a0) b0
  have Dgreatest_to : Fd l.prog w K mg base "greatest_to" 2 ["scale", "number"] (spgreatest_to K) := .mk' F6 (okgreatest_to F6 nb Dlesser Dstretches   ) (PySem.W.mg_of X G a6) b6
  have Dfirst_multiple : Fd l.prog w K mg base "first_multiple" 1 ["step", "low"] (spfirst_multiple K) := .mk' F1 (okfirst_multiple F1 nb    ) (PySem.W.mg_of X G a1) b1
  have Dleast_from : Fd l.prog w K mg base "least_from" 2 ["scale", "number"] (spleast_from K) := .mk' F5 (okleast_from F5 nb Dfirst_multiple Dstretches   ) (PySem.W.mg_of X G a5) b5
  have Dfitting_from : Fd l.prog w K mg base "fitting_from" 3 ["scale", "number"] (spfitting_from K) := .mk' F7 (okfitting_from F7 nb Dgreatest_to Dleast_from   ) (PySem.W.mg_of X G a7) b7
  have Efitting_from : Fk l.prog w K mg base "fitting_from" 3 ["scale", "number"] ["number", "scale"] (fun zs => zs.reverse) (spfitting_from K) := ⟨_, _, _, okfitting_from F7 nb Dgreatest_to Dleast_from   , PySem.W.mg_of X G a7, F7.kp, F7.kb fun _ _ _ _ _ _ us hl => match us, hl with | [_, _], _ => rfl⟩
  have Dmany_to : Fd l.prog w K mg base "many_to" 2 ["scale", "top"] (spmany_to K) := .mk' F3 (okmany_to F3 nb Dlesser Dstretches   ) (PySem.W.mg_of X G a3) b3
  have Dfitting_many : Fd l.prog w K mg base "fitting_many" 3 ["scale", "low", "high"] (spfitting_many K) := .mk' F4 (okfitting_many F4 nb Dmany_to   ) (PySem.W.mg_of X G a4) b4
  have Efitting_many : Fk l.prog w K mg base "fitting_many" 3 ["scale", "low", "high"] ["high", "low", "scale"] (fun zs => zs.reverse) (spfitting_many K) := ⟨_, _, _, okfitting_many F4 nb Dmany_to   , PySem.W.mg_of X G a4, F4.kp, F4.kb fun _ _ _ _ _ _ us hl => match us, hl with | [_, _, _], _ => rfl⟩
  exact oklaw F14 nb D_law_deck D_law_draw D_law_fits D_law_next D_law_pick D_law_small Dfitting_from Dfitting_many Efitting_many Efitting_from  
end K03
open PySem PySem.W PyProof.Rows
set_option maxRecDepth 100000 in
set_option maxHeartbeats 0 in
theorem PySem.Challenge.cw_everyexact_k03_whole_stretches_gone_thro_holds : PySem.Challenge.rw_everyexact_k03_whole_stretches_gone_thro.Holds := by
  w_on; o_law; k_head; (case hw => w_witness2)
  k_fill
  refine EE.walk_ofG (l := PySem.Challenge.rw_everyexact_k03_whole_stretches_gone_thro) (n := 63) (k := 4) (x := "script") (sp := K03.splaw) rfl (by decide) rfl ⟨rfl, by decide, by decide⟩ (fun w h Y => PySem.W.kIn_of Y) ?F (fun K H a ns hl _ hS => ⟨a, ns, rfl, hS, hl, fun _ => rfl⟩)
  case F =>
    intro w mg fa h KX G hmg
    refine' K03.all_mk KX G hmg ?a0 ?l0 ?c0 ?k0 ?a1 ?l1 ?c1 ?k1 ?a2 ?l2 ?c2 ?k2 ?a3 ?l3 ?c3 ?k3 ?a4 ?l4 ?c4 ?k4 ?a5 ?l5 ?c5 ?k5 ?a6 ?l6 ?c6 ?k6 ?a7 ?l7 ?c7 ?k7 ?a8 ?l8 ?c8 ?k8 ?a9 ?l9 ?c9 ?k9 ?a10 ?l10 ?c10 ?k10 ?a11 ?l11 ?c11 ?k11 ?a12 ?l12 ?c12 ?k12 ?a13 ?l13 ?c13 ?k13 ?a14 ?l14 ?c14 ?k14  ?glcm ?hz
    (case a0 => k_is); (case l0 => k_is); (case c0 => k_is); (case k0 => k_is)
    (case a1 => k_is); (case l1 => k_is); (case c1 => k_is); (case k1 => k_is)
    (case a2 => k_is); (case l2 => k_is); (case c2 => k_is); (case k2 => k_is)
    (case a3 => k_is); (case l3 => k_is); (case c3 => k_is); (case k3 => k_is)
    (case a4 => k_is); (case l4 => k_is); (case c4 => k_is); (case k4 => k_is)
    (case a5 => k_is); (case l5 => k_is); (case c5 => k_is); (case k5 => k_is)
    (case a6 => k_is); (case l6 => k_is); (case c6 => k_is); (case k6 => k_is)
    (case a7 => k_is); (case l7 => k_is); (case c7 => k_is); (case k7 => k_is)
    (case a8 => k_is); (case l8 => k_is); (case c8 => k_is); (case k8 => k_is)
    (case a9 => k_is); (case l9 => k_is); (case c9 => k_is); (case k9 => k_is)
    (case a10 => k_is); (case l10 => k_is); (case c10 => k_is); (case k10 => k_is)
    (case a11 => k_is); (case l11 => k_is); (case c11 => k_is); (case k11 => k_is)
    (case a12 => k_is); (case l12 => k_is); (case c12 => k_is); (case k12 => k_is)
    (case a13 => k_is); (case l13 => k_is); (case c13 => k_is); (case k13 => k_is)
    (case a14 => k_is); (case l14 => k_is); (case c14 => k_is); (case k14 => k_is)
    (case glcm => k_is)
    case hz =>
      intro x hx
      simp only [EE.bnames, List.contains_cons, List.contains_nil, Bool.or_false, Bool.or_eq_true, beq_iff_eq] at hx
      rcases hx with rfl | rfl | rfl | rfl | rfl | rfl | rfl | rfl | rfl | rfl | rfl | rfl | rfl | rfl | rfl | rfl | rfl | rfl | rfl | rfl <;> k_is
