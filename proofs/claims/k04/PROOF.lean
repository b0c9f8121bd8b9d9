import PyProof.Rows.All
import Wide.All
import OpenK.AllK
import Wide.FinOn
import HandS.ForMost
import HandS.Wide
import HandS.TupAny
import HandS.Style
import HandS.Walk
import HandS.Flow
import HandS.Zip
import HandS.IsInst
import KE.GoesEnum
import HandS.WideBits
import HandS.More
import HandS.Evl
import PyProof.ReprLen
import PyProof.Rows.StrJoinMade
import HandS.Conv
import HandS.Exc
import HandS.ExcOwn
import HandS.ExcIs
import HandS.CallLocal
import HandS.RaiseMore
import HandS.WordsExc
import HandS.Gcd
import KE.KMathGC
import HandS.SortRule
import HandS.SetFor
import HandS.Strs
import HandS.SortInts
import HandS.TryOnly
import PySem.Challenge.RW_everyexact_k04_whole_great_stretches
set_option Elab.async false
set_option linter.all false
set_option maxRecDepth 100000
set_option maxHeartbeats 8000000
namespace EE
open PySem PySem.Spec PyProof.Rows L2

/-! ### data in the heap -/
theorem Same.sqT {K : PySem.W.Frag} {H H' : Hp} {a : Addr} {xs : List V} (e : Same H H') (h : SqT K H a xs) : SqT K H' a xs := by
  rcases h with (h | ⟨o, h⟩) | h
  · exact Or.inl (Or.inl (e a _ h))
  · exact Or.inl (Or.inr ⟨o, e a _ h⟩)
  · exact Or.inr h
mutual
theorem dp_up {K : PySem.W.Frag} {H H' : Hp} (e : Same H H') : ∀ {d : PyData} {v : V}, Dp K H v d → Dp K H' v d
  | .none, _, h => by cases h; exact .non
  | .bool b, _, h => by cases h; exact .bl b
  | .int i, _, h => by cases h; exact .int i
  | .str x, _, h => by cases h; exact .str x
  | .list ds, _, h => by
    cases h with
    | lst hs ha => exact .lst (e.seq hs) (dps_up e ha)
  | .tuple ds, _, h => by
    cases h with
    | tup hs ha => exact .tup (Same.sqT e hs) (dps_up e ha)
  | .dict _, _, h => by cases h
theorem dps_up {K : PySem.W.Frag} {H H' : Hp} (e : Same H H') : ∀ {ds : List PyData} {vs : List V}, DpAll K H vs ds → DpAll K H' vs ds
  | [], _, h => by cases h; exact .nil
  | d :: ds, _, h => by
    cases h with
    | cons h1 h2 => exact .cons (dp_up e h1) (dps_up e h2)
end
theorem dps_len {K : PySem.W.Frag} {H : Hp} : ∀ {ds : List PyData} {vs : List V}, DpAll K H vs ds → vs.length = ds.length
  | [], _, h => by cases h; rfl
  | d :: ds, _, h => by
    cases h with
    | cons h1 h2 => rw [List.length_cons, List.length_cons, dps_len h2]
theorem dps_at {K : PySem.W.Frag} {H : Hp} : ∀ {ds : List PyData} {vs : List V} {i : Nat} {d : PyData}, DpAll K H vs ds → ds[i]? = some d → ∃ v, vs[i]? = some v ∧ Dp K H v d
  | [], _, i, _, h, e => by simp at e
  | d :: ds, _, 0, d', h, e => by
    cases h with
    | cons h1 h2 =>
      have : d = d' := by simpa using e
      subst this
      exact ⟨_, rfl, h1⟩
  | d :: ds, _, i + 1, d', h, e => by
    cases h with
    | cons h1 h2 =>
      obtain ⟨v, h3, h4⟩ := dps_at (i := i) (d := d') h2 (by simpa using e)
      exact ⟨v, by simpa using h3, h4⟩
theorem dps_at' {K : PySem.W.Frag} {H : Hp} {ds : List PyData} {vs : List V} {i : Nat} {v : V} (h : DpAll K H vs ds) (e : vs[i]? = some v) : ∃ d, ds[i]? = some d ∧ Dp K H v d := by
  have hl := dps_len h
  obtain ⟨hi, _⟩ := List.getElem?_eq_some_iff.mp e
  have hd : ds[i]? = some (ds[i]'(by omega)) := List.getElem?_eq_getElem _
  obtain ⟨v', h1, h2⟩ := dps_at h hd
  rw [e] at h1
  cases h1
  exact ⟨_, hd, h2⟩
theorem dps_app {K : PySem.W.Frag} {H : Hp} : ∀ {ds es : List PyData} {vs us : List V}, DpAll K H vs ds → DpAll K H us es → DpAll K H (vs ++ us) (ds ++ es)
  | [], _, _, _, h, k => by cases h; exact k
  | d :: ds, _, _, _, h, k => by
    cases h with
    | cons h1 h2 => exact .cons h1 (dps_app h2 k)
theorem dps_erase {K : PySem.W.Frag} {H : Hp} : ∀ {ds : List PyData} {vs : List V} (i : Nat), DpAll K H vs ds → DpAll K H (vs.eraseIdx i) (ds.eraseIdx i)
  | [], _, _, h => by cases h; exact .nil
  | d :: ds, _, 0, h => by
    cases h with
    | cons h1 h2 => exact h2
  | d :: ds, _, i + 1, h => by
    cases h with
    | cons h1 h2 => exact .cons h1 (dps_erase i h2)
theorem dps_set {K : PySem.W.Frag} {H : Hp} {w : V} {e : PyData} (k : Dp K H w e) : ∀ {ds : List PyData} {vs : List V} (i : Nat), DpAll K H vs ds → DpAll K H (vs.set i w) (ds.set i e)
  | [], _, _, h => by cases h; exact .nil
  | d :: ds, _, 0, h => by
    cases h with
    | cons h1 h2 => exact .cons k h2
  | d :: ds, _, i + 1, h => by
    cases h with
    | cons h1 h2 => exact .cons h1 (dps_set k i h2)
theorem dps_take {K : PySem.W.Frag} {H : Hp} : ∀ {ds : List PyData} {vs : List V} (i : Nat), DpAll K H vs ds → DpAll K H (vs.take i) (ds.take i)
  | _, _, 0, h => .nil
  | [], _, _ + 1, h => by cases h; exact .nil
  | d :: ds, _, i + 1, h => by
    cases h with
    | cons h1 h2 => exact .cons h1 (dps_take i h2)
theorem dps_drop {K : PySem.W.Frag} {H : Hp} : ∀ {ds : List PyData} {vs : List V} (i : Nat), DpAll K H vs ds → DpAll K H (vs.drop i) (ds.drop i)
  | _, _, 0, h => h
  | [], _, _ + 1, h => by cases h; exact .nil
  | d :: ds, _, i + 1, h => by
    cases h with
    | cons h1 h2 => exact dps_drop i h2
theorem dps_ints {K : PySem.W.Frag} {H : Hp} : ∀ {ns : List Int} {vs : List V}, DpAll K H vs (ns.map PyData.int) → vs = ns.map V.int
  | [], _, h => by cases h; rfl
  | n :: ns, _, h => by
    cases h with
    | cons h1 h2 =>
      cases h1
      rw [dps_ints h2]
      rfl
theorem dps_of_ints {K : PySem.W.Frag} {H : Hp} : ∀ (ns : List Int), DpAll K H (ns.map V.int) (ns.map PyData.int)
  | [] => .nil
  | n :: ns => .cons (.int n) (dps_of_ints ns)
theorem dps_bls {K : PySem.W.Frag} {H : Hp} : ∀ {ns : List Bool} {vs : List V}, DpAll K H vs (ns.map PyData.bool) → vs = ns.map V.bl
  | [], _, h => by cases h; rfl
  | n :: ns, _, h => by
    cases h with
    | cons h1 h2 =>
      cases h1
      rw [dps_bls h2]
      rfl

/-! ### repr of data -/
def rRepr (K : PySem.W.Frag) : List V → Hp → VK → Prop := fun vs H Q => ∃ a d, vs = [.ref a] ∧ Dp K H (.ref a) d ∧ d.showable = true ∧ d.depth ≤ 60 ∧ d.shown.length ≤ sizeLine ∧ Q (.str d.shown) H
mutual
theorem dp_noDict {K : PySem.W.Frag} {H : Hp} : ∀ {d : PyData} {v : V}, Dp K H v d → d.hasDict = false
  | .none, _, _ => by simp only [PyData.hasDict]
  | .bool _, _, _ => by simp only [PyData.hasDict]
  | .int _, _, _ => by simp only [PyData.hasDict]
  | .str _, _, _ => by simp only [PyData.hasDict]
  | .list ds, _, h => by
    cases h with
    | lst _ ha => simp only [PyData.hasDict]; exact dps_noDict ha
  | .tuple ds, _, h => by
    cases h with
    | tup _ ha => simp only [PyData.hasDict]; exact dps_noDict ha
  | .dict _, _, h => by cases h
theorem dps_noDict {K : PySem.W.Frag} {H : Hp} : ∀ {ds : List PyData} {vs : List V}, DpAll K H vs ds → PyData.hasDictAll ds = false
  | [], _, _ => by simp only [PyData.hasDictAll]
  | d :: ds, _, h => by
    cases h with
    | cons h1 h2 => simp only [PyData.hasDictAll, dp_noDict h1, dps_noDict h2, Bool.or_false]
end

section
variable {X : Cx}
theorem call_repr (hg : X.A.guards = some []) (hu : X.A.units + 64 < cLine) : CallR X (.builtin "repr") (rRepr X.K) := by
  intro pins s σ H xs us Q I r h
  obtain ⟨a, d, rfl, hd, hs, hdp, hz, q⟩ := h
  obtain ⟨u, rfl, ru⟩ := vals1 r
  obtain ⟨as, rd⟩ := Dp.reads I d (.ref a) u hd ru
  cases ru
  exact repr_of_reads' rd hs (PyData.noDict_hsm (dp_noDict hd)) hg (by omega) (fun _ _ e => e) (fun h' u tk k => ⟨.str d.shown, H, I.kept k, ⟨_, rfl⟩, q⟩) hz
/-! ### enumerate of a tuple -/
theorem meets_enumNew1 {v : Value} {o : Obj} {G : Heap → Prop} (B : Begins v o G) :
    Meets (Builtin.«enumerate.__new__» ⟨[.type "enumerate", v], []⟩) (fun _ R s => G s.heap ∧
      R (.ok (.ret (.ref (s.heap.push o).objs.size)))
        { s with heap := (s.heap.push o).push { cls := .type "enumerate", data := .fields #[.none, .bool false, .ref s.heap.objs.size, rawInt 0, .none, .none] } }) :=
  .of_wp fun prog w A R s h => by
    obtain ⟨hp, g, d, tk, os⟩ := s
    obtain ⟨g1, h⟩ := h
    have sub := sub_enumerate
    have its : ∀ {A' : Around} {E : Value → Shared → Prop} {Q : Value → Shared → Prop}, Q (.ref hp.objs.size) ⟨hp.push o, g, d, tk, os⟩ → wpAny (model prog w) A' (pyIter v) Q E ⟨hp, g, d, tk, os⟩ :=
      fun {A' E Q} q => B.iter prog w A' E ⟨hp, g, d, tk, os⟩ Q g1 q
    wp_walk using its
    refine wpAny_stack_any fun st => wpAny_pure ?_
    split
    · rename_i c _ _ _ _ _
      cases (c == Value.type "enumerate") <;> (wp_walk using its; exact ⟨_, rfl, h⟩)
    · wp_walk using its
      exact ⟨_, rfl, h⟩
theorem enum_tuple1 {prog : Program} {w : World} {A : Around} {E : Value → Shared → Prop} {s : Shared} {t : Addr} {items : Array Value} {Q : Value → Shared → Prop} (ht : s.heap.IsTuple t items)
    (h : ∀ h', IsEnum h' (s.heap.objs.size + 1) s.heap.objs.size 0 .none → h'.IsTupleIter s.heap.objs.size t 0 →
      (∀ b o, s.heap.get? b = some o → h'.get? b = some o) → Q (.ref (s.heap.objs.size + 1)) { s with heap := h' }) :
    wpAny (model prog w) A (call (.type "enumerate") [.ref t]) Q E s := by
  have B := begins_tuple t items
  refine callType_new F.called_enumerate (by decide) (F.typeCall_enumerate_1 _) (F.newCall_enumerate_1 _) (fun obj => F.args_object_init_2 obj _) F.entry_enumerate_new (meets_enumNew1 B) ⟨ht, ?_⟩
  generalize ho : ({ cls := .type "tuple_iterator", data := .fields #[.ref t, .int 0 0] } : Obj) = o at B
  have hz : (s.heap.push o).objs.size = s.heap.objs.size + 1 := Heap.size_push ..
  have g2 : ((s.heap.push o).push { cls := .type "enumerate", data := .fields #[.none, .bool false, .ref s.heap.objs.size, rawInt 0, .none, .none] }).get? (s.heap.objs.size + 1)
      = some { cls := .type "enumerate", data := .fields #[.none, .bool false, .ref s.heap.objs.size, rawInt 0, .none, .none] } := by
    rw [← hz]
    exact Heap.get?_push_size _ rfl
  have g1 : ((s.heap.push o).push { cls := .type "enumerate", data := .fields #[.none, .bool false, .ref s.heap.objs.size, rawInt 0, .none, .none] }).get? s.heap.objs.size = some o :=
    Heap.get?_push_of_some _ (Heap.get?_push_size _ B.free)
  show _ ∧ _
  rw [hz]
  subst ho
  exact ⟨⟨_, g2, rfl⟩, h _ g2 ⟨_, g1, rfl, rfl⟩ fun b ob e => Heap.get?_push_of_some _ (Heap.get?_push_of_some _ e)⟩
theorem enumT_end {prog : Program} {w : World} {A : Around} {E : Value → Shared → Prop} {s : Shared} {e it t : Addr} {i : Nat} {items : Array Value} {old : Value} {Q : Option Value → Shared → Prop} (hh : A.handled = none)
    (he : IsEnum s.heap e it ((i : Nat) : Int) old) (hit : s.heap.IsTupleIter it t i) (ht : s.heap.IsTuple t items) (hx : items[i]? = none)
    (h : ∀ h', Heap.ExtBut it s.heap h' → Q none { s with heap := h' }) : wpAny (model prog w) A (pyNext (.ref e)) Q E s := by
  have hT : s.TypeIs (.ref e) "enumerate" := ⟨_, he, rfl⟩
  unfold pyNext
  refine wpAny_bind (wpAny_attempt (wpAny_callSpecial?_slot (name := Str.ofString "__next__") hT F.slot_enumerate_next (wpAny_call_entry F.slot_enumerate_next hT F.entry_enumerate_next ?_ (F.args_enumerate_next_1 _))))
  show wpAny _ _ (field (.ref e) 2 >>= _) _ _ _
  refine wpAny_bind (wpAny_field he rfl (x := .ref it) rfl ?_)
  refine wpAny_bind (wpAny_nextOf_tuple_end (A := A.in1) hh hit ht hx fun h' x he' hx' => ?_)
  obtain ⟨o, ho, hc⟩ := hx'
  exact wpAny_bind (wpAny_isInstance (T := "StopIteration") (b := true) ⟨o, ho, hc⟩ isSubtype_stop (wpAny_pure (h _ he')))
def Itet (K : PySem.W.Frag) (a : Addr) : It where
  go := fun i H => ∃ (xs : List V) (x : V), SqT K H a xs ∧ xs[i]? = some x
  yld := fun i H v H' => ∃ T x, v = .ref T ∧ H T = none ∧ H' = upd H T (.tup [.int (i : Nat), x]) ∧ ∀ xs, SqT K H a xs → xs[i]? = some x
  stop := fun i H => ∃ xs : List V, SqT K H a xs ∧ xs.length ≤ i
theorem turn_enumT {P : Program} {w : World} {K : PySem.W.Frag} {elts : List Expr} {kk : Nat} {tpos : Pos} (a e it : Addr) :
    Turn P w K (.Tuple elts kk tpos) (Itet K a) [e, it] e (fun i h => (∃ old, IsEnum h e it ((i : Nat) : Int) old) ∧ h.IsTupleIter it a i ∧ e ≠ it) where
  mem := List.mem_cons_self ..
  obj := fun i h st b hb => by
    obtain ⟨⟨old, he⟩, ⟨o, ho, hc, hd⟩, _⟩ := st
    simp only [List.mem_cons, List.not_mem_nil, or_false] at hb
    rcases hb with rfl | rfl
    · exact ⟨_, he, fun v q => nomatch q⟩
    · exact ⟨o, ho, fun v q => by rw [hd] at q; cases q⟩
  keep := fun i h h' st k => by
    obtain ⟨⟨old, he⟩, hit, hne⟩ := st
    exact ⟨⟨old, k e (List.mem_cons_self ..) _ he⟩, hit.at fun o q => k it (List.mem_cons_of_mem _ (List.mem_cons_self ..)) o q, hne⟩
  item := by
    intro X hP hw hK hc i pins s σ H E I hf st hg
    subst hP hw hK
    obtain ⟨⟨old, he⟩, hit, hne⟩ := st
    obtain ⟨xs, x, hq, hx⟩ := hg
    obtain ⟨its, rv, p, hz⟩ := I.tuple hq
    have pT : s.heap.IsTuple a its.toArray := p
    have hai : a ≠ it := fun z => by
      obtain ⟨o, ho, hcl, _⟩ := hit
      obtain ⟨o2, ho2, hcl2, _⟩ := p
      rw [z, ho] at ho2
      cases ho2
      rw [hcl] at hcl2
      exact absurd hcl2 (by decide)
    obtain ⟨u, hu, ru⟩ := rv.get hx
    obtain ⟨hi', _⟩ := List.getElem?_eq_some_iff.mp hu
    have D := Draws.tuple (prog := X.prog) (w := X.w) (A := X.A.in1) (I.ok.hd hc) it a hai its.toArray
    have hea : e ≠ a := fun z => by
      obtain ⟨o2, ho2, hcl2, _⟩ := p
      rw [← z, show s.heap.get? e = some _ from he] at ho2
      cases ho2
      have bad : Value.type "enumerate" = Value.type "tuple" := hcl2
      exact absurd bad (by decide)
    have hfp : e ∉ [it, a] := by
      simp only [List.mem_cons, List.not_mem_nil, or_false, not_or]
      exact ⟨hne, hea⟩
    refine wpAny_pyNext_enum_itemD D he ⟨hit, pT⟩ (by simpa using hi') hne hfp fun y h' tk hy ho hst' hT hsz hk => ?_
    have ey : y = u := by
      have : its[i]? = some y := by simpa using hy
      rw [this] at hu
      exact Option.some.inj hu
    subst ey
    refine ⟨_, rfl, wpAny_letOwnedTupleGo_enum (s := { s with heap := h', toks := tk + 1 }) ho fun h2 he2 sb => ?_⟩
    have el : e < s.heap.objs.size := Heap.lt_size he
    have il : it < s.heap.objs.size := by
      obtain ⟨_, q, _⟩ := hit
      exact Heap.lt_size q
    have hT2 : h2.get? s.heap.objs.size = some { cls := .type "tuple", data := .seq #[.int i tk, y] } := (sb.2 _ (Nat.ne_of_gt el)).trans hT
    have new : ObjOk X.prog X.w (upd H s.heap.objs.size (.tup [.int (i : Nat), x])) h2 s.heap.objs.size (.tup [.int (i : Nat), x]) :=
      ⟨by show 2 ≤ sizeLine; decide, _, .cons ⟨tk, rfl⟩ (.cons ru .nil), ⟨_, hT2, rfl, _, rfl⟩⟩
    have I1 := I.turnedNew (h' := h2) (t' := tk + 1) (ch := [e, it]) (fun b ob hb q => by
      simp only [List.mem_cons, List.not_mem_nil, or_false, not_or] at hb
      exact (sb.2 b hb.1).trans (hk b ob hb.1 hb.2 q)) hf (Nat.le_refl _) new
    refine ⟨.ref s.heap.objs.size, _, I1, rfl, ⟨_, x, rfl, I.hok.fresh (Nat.le_refl _), rfl, fun ys hy2 => ?_⟩, ⟨⟨y, ?_⟩, hst'.1.at fun o q => (sb.2 it (Ne.symm hne)).trans q, hne⟩, fun b hb => ?_⟩
    · rw [I.tuple_inj hy2 hq]
      exact hx
    · rw [show ((i + 1 : Nat) : Int) = (i : Int) + 1 by omega]
      exact he2
    · have h0 := (hf b hb).1
      simp only [List.mem_cons, List.not_mem_nil, or_false] at hb
      have nb : b ≠ s.heap.objs.size := by
        rcases hb with z | z
        · rw [z]; exact Nat.ne_of_lt el
        · rw [z]; exact Nat.ne_of_lt il
      rw [upd_ne nb]
      exact h0
  done := by
    intro X hP hw hK hc i pins s σ H E I hf st hg
    subst hP hw hK
    obtain ⟨⟨old, he⟩, hit, hne⟩ := st
    obtain ⟨xs, hq, hx⟩ := hg
    obtain ⟨its, rv, p, hz⟩ := I.tuple hq
    have pT : s.heap.IsTuple a its.toArray := p
    have hai : a ≠ it := fun z => by
      obtain ⟨o, ho, hcl, _⟩ := hit
      obtain ⟨o2, ho2, hcl2, _⟩ := p
      rw [z, ho] at ho2
      cases ho2
      rw [hcl] at hcl2
      exact absurd hcl2 (by decide)
    obtain ⟨f0, f1, f2, f3, f4, f5⟩ := hf it (List.mem_cons_of_mem _ (List.mem_cons_self ..))
    have hl := rv.length
    exact enumT_end (I.ok.hd hc) he hit pT (by simp; omega) fun h' eb => ⟨rfl, I.turned (t' := s.toks) (fun b o hb q => eb b o hb q) f0 f1 f3 f4 f5⟩
  self := fun A i s Q E st h => let ⟨⟨_, he⟩, _⟩ := st; wpAny_pyIter_enum he h
def iEnumT (K : PySem.W.Frag) (ta : TA) : TI := fun σ H R => ta σ H fun vs H1 => ∃ a xs, vs = [.ref a] ∧ SqT K H1 a xs ∧ R (Itet K a) H1
theorem pi_enumT {e : Expr} {ta : TA} {p pos tpos : Pos} {elts : List Expr} {kk : Nat} (hg : Gl X "enumerate") (hm : X.mg "enumerate" = none) (ha : PA X [e] ta) (hs : starEach [e] X.env = [(false, eval e X.env)] := by rfl) :
    PI X (.Tuple elts kk tpos) (.Call (.Name "enumerate" p) [e] [] pos) (iEnumT X.K ta) := by
  refine ⟨fun pins s σ H R I h => ?_⟩
  have arg := ha.run pos pins s σ H _ I h
  refine Call_ (ld_blt I hg hm boot_enumerate (PyProof.Rows.callWith_type1 (thn arg fun us s1 ⟨vs, H1, I1, r1, q1⟩ => ?_) hs rfl))
  obtain ⟨a, xs, ex, hq, q⟩ := q1
  subst ex
  obtain rfl := Vals.ref1 r1
  obtain ⟨its, rv, p', hz⟩ := I1.tuple hq
  refine enum_tuple1 (items := its.toArray) p' fun h' he hit hk => wpAny_pyIter_enum he ?_
  refine ⟨s1.heap.objs.size + 1, [s1.heap.objs.size + 1, s1.heap.objs.size], _, _, H1, rfl, I1.kept (t' := s1.toks) hk, turn_enumT a _ s1.heap.objs.size, ⟨⟨.none, he⟩, hit, Nat.succ_ne_self _⟩, fun b hb => ?_, q⟩
  simp only [List.mem_cons, List.not_mem_nil, or_false] at hb
  have hle : s1.heap.objs.size ≤ b := by
    rcases hb with z | z
    · rw [z]; exact Nat.le_succ _
    · rw [z]; exact Nat.le_refl _
  exact I1.fpOk hle (I1.hok.fresh hle)
theorem walk_enumT {K : PySem.W.Frag} {a : Addr} {xs : List V} : Walk (Itet K a) xs.length (fun H => SqT K H a xs) (YPair (fun i => some (.int (i : Nat))) (fun i => xs[i]?)) := by
  refine ⟨fun i H hi q => ⟨xs, xs[i], q, List.getElem?_eq_getElem hi⟩, fun H q => ⟨xs, q, Nat.le_refl _⟩, fun i H v H' hi q y => ?_⟩
  obtain ⟨T, x, h1, h2, h3, h4⟩ := y
  exact ⟨T, .int (i : Nat), x, h1, h2, h3, rfl, h4 xs q⟩
end
end EE

namespace EE
open PySem PySem.Spec PyProof.Rows L2
/-! ### a def that shows things: it is called where nothing is being shown -/
structure FnG (P : Program) (w : World) (K : PySem.W.Frag) (mg : Str → Option Value) (base : Heap) (k : Nat) (f : Addr) (fd : FuncData) (ps : List Str) (sp : Sp) : Prop where
  len : ∀ vs H Q E, sp vs H Q E → vs.length = ps.length
  run : ∀ (A : Around) (outer : List Env) (s : Shared) (H : Hp) (args : Args) (us : List Value) (vs : List V) (Q : VK) (E : XK), A.guards = some [] → Room k A →
    Env0 P w K mg base A outer s H → BindsTo s fd args (ps.zip us) → Vals vs us → sp vs H Q E → codeAny (model P w) A (.call (.ref f) args) (CR CX0 outer P w H s Q E) s
section
variable {P : Program} {w : World} {K : PySem.W.Frag} {mg : Str → Option Value} {base : Heap}
theorem okG {x qual : Str} {st : Stmt} {f : Addr} {fd : FuncData} {N ps : List Str} {k : Nat} {sp : Sp} (F : Fun K x qual st f fd) (S : FnScope N ps (defScope st)) (len : ∀ vs H Q E, sp vs H Q E → vs.length = ps.length)
    (hb : ∀ (cdv : Value) (A : Around) (outer : List Env) (s : Shared) (H : Hp) (vs : List V) (Q : VK) (E : XK), (A.deeper (envOfC qual (defScope st) s.heap.objs.size f cdv)).guards = some [] →
      Room k (A.deeper (envOfC qual (defScope st) s.heap.objs.size f cdv)) → sp vs H Q E →
      ∃ t, PSs (cxOf CX0 P w K mg base N qual (defScope st) f cdv A outer s H E).nox (defBody st) t ∧ t { nx := fun _ H' => Q .non H', rt := Q } (start N vs) H) : FnG P w K mg base (k + 1) f fd ps sp := by
  obtain ⟨oc, od, kV, doc, pm, an, cdv, ct, osl, rfl, lk, hcd⟩ := F.ex
  constructor
  · exact len
  intro A outer s H args us vs Q E hg hr e0 hbd r hsp
  have KX := e0.mod.kin.keeps (h' := s.heap) fun b o e => (e0.bs b o e).1
  have lim := e0.mod.nolimit.keeps (h' := s.heap) fun b o e => (e0.bs b o e).1
  obtain ⟨t, ht, hq⟩ := hb cdv A outer s H vs Q E hg (hr.deeper _) hsp
  refine codeAny_call_function hr.depth (KX _ _ lk) rfl S.co S.gen rfl (PySem.W.codeRec_of KX hcd) (hbd _ _ _ _ (wpAny_newFunctionEnv_cells S.kind (fun y hy => ?_) fun env he s1 xx => ?_))
  · obtain ⟨n, v⟩ := y
    have hm := (List.of_mem_zip hy).1
    rcases S.par n hm with q | q
    · exact Or.inl q
    · exact Or.inr ⟨q, PySem.W.cellsFrom_some _ _ _ (Or.inl q)⟩
  · subst he
    refine ⟨lim.keeps xx.toInCall.keep, codeAny_func ?_⟩
    have I := inv_start (CX := CX0) (E := E) (cd := cdv) (f := f) (qual := qual) S hr.hd e0 (len _ _ _ _ hsp) r xx
    refine wpAny_mono (ht.nox.run [] s1 (start N vs) H _ I hq) (fun fl s' hs => ?_) fun e s' hs => hs
    cases fl with
    | next =>
      obtain ⟨σ', H', J, q⟩ := hs
      exact ⟨V.non, H', J.os, J.bare, J.base, J.hok, rfl, q⟩
    | brk => obtain ⟨_, _, _, q⟩ := hs; exact q.elim
    | cont => obtain ⟨_, _, _, q⟩ := hs; exact q.elim
    | ret u =>
      obtain ⟨v, σ', H', J, rv, q⟩ := hs
      exact ⟨v, H', J.os, J.bare, J.base, J.hok, rv, q⟩
/-- the end: the law's def, called at the top -/
theorem call_lawG {mb : Str → Option Value} {k : Nat} {fa a : Addr} {fd : FuncData} {x : Str} {sp : Sp} {s₁ : Shared} {vs : List Value} {ns : List Int}
    (KX : K.In s₁.heap) (hns : s₁.heap.Ns mainGlobals mg) (hb : s₁.heap.Ns builtinsNs mb) (hbb : ∀ x : Str, x ≠ "__name__" → mb x = bootBuiltins x) (hlim : s₁.heap.NoLimit) (hg : s₁.gens = #[])
    (ha : s₁.heap.get? a = some { cls := .type "list", data := .seq vs.toArray }) (hi : IntsAre vs ns) (hl : ns.length ≤ sizeLine) (hr : Room k callerA)
    (F : ∀ base : Heap, K.In base → base.Ns mainGlobals mg → FnG P w K mg base k fa fd [x] sp) (hbind : ∀ (s : Shared) (u : Value), BindsTo s fd ⟨[u], []⟩ [(x, u)])
    (hsp : ∀ H : Hp, Only H → SqL K H a (ns.map V.int) → sp [.ref a] H (fun v _ => v = .bl true) fun _ _ _ => False) :
    codeAny (model P w) callerA (.call (.ref fa) ⟨[.ref a], []⟩) (fun r s' => r = .ok (.ret (.bool true)) ∧ OldK s₁.heap s'.heap ∧ s'.os = s₁.os ∧ AllBare s'.gens) s₁ := by
  have rv : Vals (ns.map V.int) vs := vals_of_ints hi
  have lenV := hi.length
  obtain ⟨H, hO, hS, hok, hA, hK⟩ : ∃ H : Hp, Only H ∧ SqL K H a (ns.map V.int) ∧ HOk P w H s₁.heap ∧ (∀ b, H b ≠ none → b = a) ∧ (H a ≠ none → K.lookup a = none) := by
    cases hk : K.lookup a with
    | some o =>
      have e := (KX a o hk).symm.trans ha
      cases e
      refine ⟨fun _ => none, fun _ => Or.inl rfl, Or.inr ⟨_, vs.toArray, _, hk, rfl, rfl, rfl, ?_, ?_⟩, fun b u z => (nomatch z), fun b z => absurd rfl z, fun z => absurd rfl z⟩
      · rw [List.size_toArray, lenV]
        exact hl
      · simpa using rv
    | none =>
      have at_a : (fun b => if b = a then some (HO.frz { cls := .type "list", data := .seq vs.toArray } (.lst (ns.map V.int))) else none : Hp) a = some (HO.frz { cls := .type "list", data := .seq vs.toArray } (.lst (ns.map V.int))) := if_pos rfl
      refine ⟨fun b => if b = a then some (.frz { cls := .type "list", data := .seq vs.toArray } (.lst (ns.map V.int))) else none, fun b => ?_, Or.inl (Or.inr ⟨_, at_a⟩), fun b u z => ?_, fun b z => ?_, fun _ => rfl⟩
      · by_cases e : b = a
        · exact Or.inr ⟨_, _, if_pos e⟩
        · exact Or.inl (if_neg e)
      · by_cases e : b = a
        · subst e
          rw [at_a] at z
          cases z
          refine ⟨ha, ?_, vs, 0, rv, ha⟩
          rw [List.length_map]
          exact hl
        · exact nomatch (if_neg e).symm.trans z
      · exact Decidable.byContradiction fun e => z (if_neg e)
  have hid : ∀ {b : Addr} {o : Obj}, s₁.heap.get? b = some o → H b = none → (hidT s₁.heap H).get? b = some o := fun e n => hidT_get e n
  have noA : ∀ {b : Addr} {o : Obj} {es : Array DictEntry} {ep : Nat}, s₁.heap.get? b = some o → o.data = .dict es ep → H b = none := fun {b o es ep} e d =>
    Decidable.byContradiction fun q => by
      have e' := hA b q
      subst e'
      have eo := ha.symm.trans e
      cases eo
      have d' : Data.seq vs.toArray _ = Data.dict es ep := d
      cases d'
  have nsK : ∀ {b : Addr} {m : Str → Option Value}, s₁.heap.Ns b m → (hidT s₁.heap H).Ns b m := fun n => by
    obtain ⟨o, es, ep, e, d, r⟩ := n
    exact ⟨o, es, ep, hid e (noA e d), d, r⟩
  have hKb : K.In (hidT s₁.heap H) := fun b o e => hid (KX b o e) (Decidable.byContradiction fun q => by
    have e' := hA b q
    subst e'
    rw [hK q] at e
    cases e)
  have e0 : Env0 P w K mg (hidT s₁.heap H) callerA [] s₁ H := by
    refine ⟨rfl, ⟨hKb, nsK hns, ⟨mb, nsK hb, hbb⟩, ?_⟩, fun b o e => of_hidT e, Nat.le_of_eq (hidT_size _ _), trivial, fun b hb => ?_, hok, .of_eq hg⟩
    · obtain ⟨mc, h1, h2⟩ := hlim
      exact ⟨mc, nsK h1, h2⟩
    · exact absurd (show b ∈ ([] : List Addr) from hb) (List.not_mem_nil)
  have run := (F _ hKb (nsK hns)).run callerA [] s₁ H ⟨[.ref a], []⟩ [.ref a] [.ref a] _ _ rfl hr e0 (hbind s₁ (.ref a)) (.cons rfl .nil) (hsp H hO hS)
  refine codeAny_mono run fun r s' h => ?_
  cases r with
  | error e => exact (show False from h).elim
  | ok fl =>
    cases fl with
    | next => exact (show False from h).elim
    | brk => exact (show False from h).elim
    | cont => exact (show False from h).elim
    | ret u =>
      obtain ⟨v, H', os, bare, un, hok', r', q⟩ := h
      obtain rfl : v = .bl true := q
      obtain rfl : u = Value.bool true := r'
      refine ⟨rfl, OldK.of_keep fun b o e => ?_, os, bare⟩
      rcases hO b with z | ⟨ob, xs, z⟩
      · exact un.keep b o e z (by intro y; exact absurd (show b ∈ ([] : List Addr) from y) List.not_mem_nil) List.not_mem_nil
      · have e1 := (hok b _ z).1
        have e2 := (hok' b _ (un.frzs b ob _ z)).1
        rw [e1] at e
        cases e
        exact e2
end
theorem walk_ofG {l : PySem.W.OpenLaw} {n k : Nat} {q : Program} {loose : List Str} {XP : (Str → Option Value) → Heap → Prop} {YP : World → Heap → Prop} {d : DefRec} {K : Params → PySem.W.Frag} {sp : PySem.W.Frag → Sp} {x : Str}
    (hn : l.most = some n) (hn2 : n ≤ sizeLine) (hdf : d.params.defaults = []) (hr : Room k callerA)
    (hY : ∀ (w : World) (h : Heap), YP w h → (K w.params).In h)
    (F : ∀ (w : World) (mg : Str → Option Value) (fa : Addr) (h : Heap), (K w.params).In h → h.Ns mainGlobals mg → mg d.name = some (.ref fa) →
      ∃ fd : FuncData, (∀ (s : Shared) (u : Value), BindsTo s fd ⟨[u], []⟩ [(x, u)]) ∧
        ∀ base : Heap, (K w.params).In base → base.Ns mainGlobals mg → FnG l.prog w (K w.params) mg base k fa fd [x] (sp (K w.params)))
    (hsp : ∀ (K : PySem.W.Frag) (H : Hp) (a : Addr) (ns : List Int), ns.length ≤ n → Only H → SqL K H a (ns.map V.int) → sp K [.ref a] H (fun v _ => v = .bl true) fun _ _ _ => False) :
    PySem.W.WalkO q loose XP YP l.row.toRowW d [] (fun f vs => PySem.call f vs) :=
  Att.attach_call hn hdf fun w s₀ s₁ mg mb fa o pm cd doc a vs ns G Y ho hd hcd hmg hobj hints hlen hg => by
    have KX := hY w _ Y
    obtain ⟨fd, hb, hF⟩ := F w mg fa _ KX G.T.g hmg
    exact call_lawG KX G.T.g G.T.b G.T.builtins G.T.nolimit hg hobj hints (Nat.le_trans hlen hn2) hr hF hb (fun H hO hS => hsp _ H a ns hlen hO hS)
end EE

namespace EE
open PySem PySem.Spec PyProof.Rows L2
abbrev D := PyData
/-! ### what is known of the heap: lists that may change (Γ), things that stay (Δ), the deck -/
def DeckAt (H : Hp) (d l : Addr) : Prop := ∃ (s : Int) (xs : List Int), H d = some (.dK [(.inr "deep", .ref l), (.inr "state", .int s)]) ∧ H l = some (.lst (xs.map V.int)) ∧
  (∀ x ∈ xs, 0 ≤ x) ∧ xs.length ≤ 64 ∧ 0 ≤ s ∧ s < 2305843009213693951
abbrev Dk := Option (Addr × Addr)
structure StI (K : PySem.W.Frag) (H0 H : Hp) (dk : Dk) (Γ : List (Addr × List D)) (Δ : List (V × D)) : Prop where
  le : Same H0 H
  data : ∀ p ∈ Δ, Dp K H0 p.1 p.2
  lists : ∀ g ∈ Γ, H0 g.1 = none ∧ ∃ vs, H g.1 = some (.lst vs) ∧ DpAll K H0 vs g.2
  nd : (Γ.map (·.1)).Nodup
  deck : ∀ d l, dk = some (d, l) → H0 d = none ∧ H0 l = none ∧ (∀ g ∈ Γ, g.1 ≠ d ∧ g.1 ≠ l) ∧ DeckAt H d l
def St (K : PySem.W.Frag) (H : Hp) (dk : Dk) (Γ : List (Addr × List D)) (Δ : List (V × D)) : Prop := ∃ H0, StI K H0 H dk Γ Δ
/-- a value that is known as a datum -/
inductive Dv (Δ : List (V × D)) : V → D → Prop
  | of {v d} : (v, d) ∈ Δ → Dv Δ v d
  | non : Dv Δ .non .none
  | bl (b : Bool) : Dv Δ (.bl b) (.bool b)
  | int (i : Int) : Dv Δ (.int i) (.int i)
  | str (x : Str) : Dv Δ (.str x) (.str x)
inductive DvAll (Δ : List (V × D)) : List V → List D → Prop
  | nil : DvAll Δ [] []
  | cons {v vs d ds} : Dv Δ v d → DvAll Δ vs ds → DvAll Δ (v :: vs) (d :: ds)
theorem dps_zip {K : PySem.W.Frag} {H : Hp} : ∀ {ds : List D} {vs : List V}, DpAll K H vs ds → ∀ q ∈ vs.zip ds, Dp K H q.1 q.2
  | [], _, h, q, hq => by cases h; cases hq
  | d :: ds, _, h, q, hq => by
    cases h with
    | cons h1 h2 =>
      rcases List.mem_cons.mp (show q ∈ (_, d) :: List.zip _ ds from hq) with rfl | hq
      · exact h1
      · exact dps_zip h2 q hq
theorem dvs_zip_ : ∀ {ds : List D} {vs : List V} {Δ : List (V × D)}, vs.length = ds.length → (∀ q ∈ vs.zip ds, q ∈ Δ) → DvAll Δ vs ds
  | [], [], _, _, _ => .nil
  | [], _ :: _, _, h, _ => by cases h
  | _ :: _, [], _, h, _ => by cases h
  | d :: ds, v :: vs, Δ, h, k => .cons (.of (k _ (List.mem_cons_self ..))) (dvs_zip_ (by simpa using h) fun q hq => k q (List.mem_cons_of_mem _ hq))
theorem dvs_zip {ds : List D} {vs : List V} {Δ : List (V × D)} (h : vs.length = ds.length) : DvAll (vs.zip ds ++ Δ) vs ds := dvs_zip_ h fun q hq => List.mem_append_left _ hq
section
variable {K : PySem.W.Frag} {H0 H H' : Hp} {dk : Dk} {Γ Γ' : List (Addr × List D)} {Δ Δ' : List (V × D)} {v : V} {d : D} {vs : List V} {ds : List D} {p a l : Addr}
theorem Dv.sub (s : ∀ x ∈ Δ, x ∈ Δ') (h : Dv Δ v d) : Dv Δ' v d := by
  cases h with
  | of m => exact .of (s _ m)
  | non => exact .non
  | bl b => exact .bl b
  | int i => exact .int i
  | str x => exact .str x
theorem DvAll.sub (s : ∀ x ∈ Δ, x ∈ Δ') : ∀ {vs : List V} {ds : List D}, DvAll Δ vs ds → DvAll Δ' vs ds
  | _, _, .nil => .nil
  | _, _, .cons h t => .cons (h.sub s) (DvAll.sub s t)
theorem Dv.dp (hd : ∀ p ∈ Δ, Dp K H0 p.1 p.2) (h : Dv Δ v d) : Dp K H0 v d := by
  cases h with
  | of m => exact hd _ m
  | non => exact .non
  | bl b => exact .bl b
  | int i => exact .int i
  | str x => exact .str x
theorem DvAll.dp (hd : ∀ p ∈ Δ, Dp K H0 p.1 p.2) : ∀ {vs : List V} {ds : List D}, DvAll Δ vs ds → DpAll K H0 vs ds
  | _, _, .nil => .nil
  | _, _, .cons h t => .cons (h.dp hd) (DvAll.dp hd t)
theorem DvAll.len : ∀ {vs : List V} {ds : List D}, DvAll Δ vs ds → vs.length = ds.length
  | _, _, .nil => rfl
  | _, _, .cons _ t => by rw [List.length_cons, List.length_cons, t.len]
theorem St.dp (h : St K H dk Γ Δ) (k : Dv Δ v d) : Dp K H v d := by
  obtain ⟨H0, I⟩ := h
  exact dp_up I.le (k.dp I.data)
theorem St.weaken (h : St K H dk Γ Δ) (s : ∀ x ∈ Δ', x ∈ Δ) : St K H dk Γ Δ' := by
  obtain ⟨H0, I⟩ := h
  exact ⟨H0, I.le, fun p hp => I.data p (s p hp), I.lists, I.nd, I.deck⟩
theorem St.ints (h : St K H dk Γ Δ) (k : ∀ x ∈ Δ', Dv Δ x.1 x.2) : St K H dk Γ (Δ' ++ Δ) := by
  obtain ⟨H0, I⟩ := h
  refine ⟨H0, I.le, fun p hp => ?_, I.lists, I.nd, I.deck⟩
  rcases List.mem_append.mp hp with hp | hp
  · exact (k p hp).dp I.data
  · exact I.data p hp
theorem St.also (h : St K H dk Γ Δ) (k : Dv Δ v d) : St K H dk Γ ((v, d) :: Δ) := h.ints (Δ' := [(v, d)]) fun x hx => by
  rw [List.mem_singleton.mp hx]
  exact k
/-- a new thing that stays -/
theorem St.new_ (h : St K H dk Γ Δ) (hp : H p = none) {o : HO} (hd : ∀ H0 : Hp, H0 p = some o → (∀ q ∈ Δ, Dp K H0 q.1 q.2) → Dp K H0 (.ref p) d) : St K (upd H p o) dk Γ ((.ref p, d) :: Δ) := by
  obtain ⟨H0, I⟩ := h
  have h0 : H0 p = none := I.le.free hp
  have s1 : Same H0 (upd H0 p o) := fun b u e => by rw [upd_ne (ne_of_none e h0)]; exact e
  have s2 : Same (upd H0 p o) (upd H p o) := fun b u e => by
    by_cases hb : b = p
    · subst hb; rw [upd_same] at e ⊢; exact e
    · rw [upd_ne hb] at e ⊢; exact I.le b u e
  have old : ∀ q ∈ Δ, Dp K (upd H0 p o) q.1 q.2 := fun q hq => dp_up s1 (I.data q hq)
  refine ⟨upd H0 p o, s2, fun q hq => ?_, fun g hg => ?_, I.nd, fun d l e => ?_⟩
  · rcases List.mem_cons.mp hq with rfl | hq
    · exact hd _ upd_same old
    · exact old q hq
  · obtain ⟨g0, vs, g1, g2⟩ := I.lists g hg
    have ne : g.1 ≠ p := ne_of_none g1 hp
    rw [upd_ne ne, upd_ne ne]
    exact ⟨g0, vs, g1, dps_up s1 g2⟩
  · obtain ⟨a1, a2, a3, s, xs, b1, b2, b3⟩ := I.deck d l e
    have n1 := ne_of_none b1 hp
    have n2 := ne_of_none b2 hp
    rw [upd_ne n1, upd_ne n2]
    refine ⟨a1, a2, a3, s, xs, ?_, ?_, b3⟩
    · rw [upd_ne n1]; exact b1
    · rw [upd_ne n2]; exact b2
theorem St.tup (h : St K H dk Γ Δ) (hp : H p = none) (k : DvAll Δ vs ds) : St K (upd H p (.tup vs)) dk Γ ((.ref p, .tuple ds) :: Δ) := h.new_ hp fun H0 e q => .tup (SqT.of e) (k.dp q)
theorem St.lst (h : St K H dk Γ Δ) (hp : H p = none) (k : DvAll Δ vs ds) : St K (upd H p (.lst vs)) dk Γ ((.ref p, .list ds) :: Δ) := h.new_ hp fun H0 e q => .lst (SqL.of e) (k.dp q)
/-- a new list that may change -/
theorem St.make_ (h : St K H dk Γ Δ) (hp : H p = none) (k : ∀ H0, StI K H0 H dk Γ Δ → DpAll K H0 vs ds) : St K (upd H p (.lst vs)) dk ((p, ds) :: Γ) Δ := by
  obtain ⟨H0, I⟩ := h
  have h0 : H0 p = none := I.le.free hp
  refine ⟨H0, fun b u e => ?_, I.data, fun g hg => ?_, ?_, fun d l e => ?_⟩
  · rw [upd_ne (ne_of_none (I.le b u e) hp)]
    exact I.le b u e
  · rcases List.mem_cons.mp hg with rfl | hg
    · exact ⟨h0, vs, upd_same, k H0 I⟩
    · obtain ⟨g0, vs', g1, g2⟩ := I.lists g hg
      exact ⟨g0, vs', by rw [upd_ne (ne_of_none g1 hp)]; exact g1, g2⟩
  · rw [List.map_cons, List.nodup_cons]
    refine ⟨fun hm => ?_, I.nd⟩
    obtain ⟨g, hg, e⟩ := List.mem_map.mp hm
    obtain ⟨_, _, g1, _⟩ := I.lists g hg
    exact ne_of_none g1 hp e
  · obtain ⟨a1, a2, a3, s, xs, b1, b2, b3⟩ := I.deck d l e
    have n1 := ne_of_none b1 hp
    have n2 := ne_of_none b2 hp
    refine ⟨a1, a2, fun g hg => ?_, s, xs, ?_, ?_, b3⟩
    · rcases List.mem_cons.mp hg with rfl | hg
      · exact ⟨n1.symm, n2.symm⟩
      · exact a3 g hg
    · rw [upd_ne n1]; exact b1
    · rw [upd_ne n2]; exact b2
theorem St.make (h : St K H dk Γ Δ) (hp : H p = none) (k : DvAll Δ vs ds) : St K (upd H p (.lst vs)) dk ((p, ds) :: Γ) Δ := h.make_ hp fun H0 I => k.dp I.data
/-- what changes no more -/
theorem St.freeze (h : St K H dk ((p, ds) :: Γ) Δ) : St K H dk Γ ((.ref p, .list ds) :: Δ) := by
  obtain ⟨H0, I⟩ := h
  obtain ⟨g0, vs, g1, g2⟩ := I.lists (p, ds) (List.mem_cons_self ..)
  have nd := I.nd
  rw [List.map_cons, List.nodup_cons] at nd
  have s1 : Same H0 (upd H0 p (.lst vs)) := fun b u e => by rw [upd_ne (ne_of_none e g0)]; exact e
  have old : ∀ q ∈ Δ, Dp K (upd H0 p (.lst vs)) q.1 q.2 := fun q hq => dp_up s1 (I.data q hq)
  refine ⟨upd H0 p (.lst vs), fun b u e => ?_, fun q hq => ?_, fun g hg => ?_, nd.2, fun d l e => ?_⟩
  · by_cases hb : b = p
    · subst hb; rw [upd_same] at e; rw [← e]; exact g1
    · rw [upd_ne hb] at e; exact I.le b u e
  · rcases List.mem_cons.mp hq with rfl | hq
    · exact .lst (SqL.of upd_same) (dps_up s1 g2)
    · exact old q hq
  · obtain ⟨k0, vs', k1, k2⟩ := I.lists g (List.mem_cons_of_mem _ hg)
    have ne : g.1 ≠ p := fun e => nd.1 (List.mem_map.mpr ⟨g, hg, e⟩)
    rw [upd_ne ne]
    exact ⟨k0, vs', k1, dps_up s1 k2⟩
  · obtain ⟨a1, a2, a3, r⟩ := I.deck d l e
    have ap := a3 (p, ds) (List.mem_cons_self ..)
    rw [upd_ne ap.1.symm, upd_ne ap.2.symm]
    exact ⟨a1, a2, fun g hg => a3 g (List.mem_cons_of_mem _ hg), r⟩
/-- the first list as it stands -/
theorem St.look (h : St K H dk ((p, ds) :: Γ) Δ) : ∃ vs, H p = some (.lst vs) ∧ vs.length = ds.length ∧ (∀ (i : Nat) (x : D), ds[i]? = some x → ∃ v, vs[i]? = some v ∧ St K H dk ((p, ds) :: Γ) ((v, x) :: Δ)) ∧ (∀ H0, StI K H0 H dk ((p, ds) :: Γ) Δ → DpAll K H0 vs ds) := by
  obtain ⟨H0, I⟩ := h
  obtain ⟨g0, vs, g1, g2⟩ := I.lists (p, ds) (List.mem_cons_self ..)
  refine ⟨vs, g1, dps_len g2, fun i x e => ?_, fun H1 J => ?_⟩
  · obtain ⟨v, e1, e2⟩ := dps_at g2 e
    exact ⟨v, e1, H0, I.le, fun q hq => by rcases List.mem_cons.mp hq with rfl | hq; exact e2; exact I.data q hq, I.lists, I.nd, I.deck⟩
  · obtain ⟨_, vs', k1, k2⟩ := J.lists (p, ds) (List.mem_cons_self ..)
    rw [g1] at k1
    cases k1
    exact k2
/-- the first list changes -/
theorem St.put (h : St K H dk ((p, ds) :: Γ) Δ) {es : List D} {us : List V} (k : ∀ H0, StI K H0 H dk ((p, ds) :: Γ) Δ → DpAll K H0 us es) : St K (upd H p (.lst us)) dk ((p, es) :: Γ) Δ := by
  obtain ⟨H0, I⟩ := h
  obtain ⟨g0, vs, g1, g2⟩ := I.lists (p, ds) (List.mem_cons_self ..)
  have nd := I.nd
  rw [List.map_cons, List.nodup_cons] at nd
  refine ⟨H0, fun b u e => ?_, I.data, fun g hg => ?_, I.nd, fun d l e => ?_⟩
  · rw [upd_ne (ne_of_none e g0)]
    exact I.le b u e
  · rcases List.mem_cons.mp hg with rfl | hg
    · exact ⟨g0, us, upd_same, k H0 I⟩
    · obtain ⟨k0, vs', k1, k2⟩ := I.lists g (List.mem_cons_of_mem _ hg)
      exact ⟨k0, vs', by rw [upd_ne fun e => nd.1 (List.mem_map.mpr ⟨g, hg, e⟩)]; exact k1, k2⟩
  · obtain ⟨a1, a2, a3, s, xs, b1, b2, b3⟩ := I.deck d l e
    have ap := a3 (p, ds) (List.mem_cons_self ..)
    refine ⟨a1, a2, fun g hg => ?_, s, xs, ?_, ?_, b3⟩
    · rcases List.mem_cons.mp hg with rfl | hg
      · exact ap
      · exact a3 g (List.mem_cons_of_mem _ hg)
    · rw [upd_ne ap.1.symm]; exact b1
    · rw [upd_ne ap.2.symm]; exact b2
theorem St.swap {q : Addr} {es : List D} (h : St K H dk ((p, ds) :: (q, es) :: Γ) Δ) : St K H dk ((q, es) :: (p, ds) :: Γ) Δ := by
  obtain ⟨H0, I⟩ := h
  have mm : ∀ g, g ∈ (q, es) :: (p, ds) :: Γ → g ∈ (p, ds) :: (q, es) :: Γ := fun g hg => by
    simp only [List.mem_cons] at hg ⊢
    rcases hg with h | h | h
    · exact Or.inr (Or.inl h)
    · exact Or.inl h
    · exact Or.inr (Or.inr h)
  have nd := I.nd
  simp only [List.map_cons, List.nodup_cons, List.mem_cons, not_or] at nd
  refine ⟨H0, I.le, I.data, fun g hg => I.lists g (mm g hg), ?_, fun d l e => ?_⟩
  · simp only [List.map_cons, List.nodup_cons, List.mem_cons, not_or]
    exact ⟨⟨fun e => nd.1.1 e.symm, nd.2.1⟩, nd.1.2, nd.2.2⟩
  · obtain ⟨a1, a2, a3, r⟩ := I.deck d l e
    exact ⟨a1, a2, fun g hg => a3 g (mm g hg), r⟩
theorem St.drop (h : St K H dk ((p, ds) :: Γ) Δ) : St K H dk Γ Δ := h.freeze.weaken fun _ => List.mem_cons_of_mem _
/-- the deck -/
theorem St.deck {d l : Addr} (h : St K H (some (d, l)) Γ Δ) : DeckAt H d l := by
  obtain ⟨H0, I⟩ := h
  exact (I.deck d l rfl).2.2.2
theorem St.deal {d l : Addr} (h : St K H (some (d, l)) Γ Δ) (k : ∀ b, b ≠ d → b ≠ l → H' b = H b) (q : DeckAt H' d l) : St K H' (some (d, l)) Γ Δ := by
  obtain ⟨H0, I⟩ := h
  obtain ⟨a1, a2, a3, _⟩ := I.deck d l rfl
  refine ⟨H0, fun b u e => ?_, I.data, fun g hg => ?_, I.nd, fun d' l' e => ?_⟩
  · rw [k b (ne_of_none e a1) (ne_of_none e a2)]
    exact I.le b u e
  · obtain ⟨g0, vs, g1, g2⟩ := I.lists g hg
    rw [k _ (a3 g hg).1 (a3 g hg).2]
    exact ⟨g0, vs, g1, g2⟩
  · cases e
    exact ⟨a1, a2, a3, q⟩
theorem St.redeck {d l m : Addr} (h : St K H (some (d, l)) Γ Δ) (hm : H m = none) (k : ∀ b, b ≠ d → b ≠ m → H' b = H b) (q : DeckAt H' d m) : St K H' (some (d, m)) Γ Δ := by
  obtain ⟨H0, I⟩ := h
  obtain ⟨a1, a2, a3, _⟩ := I.deck d l rfl
  refine ⟨H0, fun b u e => ?_, I.data, fun g hg => ?_, I.nd, fun d' l' e => ?_⟩
  · have e' := I.le b u e
    rw [k b (ne_of_none e a1) (ne_of_none e' hm)]
    exact e'
  · obtain ⟨g0, vs, g1, g2⟩ := I.lists g hg
    rw [k _ (a3 g hg).1 (ne_of_none g1 hm)]
    exact ⟨g0, vs, g1, g2⟩
  · cases e
    exact ⟨a1, I.le.free hm, fun g hg => ⟨(a3 g hg).1, by obtain ⟨_, vs, g1, _⟩ := I.lists g hg; exact ne_of_none g1 hm⟩, q⟩
/-- a tuple, a list that stays: its items -/
theorem St.tupAt {a : Addr} (h : St K H dk Γ Δ) (k : (V.ref a, PyData.tuple ds) ∈ Δ) : ∃ vs, SqT K H a vs ∧ vs.length = ds.length ∧ ∃ Δ', Δ' = vs.zip ds ++ Δ ∧ St K H dk Γ Δ' ∧ DvAll Δ' vs ds := by
  obtain ⟨H0, I⟩ := h
  cases I.data _ k with
  | tup hs ha =>
    rename_i vs
    have hl := dps_len ha
    refine ⟨vs, Same.sqT I.le hs, hl, _, rfl, ⟨H0, I.le, fun q hq => ?_, I.lists, I.nd, I.deck⟩, ?_⟩
    · rcases List.mem_append.mp hq with hq | hq
      · exact dps_zip ha q hq
      · exact I.data q hq
    · exact dvs_zip hl
theorem St.lstAt {a : Addr} (h : St K H dk Γ Δ) (k : (V.ref a, PyData.list ds) ∈ Δ) : ∃ vs, SqL K H a vs ∧ vs.length = ds.length ∧ ∃ Δ', Δ' = vs.zip ds ++ Δ ∧ St K H dk Γ Δ' ∧ DvAll Δ' vs ds := by
  obtain ⟨H0, I⟩ := h
  cases I.data _ k with
  | lst hs ha =>
    rename_i vs
    have hl := dps_len ha
    refine ⟨vs, I.le.seq hs, hl, _, rfl, ⟨H0, I.le, fun q hq => ?_, I.lists, I.nd, I.deck⟩, ?_⟩
    · rcases List.mem_append.mp hq with hq | hq
      · exact dps_zip ha q hq
      · exact I.data q hq
    · exact dvs_zip hl
theorem dvs_at : ∀ {vs : List V} {ds : List D} {i : Nat} {x : D}, DvAll Δ vs ds → ds[i]? = some x → ∃ v, vs[i]? = some v ∧ Dv Δ v x
  | _, _, _, _, .nil, e => by simp at e
  | _, _, 0, _, .cons h _, e => by
    cases Option.some.inj (show some _ = some _ from e)
    exact ⟨_, rfl, h⟩
  | _, _, i + 1, _, .cons _ t, e => by
    obtain ⟨v, h1, h2⟩ := dvs_at (i := i) t (by simpa using e)
    exact ⟨v, by simpa using h1, h2⟩
theorem St.popAt (h : St K H dk ((p, ds) :: Γ) Δ) {k : Nat} {x : D} (hk : ds[k]? = some x) : ∃ vs y, H p = some (.lst vs) ∧ vs.length = ds.length ∧ vs[k]? = some y ∧ St K (upd H p (.lst (vs.eraseIdx k))) dk ((p, ds.eraseIdx k) :: Γ) ((y, x) :: Δ) := by
  obtain ⟨vs, h1, h2, h3, h4⟩ := h.look
  obtain ⟨y, h5, h6⟩ := h3 k x hk
  refine ⟨vs, y, h1, h2, h5, h6.put fun H0 I => ?_⟩
  obtain ⟨_, vs', k1, k2⟩ := I.lists (p, ds) (List.mem_cons_self ..)
  rw [h1] at k1
  cases k1
  exact dps_erase k k2
theorem St.push (h : St K H dk ((p, ds) :: Γ) Δ) {y : V} {x : D} (hy : Dv Δ y x) : ∃ vs, H p = some (.lst vs) ∧ vs.length = ds.length ∧ St K (upd H p (.lst (vs ++ [y]))) dk ((p, ds ++ [x]) :: Γ) Δ := by
  obtain ⟨vs, h1, h2, h3, h4⟩ := h.look
  exact ⟨vs, h1, h2, h.put fun H0 I => dps_app (h4 H0 I) (.cons (hy.dp I.data) .nil)⟩
theorem St.setAt (h : St K H dk ((p, ds) :: Γ) Δ) {y : V} {x : D} (hy : Dv Δ y x) (k : Nat) : ∃ vs, H p = some (.lst vs) ∧ vs.length = ds.length ∧ St K (upd H p (.lst (vs.set k y))) dk ((p, ds.set k x) :: Γ) Δ := by
  obtain ⟨vs, h1, h2, h3, h4⟩ := h.look
  exact ⟨vs, h1, h2, h.put fun H0 I => dps_set (hy.dp I.data) k (h4 H0 I)⟩
theorem St.insAt (h : St K H dk ((p, ds) :: Γ) Δ) {y : V} {x : D} (hy : Dv Δ y x) (k : Nat) : ∃ vs, H p = some (.lst vs) ∧ vs.length = ds.length ∧ St K (upd H p (.lst (vs.take k ++ [y] ++ vs.drop k))) dk ((p, ds.take k ++ [x] ++ ds.drop k) :: Γ) Δ := by
  obtain ⟨vs, h1, h2, h3, h4⟩ := h.look
  exact ⟨vs, h1, h2, h.put fun H0 I => dps_app (dps_app (dps_take k (h4 H0 I)) (.cons (hy.dp I.data) .nil)) (dps_drop k (h4 H0 I))⟩
theorem St.int_of (h : St K H dk Γ Δ) {i : Int} (k : (v, PyData.int i) ∈ Δ) : v = .int i := by
  obtain ⟨H0, I⟩ := h
  cases I.data _ k
  rfl
theorem St.ints_of (h : St K H dk Γ Δ) {ns : List Int} (k : DvAll Δ vs (ns.map PyData.int)) : vs = ns.map V.int := by
  obtain ⟨H0, I⟩ := h
  exact dps_ints (k.dp I.data)
/-- a tuple of two ints -/
theorem St.pair (h : St K H dk Γ Δ) {a : Addr} {i j : Int} (k : (V.ref a, PyData.tuple [.int i, .int j]) ∈ Δ) : SqT K H a [.int i, .int j] := by
  obtain ⟨vs, h1, h2, Δ', e, h3, h4⟩ := h.tupAt k
  have := h3.ints_of (ns := [i, j]) h4
  rw [this] at h1
  exact h1
theorem St.ref_of (h : St K H dk Γ Δ) (k : (v, PyData.tuple ds) ∈ Δ) : ∃ a, v = .ref a := by
  obtain ⟨H0, I⟩ := h
  cases I.data _ k
  exact ⟨_, rfl⟩
theorem St.lref_of (h : St K H dk Γ Δ) (k : (v, PyData.list ds) ∈ Δ) : ∃ a, v = .ref a := by
  obtain ⟨H0, I⟩ := h
  cases I.data _ k
  exact ⟨_, rfl⟩
end
theorem ixN_of {n : Nat} {i : Int} (h0 : 0 ≤ i) (h : i < n) : ixN n i = some i.toNat := by
  unfold ixN
  rw [if_pos h0, if_pos h]
theorem seq_of {n : Nat} {i : Int} (h0 : 0 ≤ i) (h : i < n) : seqIndex? i n = some i.toNat := (ixN_seq (ixN_of h0 h)).1
theorem atI_of {α : Type} {xs : List α} {i : Int} {v : α} (h0 : 0 ≤ i) (h : xs[i.toNat]? = some v) : atI xs i = some v := by
  have e : i = ((i.toNat : Nat) : Int) := by omega
  rw [e]
  exact atI_nat h
section
variable {K : PySem.W.Frag} {a : Addr} {n : Nat}
theorem walkT : Walk (Itt K a) n (fun H => ∃ xs, SqT K H a xs ∧ xs.length = n) (fun i H x H' => H' = H ∧ ∀ xs, SqT K H a xs → xs[i]? = some x) :=
  ⟨fun i H hi q => by obtain ⟨xs, h1, rfl⟩ := q; exact ⟨xs, xs[i], h1, List.getElem?_eq_getElem hi⟩, fun H q => by obtain ⟨xs, h1, rfl⟩ := q; exact ⟨xs, h1, Nat.le_refl _⟩, fun i H x H' hi q y => y⟩
theorem walkL : Walk (Itl K a) n (fun H => ∃ xs, SqL K H a xs ∧ xs.length = n) (fun i H x H' => H' = H ∧ ∀ xs, SqL K H a xs → xs[i]? = some x) :=
  ⟨fun i H hi q => by obtain ⟨xs, h1, rfl⟩ := q; exact ⟨xs, xs[i], h1, List.getElem?_eq_getElem hi⟩, fun H q => by obtain ⟨xs, h1, rfl⟩ := q; exact ⟨xs, h1, Nat.le_refl _⟩, fun i H x H' hi q y => y⟩
theorem walkET : Walk (Itet K a) n (fun H => ∃ xs, SqT K H a xs ∧ xs.length = n) (fun i H v H' => ∃ T x, v = .ref T ∧ H T = none ∧ H' = upd H T (.tup [.int (i : Nat), x]) ∧ ∀ xs, SqT K H a xs → xs[i]? = some x) :=
  ⟨fun i H hi q => by obtain ⟨xs, h1, rfl⟩ := q; exact ⟨xs, xs[i], h1, List.getElem?_eq_getElem hi⟩, fun H q => by obtain ⟨xs, h1, rfl⟩ := q; exact ⟨xs, h1, Nat.le_refl _⟩, fun i H x H' hi q y => y⟩
theorem walkEL : Walk (Ite K a) n (fun H => ∃ xs, SqL K H a xs ∧ xs.length = n) (fun i H v H' => ∃ T x, v = .ref T ∧ H T = none ∧ H' = upd H T (.tup [.int (i : Nat), x]) ∧ ∀ xs, SqL K H a xs → xs[i]? = some x) :=
  ⟨fun i H hi q => by obtain ⟨xs, h1, rfl⟩ := q; exact ⟨xs, xs[i], h1, List.getElem?_eq_getElem hi⟩, fun H q => by obtain ⟨xs, h1, rfl⟩ := q; exact ⟨xs, h1, Nat.le_refl _⟩, fun i H x H' hi q y => y⟩
end
section
variable {K : PySem.W.Frag} {H H' : Hp} {dk : Dk} {Γ : List (Addr × List D)} {Δ : List (V × D)} {x : V} {d : D} {ds : List D} {a T : Addr} {i : Nat}
theorem dvs_back : ∀ {vs : List V} {ds : List D} {i : Nat} {v : V}, DvAll Δ vs ds → vs[i]? = some v → ∃ x, ds[i]? = some x ∧ Dv Δ v x
  | _, _, _, _, .nil, e => by simp at e
  | _, _, 0, _, .cons h _, e => by
    cases Option.some.inj (show some _ = some _ from e)
    exact ⟨_, rfl, h⟩
  | _, _, i + 1, _, .cons _ t, e => by
    obtain ⟨v, h1, h2⟩ := dvs_back (i := i) t (by simpa using e)
    exact ⟨v, by simpa using h1, h2⟩
/-- a tuple that stays is walked: the item of this turn -/
theorem St.turnT (h : St K H dk Γ Δ) (k : (V.ref a, PyData.tuple ds) ∈ Δ) (f : ∀ xs, SqT K H a xs → xs[i]? = some x) : ∃ d, ds[i]? = some d ∧ St K H dk Γ ((x, d) :: Δ) := by
  obtain ⟨vs, h1, h2, Δ', rfl, h3, h4⟩ := h.tupAt k
  obtain ⟨d, e1, e2⟩ := dvs_back h4 (f vs h1)
  refine ⟨d, e1, (h3.also e2).weaken fun q hq => ?_⟩
  rcases List.mem_cons.mp hq with rfl | hq
  · exact List.mem_cons_self ..
  · exact List.mem_cons_of_mem _ (List.mem_append_right _ hq)
theorem St.turnL (h : St K H dk Γ Δ) (k : (V.ref a, PyData.list ds) ∈ Δ) (f : ∀ xs, SqL K H a xs → xs[i]? = some x) : ∃ d, ds[i]? = some d ∧ St K H dk Γ ((x, d) :: Δ) := by
  obtain ⟨vs, h1, h2, Δ', rfl, h3, h4⟩ := h.lstAt k
  obtain ⟨d, e1, e2⟩ := dvs_back h4 (f vs h1)
  refine ⟨d, e1, (h3.also e2).weaken fun q hq => ?_⟩
  rcases List.mem_cons.mp hq with rfl | hq
  · exact List.mem_cons_self ..
  · exact List.mem_cons_of_mem _ (List.mem_append_right _ hq)
theorem St.lenT (h : St K H dk Γ Δ) (k : (V.ref a, PyData.tuple ds) ∈ Δ) : ∃ xs, SqT K H a xs ∧ xs.length = ds.length := by
  obtain ⟨vs, h1, h2, _⟩ := h.tupAt k
  exact ⟨vs, h1, h2⟩
theorem St.lenL (h : St K H dk Γ Δ) (k : (V.ref a, PyData.list ds) ∈ Δ) : ∃ xs, SqL K H a xs ∧ xs.length = ds.length := by
  obtain ⟨vs, h1, h2, _⟩ := h.lstAt k
  exact ⟨vs, h1, h2⟩
/-- the pair of enumerate -/
theorem St.enumd (h : St K H dk Γ ((x, d) :: Δ)) (hT : H T = none) : St K (upd H T (.tup [.int (i : Nat), x])) dk Γ ((x, d) :: Δ) :=
  (h.tup (ds := [.int (i : Nat), d]) hT (.cons (.int _) (.cons (.of (List.mem_cons_self ..)) .nil))).weaken fun _ => List.mem_cons_of_mem _
end
end EE

namespace EE
open PySem PySem.Spec PyProof.Rows L2
/-! ### defs of the text, by what they promise -/
structure Fd (P : Program) (w : World) (K : PySem.W.Frag) (mg : Str → Option Value) (base : Heap) (x : Str) (k : Nat) (ps : List Str) (sp : Sp) : Prop where
  ex : ∃ (f : Addr) (fd : FuncData), FnOk P w K mg base CX0 k f fd ps sp ∧ mg x = some (.ref f) ∧ PySem.W.keepIn K (.ref f) = true ∧ Binds K fd ps []
section
variable {P : Program} {w : World} {K : PySem.W.Frag} {mg : Str → Option Value} {base : Heap}
theorem Fd.mk' {x qual : Str} {st : Stmt} {f : Addr} {fd : FuncData} {k : Nat} {ps : List Str} {sp : Sp} (F : Fun K x qual st f fd) (G : FnOk P w K mg base CX0 k f fd ps sp) (hm : mg x = some (.ref f)) (hb : Binds K fd ps []) : Fd P w K mg base x k ps sp :=
  ⟨f, fd, G, hm, F.kp, hb⟩
end
section
variable {X : Cx} {k : Nat} {ps : List Str} {sp : Sp} {x : Str} {p pos : Pos} {e : Expr} {es : List Expr} {t : TA}
theorem pe_fd (F : Fd X.prog X.w X.K X.mg X.base x k ps sp) (hr : Room k X.A) (hg : Gl X x) (ha : PA X (e :: es) t) (hx : Passes CX0 X E0 := by exact pass0) (hdb : (x == ("__debug__" : Str)) = false := by decide) (he : starEach (e :: es) X.env = (false, eval e X.env) :: starEach es X.env := by rfl)
    (hpl : (backTo pos (starEach es X.env)).any (·.1) = false := by rfl) : PE X (.Call (.Name x p) (e :: es) [] pos) (tCall sp [] E0 t) := by
  obtain ⟨f, fd, G, hm, hk, hb⟩ := F.ex
  exact pe_call G hr hg hm hk hb .nil hx ha hdb he hpl
theorem pe_k {x : Str} {i : Int} {pos : Pos} (hm : ∃ t, X.mg x = some (.int i t)) (hg : Gl X x) (hd : (x == ("__debug__" : Str)) = false := by decide) : PE X (.Name x pos) (tC (.int i)) := by
  obtain ⟨t, hm⟩ := hm
  exact pe_glob hg hm ⟨_, rfl⟩ hd
end
/-- the built-in names stand as they were -/
def bnames : List Str := ["len", "abs", "max", "min", "int", "list", "tuple", "range", "enumerate", "repr", "isinstance", "sum", "sorted", "str", "any", "all", "zip", "bool", "set", "dict"]
def NB (mg : Str → Option Value) (l : List Str) : Prop := ∀ x, l.contains x = true → mg x = none
/-! ### f(k = v, ..), all by name -/
structure KB (fdk : FuncData) (K : PySem.W.Frag) (ps ks : List Str) (g : List Value → List Value) (gV : List V → List V) : Prop where
  to : ∀ (s : Shared) (ws : List Value), K.In s.heap → (g ws).length = ps.length → BindsTo s fdk ⟨[], ks.zip ws⟩ (ps.zip (g ws))
  rel : ∀ {zs : List V} {ws : List Value}, Vals zs ws → Vals (gV zs) (g ws)
structure Fk (P : Program) (w : World) (K : PySem.W.Frag) (mg : Str → Option Value) (base : Heap) (x : Str) (k : Nat) (ps ks : List Str) (gV : List V → List V) (sp : Sp) : Prop where
  ex : ∃ (f : Addr) (fd : FuncData) (g : List Value → List Value), FnOk P w K mg base CX0 k f fd ps sp ∧ mg x = some (.ref f) ∧ PySem.W.keepIn K (.ref f) = true ∧ KB fd K ps ks g gV
section
variable {X : Cx} {k : Nat} {ps ks : List Str} {gV : List V → List V} {sp : Sp} {x : Str} {p pos : Pos} {kws : List Keyword} {tk : TA}
def tCallK0 (sp : Sp) (gV : List V → List V) (E : XK) (tk : TA) : TE := fun σ H Q => tk σ H fun zs H2 => sp (gV zs) H2 Q E
theorem pe_fk (F : Fk X.prog X.w X.K X.mg X.base x k ps ks gV sp) (hr : Room k X.A) (hg : Gl X x) (hkw : PK X kws tk) (hall : (backToKw pos (keywordEach kws X.env)).all (·.1.isSome) = true := by rfl) (hks : (backToKw pos (keywordEach kws X.env)).filterMap (·.1) = ks := by rfl)
    (hdb : (x == ("__debug__" : Str)) = false := by decide) (hpl : ((backTo pos (starEach [] X.env)).any (·.1) || (backToKw pos (keywordEach kws X.env)).any (·.1.isNone)) = false := by rfl) :
    PE X (.Call (.Name x p) [] kws pos) (tCallK0 sp gV E0 tk) := by
  obtain ⟨f, fd, g, G, hm, hk, hb⟩ := F.ex
  refine ⟨fun pins s σ H Q I h => wpAny_Call_Name_kw (ld_glob I hg hm ?_ hdb)⟩
  refine PySem.W.callWith_KW0 (h₀ := X.base) (first := []) I.ok.mod.kin hk hall (thn (hkw.run pos pins s σ H _ I h) fun ws s2 q => ?_) hpl
  obtain ⟨zs, H2, I2, rz, q2⟩ := q
  refine ⟨I2.kIn, ?_⟩
  rw [hks]
  have r2 := hb.rel rz
  have hl : (g ws).length = ps.length := by
    rw [← r2.length]
    exact G.len _ _ _ _ q2
  refine wpAny_call (codeAny_mono (G.run X.A X.stack s2 H2 ⟨[], ks.zip ws⟩ (g ws) (gV zs) Q E0 hr I2.env0 (hb.to s2 ws I2.kIn hl) r2 q2) fun r s' hq => ?_)
  cases r with
  | error e => exact (show False from hq).elim
  | ok fl =>
    cases fl with
    | ret u => exact I2.after hq
    | next => exact (show False from hq).elim
    | brk => exact (show False from hq).elim
    | cont => exact (show False from hq).elim
end
theorem _root_.L2.Fun.kb {K : PySem.W.Frag} {x qual : Str} {st : Stmt} {f : Addr} {fd : FuncData} {ps ks : List Str} (F : Fun K x qual st f fd)
    (h : ∀ (kV doc pm : Value) (an : Option Addr) (cdv ct : Value) (us : List Value), us.length = ps.length → bindArgs (PySem.W.fnOf x qual (defArgs st) (defBody st) (defScope st) .none kV doc pm an cdv ct) ⟨[], ks.zip us⟩ = pure (ps.zip us.reverse)) :
    KB fd K ps ks (fun ws => ws.reverse) (fun zs => zs.reverse) := by
  obtain ⟨oc, od, kV, doc, pm, an, cdv, ct, osl, rfl, lk, hcd⟩ := F.ex
  refine ⟨fun s ws _ hl => .of_eq (h kV doc pm an cdv ct ws ?_), fun r => r.reverse⟩
  rw [List.length_reverse] at hl
  exact hl
/-! ### powers of great bases -/
def CPowW (i j : Int) : Prop := 0 ≤ j ∧ (Builtin.Int.intBits i : Int) * j ≤ 2 ^ 27
theorem op_powW {X : Cx} : OpR X (binaryOp .Pow) (rI CPowW fun i j => .int (i ^ j.toNat)) := opI fun _ _ _ _ _ _ _ hc q => pow_int hc.1 hc.2 q
/-! ### // by any positive divisor, where C divides -/
def CDivX (i j : Int) : Prop := 0 < j ∧ Builtin.divisionGoesByPylong i j = false
theorem op_fdivX {X : Cx} : OpR X (binaryOp .FloorDiv) (rI CDivX fun i j => .int (i / j)) := opI fun i j _ _ _ _ _ hc q => by
  have h1 : (0 : Int) < j := hc.1
  refine floordiv_int (by omega) ?_ (.inl hc.2)
  rw [Int.fdiv_eq_ediv_of_nonneg i (by omega)]
  exact q
theorem divx_of {i j : Int} (h : CDivW i j) : CDivX i j := ⟨h.1, PyProof.noPylong_of_log2 h.2⟩
theorem divx_small {i j : Int} {n : Nat} (hj : 0 < j) (hi : i.natAbs < 2 ^ n) (hn : n ≤ 4000) : CDivX i j := ⟨hj, (divp_ok hj (by have := PyProof.Rows.intBits_le hi; omega)).2⟩
end EE

namespace EE
open PySem PySem.Spec PyProof.Rows L2
/-! ### data that can be shown and compared: n bounds its text -/
structure Sm (n k : Nat) (d : D) : Prop where
  show_ : d.showable = true
  deep : d.depth ≤ k
  long : d.shown.length ≤ n
  lay : d.canLay0 = true
theorem Sm.mono {n k n' k' : Nat} {d : D} (h : Sm n k d) (h1 : n ≤ n') (h2 : k ≤ k') : Sm n' k' d := ⟨h.show_, Nat.le_trans h.deep h2, Nat.le_trans h.long h1, h.lay⟩
theorem sm_non : Sm 5 0 (.none : D) := ⟨by simp only [PyData.showable], by simp only [PyData.depth]; exact Nat.le_refl 0, by decide, by simp only [PyData.canLay0]⟩
theorem sm_bool (b : Bool) : Sm 5 0 (.bool b : D) := ⟨by simp only [PyData.showable], by simp only [PyData.depth]; exact Nat.le_refl 0, by cases b <;> decide, by simp only [PyData.canLay0]⟩
theorem sm_int {i : Int} (h0 : 0 ≤ i) (h : i < 10 ^ 570) : Sm 570 0 (.int i : D) := by
  refine ⟨?_, by simp only [PyData.depth]; exact Nat.le_refl 0, ?_, by simp only [PyData.canLay0]⟩
  · simp only [PyData.showable, decide_eq_true_eq]
    have h2 : i.natAbs < 2 ^ 1900 := by
      have e : (10 : Int) ^ 570 < 2 ^ 1900 := by decide +kernel
      omega
    exact Nat.lt_trans (PySem.Flt.log2_lt_of (by decide) h2) (by decide)
  · simp only [PyData.shown]
    exact toString_length_le h0 (by decide) h
theorem sms_sum {n k : Nat} : ∀ {ds : List D}, (∀ d ∈ ds, Sm n k d) → PyData.showableAll ds = true ∧ PyData.depthAll ds ≤ k ∧ ((PyData.shownAll ds).map (·.length)).sum ≤ ds.length * n ∧ PyData.canLayAll0 ds = true ∧ (PyData.shownAll ds).length = ds.length
  | [], _ => ⟨by simp only [PyData.showableAll], by simp only [PyData.depthAll]; exact Nat.zero_le _, by simp [PyData.shownAll], by simp only [PyData.canLayAll0], by simp [PyData.shownAll]⟩
  | d :: ds, h => by
    have h1 := h d (List.mem_cons_self ..)
    obtain ⟨a, b, c, e, f⟩ := sms_sum fun x hx => h x (List.mem_cons_of_mem _ hx)
    have h1d := h1.deep
    have h1l := h1.long
    refine ⟨by simp only [PyData.showableAll, h1.show_, a, Bool.and_self], by simp only [PyData.depthAll]; omega, ?_, by simp only [PyData.canLayAll0, h1.lay, e, Bool.and_self], by simp only [PyData.shownAll, List.length_cons, f]⟩
    simp only [PyData.shownAll, List.map_cons, List.sum_cons, List.length_cons, Nat.add_mul, Nat.one_mul]
    omega
theorem sm_list {n k : Nat} {ds : List D} (h : ∀ d ∈ ds, Sm n k d) : Sm (ds.length * (n + 2) + 3) (k + 1) (.list ds : D) := by
  obtain ⟨a, b, c, e, f⟩ := sms_sum h
  refine ⟨by simp only [PyData.showable, a], by simp only [PyData.depth]; omega, ?_, by simp only [PyData.canLay0, e]⟩
  simp only [PyData.shown]
  refine Nat.le_trans (listText_len_le _) ?_
  rw [f, Nat.mul_add]
  omega
theorem sm_tuple {n k : Nat} {ds : List D} (h : ∀ d ∈ ds, Sm n k d) : Sm (ds.length * (n + 2) + 3) (k + 1) (.tuple ds : D) := by
  obtain ⟨a, b, c, e, f⟩ := sms_sum h
  refine ⟨by simp only [PyData.showable, a], by simp only [PyData.depth]; omega, ?_, by simp only [PyData.canLay0, e]⟩
  simp only [PyData.shown]
  refine Nat.le_trans (tupleText_len_le _) ?_
  rw [f, Nat.mul_add]
  omega
theorem Sm.shaped {n k : Nat} {d : D} (h : Sm n k d) (hk : k ≤ 60) : SeqAt.shaped d = true := by
  unfold SeqAt.shaped
  have := h.deep
  simp only [h.lay, Bool.true_and, decide_eq_true_eq]
  omega
/-- what can be compared -/
def Lay (k : Nat) (ds : List D) : Prop := PyData.canLayAll0 ds = true ∧ PyData.depthAll ds ≤ k
theorem lay_nil {k : Nat} : Lay k [] := ⟨by simp only [PyData.canLayAll0], by simp only [PyData.depthAll]; exact Nat.zero_le _⟩
theorem lay_cons {k : Nat} {d : D} {ds : List D} (h : d.canLay0 = true) (h2 : d.depth ≤ k) (t : Lay k ds) : Lay k (d :: ds) := ⟨by simp only [PyData.canLayAll0, h, t.1, Bool.and_self], by simp only [PyData.depthAll]; have := t.2; omega⟩
theorem lay_of {k : Nat} : ∀ {ds : List D}, (∀ d ∈ ds, d.canLay0 = true ∧ d.depth ≤ k) → Lay k ds
  | [], _ => lay_nil
  | d :: ds, h => lay_cons (h d (List.mem_cons_self ..)).1 (h d (List.mem_cons_self ..)).2 (lay_of fun x hx => h x (List.mem_cons_of_mem _ hx))
theorem lay_ints {k : Nat} (ns : List Int) : Lay k (ns.map PyData.int) := lay_of fun d hd => by
  obtain ⟨i, _, rfl⟩ := List.mem_map.mp hd
  exact ⟨by simp only [PyData.canLay0], by simp only [PyData.depth]; exact Nat.zero_le _⟩
theorem lay_list {ds : List D} (h : Lay 60 ds) : SeqAt.shaped (.list ds) = true := by
  have h2 := h.2
  refine Bool.and_eq_true_iff.mpr ⟨by simp only [PyData.canLay0, h.1], decide_eq_true ?_⟩
  simp only [PyData.depth]
  omega
theorem lay_tuple {ds : List D} (h : Lay 60 ds) : SeqAt.shaped (.tuple ds) = true := by
  have h2 := h.2
  refine Bool.and_eq_true_iff.mpr ⟨by simp only [PyData.canLay0, h.1], decide_eq_true ?_⟩
  simp only [PyData.depth]
  omega
section
variable {K : PySem.W.Frag} {H : Hp} {x y : V} {ds : List D} {Q : VK}
theorem ne_nil_list (hx : Dp K H x (.list ds)) (hy : Dp K H y (.list [])) (h : Lay 60 ds) (q : Q (.bl (!ds.isEmpty)) H) : rNeD K x y H Q := by
  refine ⟨.list ds, .list [], hx, hy, lay_list h, lay_list lay_nil, ?_⟩
  cases ds with
  | nil => exact q
  | cons d ds => exact q
theorem ne_nil_tup (hx : Dp K H x (.tuple ds)) (hy : Dp K H y (.tuple [])) (h : Lay 60 ds) (q : Q (.bl (!ds.isEmpty)) H) : rNeD K x y H Q := by
  refine ⟨.tuple ds, .tuple [], hx, hy, lay_tuple h, lay_tuple lay_nil, ?_⟩
  cases ds with
  | nil => exact q
  | cons d ds => exact q
end
/-! ### the deck's dict -/
section
variable {H : Hp} {d l : Addr} {s : Int} {v : V}
theorem deck_deep (h : H d = some (.dK [(.inr "deep", .ref l), (.inr "state", .int s)])) : DGet H d (.str "deep") (some (.ref l)) := by
  have g := DGet.k (k := (.inr "deep" : Key)) h
  rw [valV_pos rfl] at g
  exact g
theorem deck_state (h : H d = some (.dK [(.inr "deep", .ref l), (.inr "state", .int s)])) : DGet H d (.str "state") (some (.int s)) := by
  have g := DGet.k (k := (.inr "state" : Key)) h
  rw [valV_neg (by show ¬ ((Sum.inr ("deep" : Str) : Key) = Sum.inr ("state" : Str)); decide), valV_pos rfl] at g
  exact g
theorem put_state (h : H d = some (.dK [(.inr "deep", .ref l), (.inr "state", .int s)])) : DPut H d (.str "state") v (upd H d (.dK [(.inr "deep", .ref l), (.inr "state", v)])) := by
  have g := DPut.k (k := (.inr "state" : Key)) (v := v) h (by show 2 < sizeLine; decide)
  have e : putK [((.inr "deep" : Key), V.ref l), (.inr "state", .int s)] (.inr "state") v = [(.inr "deep", .ref l), (.inr "state", v)] := by
    have n : ¬ ((Sum.inr ("deep" : Str) : Key) = Sum.inr ("state" : Str)) := by decide
    simp [putK, n]
  rw [e] at g
  exact g
theorem put_deep {m : Addr} (h : H d = some (.dK [(.inr "deep", .ref l), (.inr "state", .int s)])) : DPut H d (.str "deep") (.ref m) (upd H d (.dK [(.inr "deep", .ref m), (.inr "state", .int s)])) := by
  have g := DPut.k (k := (.inr "deep" : Key)) (v := .ref m) h (by show 2 < sizeLine; decide)
  have e : putK [((.inr "deep" : Key), V.ref l), (.inr "state", .int s)] (.inr "deep") (.ref m) = [(.inr "deep", .ref m), (.inr "state", .int s)] := by
    have n : ¬ ((Sum.inr ("state" : Str) : Key) = Sum.inr ("deep" : Str)) := by decide
    simp [putK, n]
  rw [e] at g
  exact g
end
theorem dk_ne {H : Hp} {d l : Addr} {a : List (Key × V)} {b : List V} (h1 : H d = some (.dK a)) (h2 : H l = some (.lst b)) : d ≠ l := ne_of h1 h2 (by intro z; cases z)
end EE

namespace EE
open PySem PySem.Spec PyProof.Rows L2
theorem ifp {c A B : Prop} [Decidable c] (hc : c) (h : A) : if c then A else B := by
  rw [if_pos hc]
  exact h
theorem ifn {c A B : Prop} [Decidable c] (hc : ¬ c) (h : B) : if c then A else B := by
  rw [if_neg hc]
  exact h
theorem up_old {H : Hp} {a p : Addr} {u o : HO} (h : H a = some u) (hp : H p = none) : upd H p o a = some u := (upd_ne (ne_of_none h hp)).trans h
/-! ### an expression that is worth a datum, whatever is known besides -/
def Sub (Δ Δ' : List (V × D)) : Prop := ∀ x ∈ Δ, x ∈ Δ'
theorem Sub.rfl' {Δ : List (V × D)} : Sub Δ Δ := fun _ h => h
theorem Sub.trans {A B C : List (V × D)} (h : Sub A B) (k : Sub B C) : Sub A C := fun x hx => k x (h x hx)
theorem Sub.cons {A B : List (V × D)} {x : V × D} (h : Sub A B) : Sub A (x :: B) := fun y hy => List.mem_cons_of_mem _ (h y hy)
def EvD (K : PySem.W.Frag) (B : List (V × D)) (te : TE) (σ : L2.St) (d : D) : Prop := ∀ (H : Hp) (dk : Dk) (Γ : List (Addr × List D)) (Δ : List (V × D)) (Q : VK), Sub B Δ → St K H dk Γ Δ →
  (∀ v H' Δ', Sub Δ Δ' → St K H' dk Γ Δ' → Dv Δ' v d → Q v H') → te σ H Q
def EvDs (K : PySem.W.Frag) (B : List (V × D)) (ta : TA) (σ : L2.St) (ds : List D) : Prop := ∀ (H : Hp) (dk : Dk) (Γ : List (Addr × List D)) (Δ : List (V × D)) (Q : List V → Hp → Prop), Sub B Δ → St K H dk Γ Δ →
  (∀ vs H' Δ', Sub Δ Δ' → St K H' dk Γ Δ' → DvAll Δ' vs ds → Q vs H') → ta σ H Q
section
variable {K : PySem.W.Frag} {B : List (V × D)} {σ : L2.St} {ta tb : TE} {tr : TA} {d : D} {ds : List D} {v : V} {i j : Int}
theorem ed_int : EvD K B (tC (.int i)) σ (.int i) := fun H dk Γ Δ Q hb hS q => q _ H Δ .rfl' hS (.int i)
theorem ed_str {x : Str} : EvD K B (tC (.str x)) σ (.str x) := fun H dk Γ Δ Q hb hS q => q _ H Δ .rfl' hS (.str x)
theorem ed_non : EvD K B (tC .non) σ .none := fun H dk Γ Δ Q hb hS q => q _ H Δ .rfl' hS .non
theorem ed_bl {b : Bool} : EvD K B (tC (.bl b)) σ (.bool b) := fun H dk Γ Δ Q hb hS q => q _ H Δ .rfl' hS (.bl b)
theorem ed_var {n : Nat} (e : σ[n]? = some (some v)) (h : Dv B v d) : EvD K B (tVar n) σ d := fun H dk Γ Δ Q hb hS q => ⟨v, e, q v H Δ .rfl' hS (h.sub hb)⟩
theorem ed_varI {n : Nat} (e : σ[n]? = some (some (.int i))) : EvD K B (tVar n) σ (.int i) := ed_var e (.int i)
theorem ed_varB {n : Nat} {b : Bool} (e : σ[n]? = some (some (.bl b))) : EvD K B (tVar n) σ (.bool b) := ed_var e (.bl b)
theorem eds_nil : EvDs K B tNil σ [] := fun H dk Γ Δ Q hb hS q => q _ H Δ .rfl' hS .nil
theorem eds_cons (h : EvD K B ta σ d) (t : EvDs K B tr σ ds) : EvDs K B (tCons ta tr) σ (d :: ds) := fun H dk Γ Δ Q hb hS q =>
  h H dk Γ Δ _ hb hS fun v H1 Δ1 s1 hS1 d1 => t H1 dk Γ Δ1 _ (hb.trans s1) hS1 fun vs H2 Δ2 s2 hS2 d2 => q _ H2 Δ2 (s1.trans s2) hS2 (.cons (d1.sub s2) d2)
theorem ed_tup (h : EvDs K B tr σ ds) (hz : ds.length ≤ 10000) : EvD K B (tTup tr) σ (.tuple ds) := fun H dk Γ Δ Q hb hS q =>
  h H dk Γ Δ _ hb hS fun vs H1 Δ1 s1 hS1 d1 => ⟨by rw [d1.len]; exact Nat.le_trans hz (by decide), fun p hp => q _ _ _ (s1.trans (Sub.cons .rfl')) (hS1.tup hp d1) (.of (List.mem_cons_self ..))⟩
theorem ed_lst (h : EvDs K B tr σ ds) (hz : ds.length ≤ 10000) : EvD K B (tLst tr) σ (.list ds) := fun H dk Γ Δ Q hb hS q =>
  h H dk Γ Δ _ hb hS fun vs H1 Δ1 s1 hS1 d1 => ⟨by rw [d1.len]; exact Nat.le_trans hz (by decide), fun p hp => q _ _ _ (s1.trans (Sub.cons .rfl')) (hS1.lst hp d1) (.of (List.mem_cons_self ..))⟩
theorem Dv.isInt {Δ : List (V × D)} {H : Hp} {dk : Dk} {Γ : List (Addr × List D)} (hS : St K H dk Γ Δ) (h : Dv Δ v (.int i)) : v = .int i := by
  cases h with
  | of m => exact hS.int_of m
  | int => rfl
theorem ed_I0 {g : Int → Int → Int} (h1 : EvD K B ta σ (.int i)) (h2 : EvD K B tb σ (.int j)) : EvD K B (tOp (rI0 fun i j => .int (g i j)) ta tb) σ (.int (g i j)) := fun H dk Γ Δ Q hb hS q =>
  h1 H dk Γ Δ _ hb hS fun v H1 Δ1 s1 hS1 d1 => h2 H1 dk Γ Δ1 _ (hb.trans s1) hS1 fun u H2 Δ2 s2 hS2 d2 => by
    obtain rfl := d1.isInt hS1
    obtain rfl := d2.isInt hS2
    exact ⟨i, j, rfl, rfl, q _ _ _ (s1.trans s2) hS2 (.int _)⟩
theorem ed_I {C : Int → Int → Prop} {g : Int → Int → Int} (h1 : EvD K B ta σ (.int i)) (h2 : EvD K B tb σ (.int j)) (hc : C i j) : EvD K B (tOp (rI C fun i j => .int (g i j)) ta tb) σ (.int (g i j)) := fun H dk Γ Δ Q hb hS q =>
  h1 H dk Γ Δ _ hb hS fun v H1 Δ1 s1 hS1 d1 => h2 H1 dk Γ Δ1 _ (hb.trans s1) hS1 fun u H2 Δ2 s2 hS2 d2 => by
    obtain rfl := d1.isInt hS1
    obtain rfl := d2.isInt hS2
    exact ⟨i, j, rfl, rfl, hc, q _ _ _ (s1.trans s2) hS2 (.int _)⟩
theorem ed_neg {g : Int → Int} (h1 : EvD K B ta σ (.int i)) : EvD K B (tUn (rU fun i => .int (g i)) ta) σ (.int (g i)) := fun H dk Γ Δ Q hb hS q =>
  h1 H dk Γ Δ _ hb hS fun v H1 Δ1 s1 hS1 d1 => by
    obtain rfl := d1.isInt hS1
    exact ⟨i, rfl, q _ _ _ s1 hS1 (.int _)⟩
/-- to go on from a datum -/
theorem EvD.go (h : EvD K B ta σ d) {H : Hp} {dk : Dk} {Γ : List (Addr × List D)} {Δ : List (V × D)} {Q : VK} (hb : Sub B Δ) (hS : St K H dk Γ Δ) (q : ∀ v H', St K H' dk Γ ((v, d) :: Δ) → Q v H') : ta σ H Q :=
  h H dk Γ Δ Q hb hS fun v H' Δ' s hS' dv => q v H' ((hS'.also dv).weaken fun x hx => by
    rcases List.mem_cons.mp hx with rfl | hx
    · exact List.mem_cons_self ..
    · exact List.mem_cons_of_mem _ (s x hx))
end
theorem sub_nil {Δ : List (V × D)} : Sub [] Δ := fun _ h => nomatch h
section
variable {K : PySem.W.Frag} {B : List (V × D)} {σ : L2.St} {H : Hp} {dk : Dk} {Γ : List (Addr × List D)} {Δ : List (V × D)} {tr : TA} {ds es : List D} {p r : Addr} {Q : VK}
/-- a list display that may change -/
theorem EvDs.make (h : EvDs K B tr σ ds) (hb : Sub B Δ) (hS : St K H dk Γ Δ) (hz : ds.length ≤ 10000) (q : ∀ p H', St K H' dk ((p, ds) :: Γ) Δ → Q (.ref p) H') : tLst tr σ H Q :=
  h H dk Γ Δ _ hb hS fun vs H1 Δ1 s1 hS1 d1 => ⟨by rw [d1.len]; exact Nat.le_trans hz (by decide), fun p hp => q p _ ((hS1.make hp d1).weaken s1)⟩
/-- two lists put together -/
theorem St.cat (hS : St K H dk ((p, ds) :: (r, es) :: Γ) Δ) : ∃ xs zs, H p = some (.lst xs) ∧ H r = some (.lst zs) ∧ xs.length = ds.length ∧ zs.length = es.length ∧ ∀ t, H t = none → St K (upd H t (.lst (xs ++ zs))) dk ((t, ds ++ es) :: (p, ds) :: (r, es) :: Γ) Δ := by
  obtain ⟨xs, h1, h2, _, h3⟩ := hS.look
  obtain ⟨zs, k1, k2, _, _⟩ := hS.swap.look
  refine ⟨xs, zs, h1, k1, h2, k2, fun t ht => hS.make_ ht fun H0 I => dps_app (h3 H0 I) ?_⟩
  obtain ⟨_, vs, j1, j2⟩ := I.lists (r, es) (List.mem_cons_of_mem _ (List.mem_cons_self ..))
  rw [k1] at j1
  cases j1
  exact j2
end
/-! ### to see the next expression -/
section
variable {te ta tb : TE} {tz t u : TS} {D : Ends} {σ : L2.St} {H : Hp} {Q : VK} {i : Nat} {r : R2} {g : TG} {tx : TA} {rr : V → List V → Hp → VK → Prop}
theorem go_set (h : te σ H fun x H1 => tz D (σ.set i (some x)) H1) : tSeq (tAsg te (gName i)) tz D σ H := h
theorem go_setL (h : te σ H fun x H1 => D.nx (σ.set i (some x)) H1) : tAsg te (gName i) D σ H := h
theorem go_asg (h : te σ H fun x H1 => g x σ H1 fun σ2 H2 => tz D σ2 H2) : tSeq (tAsg te g) tz D σ H := h
theorem go_asgL (h : te σ H fun x H1 => g x σ H1 D.nx) : tAsg te g D σ H := h
theorem go_ret (h : te σ H D.rt) : tRet te D σ H := h
theorem go_seq (h : t { D with nx := u D } σ H) : tSeq t u D σ H := h
theorem go_drop (h : te σ H fun _ H1 => D.nx σ H1) : tDrop te D σ H := h
theorem go_op (h : ta σ H fun x H1 => tb σ H1 fun y H2 => r x y H2 Q) : tOp r ta tb σ H Q := h
theorem go_if {c : TT} (h : c σ H fun b H1 => if b = true then t D σ H1 else u D σ H1) : tIfS c t u D σ H := h
theorem go_ite {c : TT} (h : c σ H fun b H1 => if b = true then ta σ H1 Q else tb σ H1 Q) : tIf c ta tb σ H Q := h
theorem go_cut (M : L2.St → Hp → Prop) (h : t { D with nx := M } σ H) (k : ∀ σ' H', M σ' H' → u D σ' H') : Evl.tCut t u D σ H := ⟨M, h, k⟩
theorem go_and {c e : TT} {Q : Bool → Hp → Prop} (h : c σ H fun b H1 => if b = true then e σ H1 Q else Q false H1) : tAnd c e σ H Q := h
theorem go_next (h : D.nx σ H) : tNext D σ H := h
theorem go_or {c e : TT} {Q : Bool → Hp → Prop} (h : c σ H fun b H1 => if b = true then Q true H1 else e σ H1 Q) : tOr c e σ H Q := h
theorem go_test {Q : Bool → Hp → Prop} (h : te σ H fun x H' => ∃ k, x = .bl k ∧ Q k H') : tTest te σ H Q := h
theorem go_B {Q : Bool → Hp → Prop} (h : te σ H fun x H' => ∃ k, x = .bl k ∧ Q k H') : tB te σ H Q := h
theorem go_not {c : TT} {Q : Bool → Hp → Prop} (h : c σ H fun b H1 => Q (!b) H1) : tNot c σ H Q := h
end
section
variable {te ta : TE} {tr : TA} {σ : L2.St} {H : Hp} {Q : VK} {v : V} {r : List V → Hp → VK → Prop} {QA : List V → Hp → Prop}
theorem cps (P : V → Hp → Prop) (h : ∀ Q' : VK, (∀ v H', P v H' → Q' v H') → te σ H Q') (k : ∀ v H', P v H' → Q v H') : te σ H Q := h Q k
theorem go_cb (h : tr σ H fun vs H1 => r vs H1 Q) : tCB r tr σ H Q := h
theorem go_cons (h : te σ H fun x H1 => tr σ H1 fun xs H2 => QA (x :: xs) H2) : tCons te tr σ H QA := h
theorem go_c (h : Q v H) : tC v σ H Q := h
theorem go_nil (h : QA [] H) : tNil σ H QA := h
theorem go_lst (h : tr σ H fun xs H1 => xs.length ≤ sizeLine ∧ ∀ p, H1 p = none → Q (.ref p) (upd H1 p (.lst xs))) : tLst tr σ H Q := h
theorem go_tup (h : tr σ H fun xs H1 => xs.length ≤ sizeLine ∧ ∀ p, H1 p = none → Q (.ref p) (upd H1 p (.tup xs))) : tTup tr σ H Q := h
variable {K : PySem.W.Frag} {B : List (V × D)} {tb : TE} {i j : Int}
theorem ed_max2 (h1 : EvD K B ta σ (.int i)) (h2 : EvD K B tb σ (.int j)) : EvD K B (tCB (fun xs H Q => ∃ i j, xs = [V.int i, .int j] ∧ Q (.int (if j > i then j else i)) H) (tCons ta (tCons tb tNil))) σ (.int (if j > i then j else i)) := fun H dk Γ Δ Q hb hS q =>
  h1 H dk Γ Δ _ hb hS fun v H1 Δ1 s1 hS1 d1 => h2 H1 dk Γ Δ1 _ (hb.trans s1) hS1 fun u H2 Δ2 s2 hS2 d2 => by
    obtain rfl := d1.isInt hS1
    obtain rfl := d2.isInt hS2
    exact ⟨i, j, rfl, q _ _ _ (s1.trans s2) hS2 (.int _)⟩
theorem ed_min2 (h1 : EvD K B ta σ (.int i)) (h2 : EvD K B tb σ (.int j)) : EvD K B (tCB (fun xs H Q => ∃ i j, xs = [V.int i, .int j] ∧ Q (.int (if j < i then j else i)) H) (tCons ta (tCons tb tNil))) σ (.int (if j < i then j else i)) := fun H dk Γ Δ Q hb hS q =>
  h1 H dk Γ Δ _ hb hS fun v H1 Δ1 s1 hS1 d1 => h2 H1 dk Γ Δ1 _ (hb.trans s1) hS1 fun u H2 Δ2 s2 hS2 d2 => by
    obtain rfl := d1.isInt hS1
    obtain rfl := d2.isInt hS2
    exact ⟨i, j, rfl, q _ _ _ (s1.trans s2) hS2 (.int _)⟩
end
theorem atI_m1 {α : Type} {xs : List α} {v : α} (h : xs[xs.length - 1]? = some v) : atI xs (-1) = some v := by
  obtain ⟨hl, _⟩ := List.getElem?_eq_some_iff.mp h
  have e : ixN xs.length (-1) = some (xs.length - 1) := by
    unfold ixN
    rw [if_neg (by omega), if_pos (by omega)]
    congr 1
    omega
  unfold atI
  rw [e]
  exact h
theorem St.last {K : PySem.W.Frag} {H : Hp} {dk : Dk} {Γ : List (Addr × List D)} {Δ : List (V × D)} {p : Addr} {ds : List D} {x : D} (h : St K H dk ((p, ds) :: Γ) Δ) (hx : ds[ds.length - 1]? = some x) :
    ∃ vs v, H p = some (.lst vs) ∧ atI vs (-1) = some v ∧ St K H dk ((p, ds) :: Γ) ((v, x) :: Δ) := by
  obtain ⟨vs, h1, h2, h3, _⟩ := h.look
  obtain ⟨v, h4, h5⟩ := h3 _ x hx
  exact ⟨vs, v, h1, atI_m1 (by rw [h2]; exact h4), h5⟩
section
variable {te : TE} {ta : TA} {g : TG} {tb tz : TS} {D : Ends} {σ : L2.St} {H : Hp} {wi : TI} {R : It → Hp → Prop}
/-- a loop, once it is known what is walked -/
abbrev FK (g : TG) (tb : TS) (D : Ends) (σ : L2.St) : It → Hp → Prop := fun J H1 => ∃ W : Nat → Nat → L2.St → Hp → Prop, (∃ m, W 0 m σ H1) ∧ ∀ i m σ H, W i m σ H →
  (J.stop i H ∧ D.nx σ H) ∨ (J.go i H ∧ ∃ N : L2.St → Hp → Prop, (∀ σ' H', N σ' H' → ∃ m', m' < m ∧ W (i + 1) m' σ' H') ∧ ∀ x H', J.yld i H x H' → g x σ H' fun σ2 H2 => tb { D with nx := N, ct := N, bk := D.nx } σ2 H2)
theorem go_for (h : wi σ H (FK g tb { D with nx := tz D } σ)) : tSeq (tFor wi g tb) tz D σ H := h
theorem go_rng1 (h : te σ H fun x H1 => ∃ j : Int, [x] = [V.int j] ∧ -(2 ^ 62) ≤ j ∧ j < 2 ^ 62 ∧ R (Itr 0 j.toNat) H1) : iRng1 (tCons te tNil) σ H R := h
theorem go_walkL {K : PySem.W.Frag} (h : te σ H fun x H1 => ∃ a, x = .ref a ∧ (∃ xs, SqL K H1 a xs) ∧ R (Itl K a) H1) : iList K te σ H R := h
theorem go_walkEL {K : PySem.W.Frag} (h : te σ H fun x H1 => ∃ a xs, [x] = [V.ref a] ∧ SqL K H1 a xs ∧ R (Ite K a) H1) : iEnum K (tCons te tNil) σ H R := h
end
theorem go_yes {σ : L2.St} {H : Hp} {A B : Hp → Prop} (h : A H) : tYes σ H (fun b H3 => if b = true then A H3 else B H3) := by
  show if true = true then A H else B H
  exact iteT h
section
variable {K : PySem.W.Frag} {B : List (V × D)} {σ : L2.St} {ta tb te : TE} {tr : TA} {d : D} {v : V} {H : Hp} {dk : Dk} {Γ : List (Addr × List D)} {Δ : List (V × D)} {Q : VK}
theorem Dv.isBl {b : Bool} (hS : St K H dk Γ Δ) (h : Dv Δ v (.bool b)) : v = .bl b := by
  cases hS.dp h
  rfl
theorem Dv.isStr {x : Str} (hS : St K H dk Γ Δ) (h : Dv Δ v (.str x)) : v = .str x := by
  cases hS.dp h
  rfl
theorem Dv.isNon (hS : St K H dk Γ Δ) (h : Dv Δ v .none) : v = .non := by
  cases hS.dp h
  rfl
/-- a list or a tuple -/
def Disp : D → Prop
  | .list _ => True
  | .tuple _ => True
  | _ => False
theorem Dv.isRef (hS : St K H dk Γ Δ) (h : Dv Δ v d) (hd : Disp d) : ∃ a, v = .ref a := by
  have g := hS.dp h
  cases d with
  | list ds => cases g; exact ⟨_, rfl⟩
  | tuple ds => cases g; exact ⟨_, rfl⟩
  | none => exact hd.elim
  | bool b => exact hd.elim
  | int i => exact hd.elim
  | str x => exact hd.elim
  | dict x => exact hd.elim
theorem ed_repr {n k : Nat} (h : EvD K B te σ d) (hd : Disp d) (sm : Sm n k d) (hn : n ≤ 16000000) (hk : k ≤ 60) : EvD K B (tCB (rRepr K) (tCons te tNil)) σ (.str d.shown) := fun H dk Γ Δ Q hb hS q =>
  h H dk Γ Δ _ hb hS fun v H1 Δ1 s1 hS1 d1 => by
    obtain ⟨a, rfl⟩ := d1.isRef hS1 hd
    exact ⟨a, d, rfl, hS1.dp d1, sm.show_, Nat.le_trans sm.deep hk, Nat.le_trans sm.long (Nat.le_trans hn (by decide)), q _ _ _ s1 hS1 (.str _)⟩
theorem ed_neS {x y : Str} (h1 : EvD K B ta σ (.str x)) (h2 : EvD K B tb σ (.str y)) : EvD K B (tOp rNe ta tb) σ (.bool (!decide (x = y))) := fun H dk Γ Δ Q hb hS q =>
  h1 H dk Γ Δ _ hb hS fun v H1 Δ1 s1 hS1 d1 => h2 H1 dk Γ Δ1 _ (hb.trans s1) hS1 fun u H2 Δ2 s2 hS2 d2 => by
    obtain rfl := d1.isStr hS1
    obtain rfl := d2.isStr hS2
    have e : decide (V.str x = V.str y) = decide (x = y) := decide_eq_decide.mpr ⟨fun h => V.str.inj h, fun h => by rw [h]⟩
    refine ⟨rfl, ?_⟩
    rw [e]
    exact q _ _ _ (s1.trans s2) hS2 (.bl _)
theorem ed_neB {x y : Bool} (h1 : EvD K B ta σ (.bool x)) (h2 : EvD K B tb σ (.bool y)) : EvD K B (tOp rNe ta tb) σ (.bool (!decide (x = y))) := fun H dk Γ Δ Q hb hS q =>
  h1 H dk Γ Δ _ hb hS fun v H1 Δ1 s1 hS1 d1 => h2 H1 dk Γ Δ1 _ (hb.trans s1) hS1 fun u H2 Δ2 s2 hS2 d2 => by
    obtain rfl := d1.isBl hS1
    obtain rfl := d2.isBl hS2
    have e : decide (V.bl x = V.bl y) = decide (x = y) := decide_eq_decide.mpr ⟨fun h => V.bl.inj h, fun h => by rw [h]⟩
    refine ⟨rfl, ?_⟩
    rw [e]
    exact q _ _ _ (s1.trans s2) hS2 (.bl _)
theorem ed_notB {x y : Bool} (h1 : EvD K B ta σ (.bool x)) (h2 : EvD K B tb σ (.bool y)) : EvD K B (tOp rNotB ta tb) σ (.bool (!decide (x = y))) := fun H dk Γ Δ Q hb hS q =>
  h1 H dk Γ Δ _ hb hS fun v H1 Δ1 s1 hS1 d1 => h2 H1 dk Γ Δ1 _ (hb.trans s1) hS1 fun u H2 Δ2 s2 hS2 d2 => by
    obtain rfl := d1.isBl hS1
    obtain rfl := d2.isBl hS2
    exact ⟨x, y, rfl, rfl, q _ _ _ (s1.trans s2) hS2 (.bl _)⟩
/-- a test that is worth a known truth value -/
theorem EvD.test {b : Bool} {Q : Bool → Hp → Prop} (h : EvD K B te σ (.bool b)) (hb : Sub B Δ) (hS : St K H dk Γ Δ) (q : ∀ H', St K H' dk Γ Δ → Q b H') : tTest te σ H Q :=
  h H dk Γ Δ _ hb hS fun v H1 Δ1 s1 hS1 d1 => by
    obtain rfl := d1.isBl hS1
    exact ⟨b, rfl, q H1 (hS1.weaken s1)⟩
theorem EvD.testB {b : Bool} {Q : Bool → Hp → Prop} (h : EvD K B te σ (.bool b)) (hb : Sub B Δ) (hS : St K H dk Γ Δ) (q : ∀ H', St K H' dk Γ Δ → Q b H') : tB te σ H Q := EvD.test h hb hS q
/-- arguments -/
theorem EvDs.go {ds : List D} {Q : List V → Hp → Prop} (h : EvDs K B tr σ ds) (hb : Sub B Δ) (hS : St K H dk Γ Δ) (q : ∀ vs H' Δ', Sub Δ Δ' → St K H' dk Γ Δ' → DvAll Δ' vs ds → Q vs H') : tr σ H Q := h H dk Γ Δ Q hb hS q
end
end EE

namespace EE
open PySem PySem.Spec PyProof.Rows L2
/-! ### math.lcm of great ints -/
def rLcm : List V → Hp → VK → Prop := fun vs H Q => ∃ a b : Int, vs = [.int a, .int b] ∧ a.natAbs < 2 ^ 12000 ∧ b.natAbs < 2 ^ 12000 ∧ Q (.int ((Nat.lcm a.natAbs b.natAbs : Nat) : Int)) H
theorem cr_lcm {X : Cx} : CallR X (.builtin "math.lcm") rLcm := by
  intro pins s σ H vs us Q I r h
  obtain ⟨a, b, rfl, ha, hb, q⟩ := h
  obtain ⟨t, u, rfl⟩ := Vals.int2 r
  have hp : 1 < 2 ^ 12000 := Nat.one_lt_two_pow (by decide)
  have h1 : (max 1 a.natAbs).log2 ≤ 11999 := PySem.W.mg_log (k := 11999) (Nat.max_lt.mpr ⟨hp, ha⟩)
  have h2 : (max a.natAbs b.natAbs).log2 ≤ 11999 := PySem.W.mg_log (k := 11999) (Nat.max_lt.mpr ⟨ha, hb⟩)
  have h3 : ((((Nat.lcm 1 a.natAbs).lcm b.natAbs : Nat) : Int)).natAbs.log2 < bitsLine := by
    rw [Int.natAbs_natCast, PySem.W.mc_lcm_one]
    refine PySem.W.mc_size (k := 375) ?_ (by decide)
    refine Nat.le_trans (PySem.W.mc_lcm_le _ _) (Nat.le_trans (Nat.mul_le_mul (Nat.le_of_lt ha) (Nat.le_of_lt hb)) ?_)
    rw [← Nat.pow_add]
    exact Nat.pow_le_pow_right (by decide) (by decide)
  refine PySem.call_function_meets PySem.W.MGF.kind_lcm PySem.W.MGF.plain_lcm PySem.W.MGF.entry_lcm (PySem.W.MGF.args_lcm _ _) (PySem.W.mg_run_lcm a t b u (by omega) (by omega) h3).meets ?_
  rw [PySem.W.mc_lcm_one]
  exact ⟨.int _, H, I.tok _, ⟨_, rfl⟩, q⟩
/-! ### repr of a truth value -/
theorem call_repr_bool {X : Cx} : CallR X (.builtin "repr") (fun xs H Q => ∃ b, xs = [.bl b] ∧ Q (.str (if b then "True" else "False")) H) := by
  intro pins s σ H xs us Q I r h
  obtain ⟨b, rfl, q⟩ := h
  obtain ⟨u, rfl, r1⟩ := vals1 r
  cases r1
  exact PySem.P.repr_of_bool ⟨.str _, H, I.tok _, ⟨_, rfl⟩, q⟩
/-! ### defs that may raise -/
structure FdX (P : Program) (w : World) (K : PySem.W.Frag) (mg : Str → Option Value) (base : Heap) (x : Str) (k : Nat) (ps : List Str) (sp : Sp) : Prop where
  ex : ∃ (f : Addr) (fd : FuncData), FnOk P w K mg base (L2.CX P w) k f fd ps sp ∧ mg x = some (.ref f) ∧ PySem.W.keepIn K (.ref f) = true ∧ Binds K fd ps []
structure FkX (P : Program) (w : World) (K : PySem.W.Frag) (mg : Str → Option Value) (base : Heap) (x : Str) (k : Nat) (ps ks : List Str) (gV : List V → List V) (sp : Sp) : Prop where
  ex : ∃ (f : Addr) (fd : FuncData) (g : List Value → List Value), FnOk P w K mg base (L2.CX P w) k f fd ps sp ∧ mg x = some (.ref f) ∧ PySem.W.keepIn K (.ref f) = true ∧ KB fd K ps ks g gV
section
variable {P : Program} {w : World} {K : PySem.W.Frag} {mg : Str → Option Value} {base : Heap}
theorem FdX.mk' {x qual : Str} {st : Stmt} {f : Addr} {fd : FuncData} {k : Nat} {ps : List Str} {sp : Sp} (F : Fun K x qual st f fd) (G : FnOk P w K mg base (L2.CX P w) k f fd ps sp) (hm : mg x = some (.ref f)) (hb : Binds K fd ps []) : FdX P w K mg base x k ps sp :=
  ⟨f, fd, G, hm, F.kp, hb⟩
end
section
variable {X : Cx} {k : Nat} {ps ks : List Str} {gV : List V → List V} {sp : Sp} {x : Str} {p pos : Pos} {e : Expr} {es : List Expr} {t : TA} {kws : List Keyword} {tk : TA} {E : L2.St → XK}
theorem pe_fdX (F : FdX X.prog X.w X.K X.mg X.base x k ps sp) (hr : Room k X.A) (hg : Gl X x) (hx : ∀ σ, PassesAt (L2.CX X.prog X.w) X σ (E σ)) (ha : PA X (e :: es) t) (hdb : (x == ("__debug__" : Str)) = false := by decide) (he : starEach (e :: es) X.env = (false, eval e X.env) :: starEach es X.env := by rfl)
    (hpl : (backTo pos (starEach es X.env)).any (·.1) = false := by rfl) : PE X (.Call (.Name x p) (e :: es) [] pos) (tCallS sp E t) := by
  obtain ⟨f, fd, G, hm, hk, hb⟩ := F.ex
  exact pe_callS G hr hg hm hk hb hx ha hdb he hpl
def tCallKS (sp : Sp) (gV : List V → List V) (E : L2.St → XK) (tk : TA) : TE := fun σ H Q => tk σ H fun zs H2 => sp (gV zs) H2 Q (E σ)
theorem pe_fkX (F : FkX X.prog X.w X.K X.mg X.base x k ps ks gV sp) (hr : Room k X.A) (hg : Gl X x) (hx : ∀ σ, PassesAt (L2.CX X.prog X.w) X σ (E σ)) (hkw : PK X kws tk) (hall : (backToKw pos (keywordEach kws X.env)).all (·.1.isSome) = true := by rfl) (hks : (backToKw pos (keywordEach kws X.env)).filterMap (·.1) = ks := by rfl)
    (hdb : (x == ("__debug__" : Str)) = false := by decide) (hpl : ((backTo pos (starEach [] X.env)).any (·.1) || (backToKw pos (keywordEach kws X.env)).any (·.1.isNone)) = false := by rfl) :
    PE X (.Call (.Name x p) [] kws pos) (tCallKS sp gV E tk) := by
  obtain ⟨f, fd, g, G, hm, hk, hb⟩ := F.ex
  refine ⟨fun pins s σ H Q I h => wpAny_Call_Name_kw (ld_glob I hg hm ?_ hdb)⟩
  refine PySem.W.callWith_KW0 (h₀ := X.base) (first := []) I.ok.mod.kin hk hall (thn (hkw.run pos pins s σ H _ I h) fun ws s2 q => ?_) hpl
  obtain ⟨zs, H2, I2, rz, q2⟩ := q
  refine ⟨I2.kIn, ?_⟩
  rw [hks]
  have r2 := hb.rel rz
  have hl : (g ws).length = ps.length := by
    rw [← r2.length]
    exact G.len _ _ _ _ q2
  refine wpAny_call (codeAny_mono (G.run X.A X.stack s2 H2 ⟨[], ks.zip ws⟩ (g ws) (gV zs) Q (E σ) hr I2.env0 (hb.to s2 ws I2.kIn hl) r2 q2) fun r s' hq => ?_)
  cases r with
  | error e => exact hx σ pins H2 s2 e s' I2 hq
  | ok fl =>
    cases fl with
    | ret u => exact I2.after hq
    | next => exact False.elim hq
    | brk => exact False.elim hq
    | cont => exact False.elim hq
end
/-! ### raise C() -/
section
variable {X : Cx} {C : Addr} {bmB : List Value} {B newId initId : String}
theorem pmk_own0 {x : Str} {p pos : Pos} (F : ExcBaseFacts B newId initId bmB) (q : PySem.W.excIn X.K C bmB newId = true) (gC : X.mg x = some (.ref C)) (kC : PySem.W.keepIn X.K (.ref C) = true) (r : Raises X (.ref C)) (hg : Gl X x)
    (hdb : (x == ("__debug__" : Str)) = false := by decide) : PMk X (.Call (.Name x p) [] [] pos) (fun _ H Q => Q (.ref C) none H) := by
  intro pins s σ H Q I h
  refine wpAny_Call_Name_kw (ld_glob I hg gC ?_ hdb)
  refine PySem.W.callWith_K0 I.kIn kC ?_
  show wpAny _ _ (call (.ref C) []) _ _ _
  obtain ⟨bm, N, nm, qn, bs, hdct, sn, sub, ab, col, dd, k0, k1, k2, k3, k5, mN, hC, hN, hni, T⟩ := exc_obj I.kIn q
  refine wpAny_call_exc_subT F T hC hN hni (fun h' e hm => ?_) (by show 0 ≤ sizeLine; rw [sizeLine_eq]; omega)
  exact mk_of I hm r h (I.hok.gone hm.new)
end
/-! ### the name of a def as a value -/
section
variable {X : Cx} {k : Nat} {ps : List Str} {sp : Sp} {x : Str} {pos : Pos}
theorem pe_fn {f : Addr} (hm : X.mg x = some (.ref f)) (hg : Gl X x) (hd : (x == ("__debug__" : Str)) = false := by decide) : PE X (.Name x pos) (tC (.ref f)) := pe_glob hg hm rfl hd
end
end EE
namespace EE
open PySem PySem.Spec PyProof.Rows L2
/-- an error of the class at S is what «except S» names -/
theorem exm_self {K : PySem.W.Frag} {S : Addr} (h1 : PySem.W.subIn K (.ref S) (.type "BaseException") = some true) (h2 : PySem.W.isClsIn K S = true) (h3 : PySem.W.typeIn K (.ref S) = some (.type "type")) (h4 : PySem.W.subIn K (.ref S) (.ref S) = some true) :
    PySem.W.exmOne K (.ref S) (.ref S) = some true := by
  have e1 : (PySem.W.subIn K (.ref S) (.type "BaseException") == some true) = true := by rw [h1] <;> rfl
  have e2 : ((PySem.W.clsIn K S).isSome && PySem.W.typeIn K (.ref S) == some (.type "type")) = true := by
    have h2' : (PySem.W.clsIn K S).isSome = true := h2
    rw [h2', h3] <;> rfl
  show (if (PySem.W.subIn K (.ref S) (.type "BaseException") == some true) = true then (if ((PySem.W.clsIn K S).isSome && PySem.W.typeIn K (.ref S) == some (.type "type")) = true then PySem.W.subIn K (.ref S) (.ref S) else none) else none) = some true
  rw [if_pos e1, if_pos e2]
  exact h4
/-- isinstance of the error that an except suite holds -/
def rIsE2 (K : PySem.W.Frag) (a : Addr) (cls : Value) (d : Option Addr) : List V → Hp → VK → Prop := fun xs H Q => ∃ D, cls = .ref D ∧ d = none ∧ ExcC K D ∧ rIsE K D a xs H Q
theorem call_isE2 {X : Cx} {a : Addr} {cls : Value} {d : Option Addr} {oe : Obj} {pn : List (Addr × Obj)} (hz : Zc cls d oe) (hf : ∃ vs, oe.data = .fields vs) : CallR (X.suite a ((a, oe) :: pn)) (.builtin "isinstance") (rIsE2 X.K a cls d) := by
  intro pins s σ H xs us Q I r h
  obtain ⟨D, rfl, rfl, C, h⟩ := h
  exact call_isE C hz hf pins s σ H xs us Q I r h
/-- a tuple's type -/
theorem ty_tup {K : PySem.W.Frag} {H : Hp} {a : Addr} {xs : List V} (h : SqT K H a xs) : TyX K H (.ref a) (.type "tuple") := by
  rcases h with (h | ⟨o, h⟩) | ⟨o, us, n, h, hc, _⟩
  · exact .base (.tup h)
  · exact .fTuple h
  · exact .kTuple h hc
end EE
namespace EE
open PySem PySem.Spec PyProof.Rows L2
section
variable {K : PySem.W.Frag} {B : List (V × D)} {σ : L2.St} {ta tb te : TE} {tr : TA} {d : D} {v : V} {i j : Int}
theorem dec_vI {a b : Int} : decide (V.int a = V.int b) = decide (a = b) := decide_eq_decide.mpr ⟨fun h => V.int.inj h, fun h => by rw [h]⟩
theorem dec_vS {a b : Str} : decide (V.str a = V.str b) = decide (a = b) := decide_eq_decide.mpr ⟨fun h => V.str.inj h, fun h => by rw [h]⟩
theorem ed_eqI (h1 : EvD K B ta σ (.int i)) (h2 : EvD K B tb σ (.int j)) : EvD K B (tOp rEq ta tb) σ (.bool (decide (i = j))) := fun H dk Γ Δ Q hb hS q =>
  h1 H dk Γ Δ _ hb hS fun v H1 Δ1 s1 hS1 d1 => h2 H1 dk Γ Δ1 _ (hb.trans s1) hS1 fun u H2 Δ2 s2 hS2 d2 => by
    obtain rfl := d1.isInt hS1
    obtain rfl := d2.isInt hS2
    refine ⟨rfl, ?_⟩
    rw [dec_vI]
    exact q _ _ _ (s1.trans s2) hS2 (.bl _)
theorem ed_eqS {x y : Str} (h1 : EvD K B ta σ (.str x)) (h2 : EvD K B tb σ (.str y)) : EvD K B (tOp rEq ta tb) σ (.bool (decide (x = y))) := fun H dk Γ Δ Q hb hS q =>
  h1 H dk Γ Δ _ hb hS fun v H1 Δ1 s1 hS1 d1 => h2 H1 dk Γ Δ1 _ (hb.trans s1) hS1 fun u H2 Δ2 s2 hS2 d2 => by
    obtain rfl := d1.isStr hS1
    obtain rfl := d2.isStr hS2
    refine ⟨rfl, ?_⟩
    rw [dec_vS]
    exact q _ _ _ (s1.trans s2) hS2 (.bl _)
theorem ed_ixL {ds : List D} {n : Nat} (h : EvD K B ta σ (.list ds)) (e : ds[n]? = some d) : EvD K B (tOp (rIxL K) ta (tC (.int (n : Int)))) σ d := fun H dk Γ Δ Q hb hS q =>
  h H dk Γ Δ _ hb hS fun v H1 Δ1 s1 hS1 d1 => by
    obtain ⟨a, rfl⟩ := d1.isRef hS1 trivial
    have hS2 := hS1.also d1
    obtain ⟨us, hL, hlen, Δ2, rfl, hS3, hv⟩ := hS2.lstAt (List.mem_cons_self ..)
    obtain ⟨w, e1, e2⟩ := dvs_at hv e
    exact ⟨a, us, n, w, rfl, rfl, hL, atI_nat e1, q w H1 _ (fun x hx => List.mem_append_right _ (List.mem_cons_of_mem _ (s1 x hx))) hS3 e2⟩
theorem ed_reprB {b : Bool} (h : EvD K B te σ (.bool b)) : EvD K B (tCB (fun xs H Q => ∃ b, xs = [V.bl b] ∧ Q (.str (if b then "True" else "False")) H) (tCons te tNil)) σ (.str (if b then "True" else "False")) := fun H dk Γ Δ Q hb hS q =>
  h H dk Γ Δ _ hb hS fun v H1 Δ1 s1 hS1 d1 => by
    obtain rfl := d1.isBl hS1
    exact ⟨b, rfl, q _ _ _ s1 hS1 (.str _)⟩
theorem ed_notN0 (h : EvD K B te σ .none) : EvD K B (tOp (fun x y H Q => y = .non ∧ Q (.bl (!decide (x = .non))) H) te (tC .non)) σ (.bool false) := fun H dk Γ Δ Q hb hS q =>
  h H dk Γ Δ _ hb hS fun v H1 Δ1 s1 hS1 d1 => by
    obtain rfl := d1.isNon hS1
    exact ⟨rfl, q _ _ _ s1 hS1 (.bl _)⟩
end
end EE
namespace EE
open PySem PySem.Spec PyProof.Rows L2
/-- isinstance by an own class above -/
theorem kit_own {K : PySem.W.Frag} {t : Value} {S : Addr} (h2 : PySem.W.isClsIn K S = true) (h3 : PySem.W.typeIn K (.ref S) = some (.type "type")) (h4 : PySem.W.subIn K t (.ref S) = some true) : PySem.W.kitOne K t (.ref S) = some true := by
  have h2' : (PySem.W.clsIn K S).isSome = true := h2
  have e2 : ((PySem.W.clsIn K S).isSome && PySem.W.typeIn K (.ref S) == some (.type "type")) = true := by
    rw [h2', h3] <;> rfl
  unfold PySem.W.kitOne
  split
  · rfl
  · show (if ((PySem.W.clsIn K S).isSome && PySem.W.typeIn K (.ref S) == some (.type "type")) = true then PySem.W.subIn K t (.ref S) else none) = some true
    rw [if_pos e2]
    exact h4
end EE

namespace SrtO
open PySem PyProof.Rows Srt
section
variable {prog : Program} {w : World} {A : Around} {E : Value → Shared → Prop} {s : Shared}
theorem collect_tup {l : Addr} {vs : List Value} {Q : List Value → Shared → Prop} (hl : IsTup s.heap l vs.toArray)
    (h : Q vs { s with heap := (s.heap.push (seqObj "list" #[] 0)).update s.heap.objs.size (Obj.mapSeq (· ++ vs.toArray)) }) (hsz : vs.length ≤ sizeLine) :
    wpAny (model prog w) A (collect (.ref l)) Q E s := by
  obtain ⟨o, ho, hc, n, hd⟩ := id hl
  unfold collect
  refine wpAny_bind (wpAny_runValue (codeAny_builtin entry_proto_collect' ?_))
  show wpAny _ _ (do again (.builtin "list.__iadd__" ⟨[← newList [], .ref l], []⟩)) _ _ s
  refine wpAny_bind (wpAny_newList (wpAny_pure ⟨Code.quiet_builtin _ (by decide +kernel), codeAny_builtin entry_list_iadd' ?_⟩))
  show wpAny _ _ (Builtin.List.listExtendWith (.ref s.heap.objs.size) (.ref l) (.ref s.heap.objs.size)) _ _ { s with heap := s.heap.push (seqObj "list" #[] 0) }
  unfold Builtin.List.listExtendWith
  have ho' : (s.heap.push (seqObj "list" #[] 0)).get? l = some o := Heap.get?_push_of_some _ ho
  refine wpAny_bind (wpAny_typeOf (T := "tuple") ⟨o, ho', hc⟩ ?_)
  have ht : (Value.type "tuple" == Value.type "tuple") = true := by rfl
  rw [if_pos (by rw [ht]; simp)]
  refine wpAny_bind (listItems_at ho' hd ?_)
  refine wpAny_bind (listItems_at (xs := #[]) (n := 0) (Heap.get?_push_size _ rfl) rfl ?_)
  rw [if_neg (by simp)]
  refine wpAny_bind (listUpdate_at (xs := #[]) (n := 0) (Heap.get?_push_size _ rfl) rfl ?_ (Nat.zero_le _) (by show (#[] ++ vs.toArray).size ≤ sizeLine + 1; simp only [Array.size_append, List.size_toArray, List.length_nil]; omega))
  refine wpAny_pure ?_
  show wpAny (model prog w) A (do
      let o ← load s.heap.objs.size
      match o.data with
      | .seq xs _ => pure xs.toList
      | _ => unsupported "internal:collect") Q E { s with heap := (s.heap.push (seqObj "list" #[] 0)).update s.heap.objs.size (Obj.mapSeq (· ++ vs.toArray)) }
  refine wpAny_bind (wpAny_load (get?_update_seq (Heap.get?_push_size _ rfl) _) ?_)
  show wpAny _ _ (pure ((#[] : Array Value) ++ vs.toArray).toList) Q E _
  rw [show ((#[] : Array Value) ++ vs.toArray).toList = vs by simp]
  exact wpAny_pure h
theorem sorted_ordT {l : Addr} {vs : List Value} {ltv : Value → Value → Bool} {Q : Value → Shared → Prop} (O : Swo ltv) (hl : IsTup s.heap l vs.toArray) (hz : vs.length ≤ sizeLine)
    (hS : 2 ≤ vs.length → ∀ (h₁ : Heap) (a : Addr), h₁.get? a = some (seqObj "list" vs.toArray 0) → (∀ b o, s.heap.get? b = some o → b ≠ a ∧ h₁.get? b = some o) → SortableO prog w A.in1.in1 { s with heap := h₁ } a vs ltv)
    (h : ∀ out : List Value, Srtd ltv out → Stb ltv out vs → Q (.ref (s.heap.objs.size + 1)) { s with heap := sortedAll s.heap vs out.toArray }) :
    wpAny (model prog w) A (call (.builtin "sorted") [.ref l]) Q E s := by
  refine Calls.call_function_entry kind_sorted plain_sorted entry_sorted (args_sorted1 _) ?_
  unfold Builtin.«sorted»
  refine wpAny_bind (m := checkCount "sorted" 1 1 _) (wpAny_pure ?_)
  refine wpAny_bind (collect_tup hl ?_ hz)
  refine wpAny_bind (wpAny_newList ?_ hz)
  have hsz : ((s.heap.push (seqObj "list" #[] 0)).update s.heap.objs.size (Obj.mapSeq (· ++ vs.toArray))).objs.size = s.heap.objs.size + 1 := by
    rw [Heap.size_update, size_push']
  have hoL : (((s.heap.push (seqObj "list" #[] 0)).update s.heap.objs.size (Obj.mapSeq (· ++ vs.toArray))).push (seqObj "list" vs.toArray 0)).get? (s.heap.objs.size + 1) = some (seqObj "list" vs.toArray 0) := by
    rw [← hsz]; exact Heap.get?_push_size _ rfl
  have keep : ∀ b o, s.heap.get? b = some o → b ≠ s.heap.objs.size + 1 ∧ (((s.heap.push (seqObj "list" #[] 0)).update s.heap.objs.size (Obj.mapSeq (· ++ vs.toArray))).push (seqObj "list" vs.toArray 0)).get? b = some o := fun b o q => by
    have hlt : b < s.heap.objs.size := Heap.lt_size q
    refine ⟨Nat.ne_of_lt (Nat.lt_succ_of_lt hlt), Heap.get?_push_of_some _ ?_⟩
    rw [Heap.get?_update_ne _ _ _ _ (Nat.ne_of_lt hlt)]
    exact Heap.get?_push_of_some _ q
  show wpAny _ _ _ _ _ { s with heap := ((s.heap.push (seqObj "list" #[] 0)).update s.heap.objs.size (Obj.mapSeq (· ++ vs.toArray))).push (seqObj "list" vs.toArray 0) }
  rw [hsz]
  refine wpAny_bind (wpAny_holding (wpAny_call_entry slot_list_sort ⟨_, hoL, rfl⟩ entry_list_sort (list_sort_ord O hoL hz (fun h2 => hS h2 _ _ hoL keep) fun out hs hb => ⟨_, rfl, ?_⟩) (args_list_sort _)))
  exact wpAny_pure ⟨_, rfl, h out hs hb⟩
theorem sorted_pairsT {l : Addr} {vs : List Value} {k : Value → Int × Int} {Q : Value → Shared → Prop} (hl : IsTup s.heap l vs.toArray) (hz : vs.length ≤ sizeLine) (hp : ∀ v ∈ vs, IsPair s.heap v (k v).1 (k v).2)
    (h : ∀ (h' : Heap) (d : Addr) (out : List Value), Srtd (fun v u => lexB (k v) (k u)) out → Stb (fun v u => lexB (k v) (k u)) out vs → (∀ b o, s.heap.get? b = some o → h'.get? b = some o) → s.heap.objs.size ≤ d → (∃ n, h'.get? d = some (seqObj "list" out.toArray n)) → Q (.ref d) { s with heap := h' }) :
    wpAny (model prog w) A (call (.builtin "sorted") [.ref l]) Q E s := by
  refine sorted_ordT (swo_lex k) hl hz (fun h2 h₁ a ha kk => ?_) fun out hs hb => ?_
  · refine pairs_sortableO (s := { s with heap := h₁ }) (by omega) (fun v hm => (hp v hm).keeps fun b o e _ => (kk b o e).2) fun o e => ?_
    have e' : some o = some (seqObj "list" vs.toArray 0) := e.symm.trans ha
    cases e'
    intro c
    exact absurd (Value.type.inj c) (by decide)
  · exact h _ _ out hs hb (fun b o e => sortedAll_old e) (Nat.le_succ _) (sortedAll_at s.heap vs out.toArray)
end
end SrtO
namespace EE
open PySem PySem.Spec PyProof.Rows L2
/-- the two ints that a tuple holds -/
def pairAt (h : Heap) : Value → Int × Int
  | .ref t => match h.get? t with
    | some o => match o.data with
      | .seq its _ => match its.toList with
        | [.int i _, .int j _] => (i, j)
        | _ => (0, 0)
      | _ => (0, 0)
    | none => (0, 0)
  | _ => (0, 0)
/-- sorted(xs), xs a tuple of pairs of ints -/
def rSortedTP (K : PySem.W.Frag) : List V → Hp → VK → Prop := fun vs H Q => ∃ (a : Addr) (xs : List V) (rs : List (Int × Int)), vs = [V.ref a] ∧ SqT K H a xs ∧ xs.length = rs.length ∧ (∀ p ∈ xs.zip rs, ∃ t, p.1 = V.ref t ∧ SqT K H t [.int p.2.1, .int p.2.2]) ∧
  ∀ ys rs' p, ys.length = rs'.length → (ys.zip rs').Perm (xs.zip rs) → rs'.Pairwise (fun x y => SrtO.lexB y x = false) → H p = none → Q (.ref p) (upd H p (.lst ys))
theorem zip_map {α β γ : Type} (f : α → β) (g : α → γ) : ∀ l : List α, (l.map f).zip (l.map g) = l.map fun x => (f x, g x)
  | [] => rfl
  | x :: l => by rw [List.map_cons, List.map_cons, List.zip_cons_cons, zip_map f g l, List.map_cons]
theorem cr_sortedTP {X : Cx} : CallR X (.builtin "sorted") (rSortedTP X.K) := by
  intro pins s σ H vs us Q I r h
  obtain ⟨a, xs, rs, rfl, hs, hlen, hx, q⟩ := h
  obtain ⟨its, rv, hl, hz⟩ := I.tuple hs
  obtain ⟨u, rfl, ru⟩ := vals1 r
  obtain rfl : u = Value.ref a := ru
  have hxr : ∀ x ∈ xs, ∃ t, x = V.ref t := fun x m => by
    obtain ⟨i, hi, e⟩ := List.mem_iff_getElem.mp m
    have hm : (xs[i], rs[i]'(by omega)) ∈ xs.zip rs := by
      have : (xs.zip rs)[i]'(by rw [List.length_zip]; omega) = (xs[i], rs[i]'(by omega)) := List.getElem_zip
      rw [← this]
      exact List.getElem_mem _
    obtain ⟨t, e2, _⟩ := hx _ hm
    exact ⟨t, e.symm.trans e2⟩
  obtain ⟨e1, e2⟩ := refs_back rv hxr
  -- what the heap says
  have look : ∀ p ∈ xs.zip rs, ∃ t, p.1 = V.ref t ∧ pairAt s.heap (.ref t) = p.2 ∧ Srt.IsPair s.heap (.ref t) p.2.1 p.2.2 := fun p hp => by
    obtain ⟨t, et, ht⟩ := hx p hp
    obtain ⟨its2, r2, ⟨o, ho, hc, n, hd⟩, _⟩ := I.tuple ht
    obtain ⟨u1, u2, rfl, ri, rj⟩ := vals2 r2
    obtain ⟨t1, rfl⟩ := ri
    obtain ⟨t2, rfl⟩ := rj
    refine ⟨t, et, ?_, ⟨t, o, t1, t2, n, rfl, ho, hc, hd⟩⟩
    show (match s.heap.get? t with
      | some o => match o.data with
        | .seq its _ => match its.toList with
          | [.int i _, .int j _] => (i, j)
          | _ => (0, 0)
        | _ => (0, 0)
      | none => (0, 0)) = p.2
    rw [ho]
    show (match o.data with
        | .seq its _ => match its.toList with
          | [.int i _, .int j _] => (i, j)
          | _ => (0, 0)
        | _ => ((0, 0) : Int × Int)) = p.2
    rw [hd]
  have hlv : its.length = rs.length := by rw [← rv.length]; exact hlen
  have zi : ∀ i (h1 : i < its.length), ∃ t, its[i] = Value.ref t ∧ pairAt s.heap its[i] = rs[i]'(by omega) ∧ Srt.IsPair s.heap its[i] (rs[i]'(by omega)).1 (rs[i]'(by omega)).2 := fun i h1 => by
    have hxl : i < xs.length := by omega
    have hm : (xs[i], rs[i]'(by omega)) ∈ xs.zip rs := by
      have : (xs.zip rs)[i]'(by rw [List.length_zip]; omega) = (xs[i], rs[i]'(by omega)) := List.getElem_zip
      rw [← this]
      exact List.getElem_mem _
    obtain ⟨t, et, p1, p2⟩ := look _ hm
    obtain ⟨t', et'⟩ := e2 _ (List.getElem_mem h1)
    have : xs[i] = backV its[i] := by
      have := congrArg (fun l : List V => l[i]?) e1
      simpa [hxl, h1] using this
    rw [et'] at this
    have e3 : V.ref t = V.ref t' := et.symm.trans this
    cases e3
    rw [et']
    exact ⟨t, rfl, p1, p2⟩
  have er : rs = its.map (pairAt s.heap) := by
    refine List.ext_getElem (by rw [List.length_map]; omega) fun i h1 h2 => ?_
    rw [List.getElem_map]
    obtain ⟨_, _, e, _⟩ := zi i (by omega)
    exact e.symm
  have ez : xs.zip rs = its.map fun u => (backV u, pairAt s.heap u) := by
    rw [e1, er, zip_map]
  refine SrtO.sorted_pairsT (k := pairAt s.heap) hl (by rw [← rv.length]; exact hz) (fun v hv => ?_) fun h' d out h1 h2 kp hd hn => ?_
  · obtain ⟨i, hi, e⟩ := List.mem_iff_getElem.mp hv
    obtain ⟨_, _, e3, e4⟩ := zi i hi
    rw [← e, e3]
    exact e4
  · have h3 : ∀ u ∈ out, ∃ a, u = Value.ref a := fun u hu => e2 u (h2.perm.mem_iff.mp hu)
    obtain ⟨n, hn⟩ := hn
    refine ⟨.ref d, upd H d (.lst (out.map backV)), I.laid (t' := s.toks) kp hd ⟨?_, out, n, vals_back h3, hn⟩, rfl, q _ (out.map (pairAt s.heap)) d (by rw [List.length_map, List.length_map]) ?_ (List.pairwise_map.mpr h1) (I.hok.fresh hd)⟩
    · rw [List.length_map, h2.perm.length_eq, ← rv.length]
      exact hz
    · rw [zip_map, ez]
      exact h2.perm.map _
end EE

namespace EE
open PySem PySem.Spec PyProof.Rows L2
/-! ### the mathematics -/
abbrev Rule := Int × Int
def ruleD (r : Rule) : D := .tuple [.int r.1, .int r.2]
def scaleD (rs : List Rule) : D := .tuple (rs.map ruleD)
def fitR (r : Rule) (n : Int) : Bool := decide ((if n < 0 then -n else n) ≤ r.1) || (!decide (r.2 = 0) && decide (n % r.2 = 0))
def fitsAll (rs : List Rule) (n : Int) : Bool := rs.all fun r => fitR r n
def sp_law_deck (K : PySem.W.Frag) : Sp := fun vs H Q _ => ∃ (a : Addr) (ns : List Int), vs = [.ref a] ∧ SqL K H a (ns.map V.int) ∧ ns.length ≤ 63 ∧ ∀ H' d l, St K H' (some (d, l)) [] [] → Q (.ref d) H'
def sp_law_draw (K : PySem.W.Frag) : Sp := fun vs H Q _ => ∃ (d l : Addr) (m : Int) (Γ : List (Addr × List D)) (Δ : List (V × D)), vs = [.ref d, .int m] ∧ St K H (some (d, l)) Γ Δ ∧ m.natAbs < 2 ^ 8000 ∧
  ∀ H' r, St K H' (some (d, l)) Γ Δ → 0 ≤ r → (r < m ∨ r = 0) → Q (.int r) H'
def sp_law_pick (K : PySem.W.Frag) : Sp := fun vs H Q _ => ∃ (d l a : Addr) (ds : List D) (Γ : List (Addr × List D)) (Δ : List (V × D)), vs = [.ref d, .ref a] ∧ St K H (some (d, l)) Γ Δ ∧ (V.ref a, PyData.list ds) ∈ Δ ∧ ds ≠ [] ∧ ds.length ≤ 10000 ∧
  ∀ H' v x, x ∈ ds → St K H' (some (d, l)) Γ ((v, x) :: Δ) → Q v H'
/-! ### draws and picks as steps -/
section
variable {K : PySem.W.Frag} {B : List (V × D)} {σ : L2.St} {H : Hp} {d l : Addr} {Γ : List (Addr × List D)} {Δ : List (V × D)} {te : TE} {ds : List D} {m : Int} {Q : VK} {E : XK} {i : Nat}
theorem go_draw (e : σ[i]? = some (some (.ref d))) (h : EvD K B te σ (.int m)) (hb : Sub B Δ) (hS : St K H (some (d, l)) Γ Δ) (hm : m.natAbs < 2 ^ 8000) (q : ∀ H' r, St K H' (some (d, l)) Γ Δ → 0 ≤ r → (r < m ∨ r = 0) → Q (.int r) H') :
    tCall (sp_law_draw K) [] E (tCons (tVar i) (tCons te tNil)) σ H Q :=
  ⟨_, e, h H _ Γ Δ _ hb hS fun v H1 Δ1 s1 hS1 d1 => by
    obtain rfl := d1.isInt hS1
    exact ⟨d, l, m, Γ, Δ, rfl, hS1.weaken s1, hm, q⟩⟩
theorem go_pick (e : σ[i]? = some (some (.ref d))) (h : EvD K B te σ (.list ds)) (hb : Sub B Δ) (hS : St K H (some (d, l)) Γ Δ) (hne : ds ≠ []) (hz : ds.length ≤ 10000) (q : ∀ H' v x, x ∈ ds → St K H' (some (d, l)) Γ ((v, x) :: Δ) → Q v H') :
    tCall (sp_law_pick K) [] E (tCons (tVar i) (tCons te tNil)) σ H Q :=
  ⟨_, e, h.go hb hS fun v H1 hS1 => by
    obtain ⟨a, rfl⟩ := hS1.lref_of (List.mem_cons_self ..)
    exact ⟨d, l, a, ds, Γ, _, rfl, hS1, List.mem_cons_self .., hne, hz, fun H' v x hx hS2 => q H' v x hx (hS2.weaken fun y hy => by
      rcases List.mem_cons.mp hy with rfl | hy
      · exact List.mem_cons_self ..
      · exact List.mem_cons_of_mem _ (List.mem_cons_of_mem _ hy))⟩⟩
end
theorem small8000 {m : Int} (h0 : 0 ≤ m) (h : m ≤ 10 ^ 70) : m.natAbs < 2 ^ 8000 := by
  have e : (10 : Nat) ^ 70 < 2 ^ 8000 := by decide +kernel
  have : m.natAbs ≤ 10 ^ 70 := by omega
  exact Nat.lt_of_le_of_lt this e
def unrule : D → Rule
  | .tuple [.int a, .int b] => (a, b)
  | _ => (0, 0)
theorem perm_rules {es : List D} {rs : List Rule} (h : es.Perm (rs.map ruleD)) : ∃ rs' : List Rule, es = rs'.map ruleD ∧ rs'.Perm rs := by
  refine ⟨es.map unrule, ?_, ?_⟩
  · have hall : ∀ e ∈ es, (ruleD ∘ unrule) e = e := fun e he => by
      obtain ⟨r, _, rfl⟩ := List.mem_map.mp (h.subset he)
      rfl
    rw [List.map_map, List.map_congr_left hall]
    exact (List.map_id' es).symm
  · have g := h.map unrule
    rw [List.map_map] at g
    have e : rs.map (unrule ∘ ruleD) = rs := by
      have : (unrule ∘ ruleD) = id := by
        funext r
        rfl
      rw [this, List.map_id]
    rw [e] at g
    exact g
theorem lay_rules (rs : List Rule) : Lay 60 (rs.map ruleD) := lay_of fun d hd => by
  obtain ⟨r, _, rfl⟩ := List.mem_map.mp hd
  unfold ruleD
  exact ⟨by simp [PyData.canLay0, PyData.canLayAll0], by simp [PyData.depth, PyData.depthAll]⟩
theorem cut_take (xs : List V) (n : Nat) : cutV xs none (some (n : Int)) = xs.take n := by
  unfold cutV
  rw [HT.sIx_nat, HT.sIx_none, List.drop_zero, Nat.sub_zero]
  by_cases h : n ≤ xs.length
  · rw [Nat.min_eq_left h]
  · rw [Nat.min_eq_right (by omega), List.take_of_length_le (Nat.le_refl _), List.take_of_length_le (by omega)]
/-- found != [] -/
theorem go_ne {K : PySem.W.Frag} {σ : L2.St} {H : Hp} {dk : Dk} {Γ : List (Addr × List D)} {Δ : List (V × D)} {f : Addr} {rs : List Rule} {i : Nat} {Q : VK} (e : σ[i]? = some (some (.ref f))) (hS : St K H dk ((f, rs.map ruleD) :: Γ) Δ)
    (q : ∀ H', St K H' dk ((f, rs.map ruleD) :: Γ) Δ → Q (.bl (!rs.isEmpty)) H') : tOp (rNeD K) (tVar i) (tLst tNil) σ H Q := by
  refine ⟨_, e, Nat.zero_le _, fun u hu => ?_⟩
  have hS6 := hS.lst (ds := []) hu .nil
  refine ne_nil_list (ds := rs.map ruleD) ((hS6.weaken (Δ' := []) fun _ h => nomatch h).freeze.dp (.of (List.mem_cons_self ..))) (.lst (SqL.of upd_same) .nil) (lay_rules rs) ?_
  rw [List.isEmpty_map]
  exact q _ (hS6.weaken fun _ => List.mem_cons_of_mem _)

theorem dv_ints {Δ : List (V × D)} : ∀ ns : List Int, DvAll Δ (ns.map V.int) (ns.map PyData.int)
  | [] => .nil
  | n :: ns => .cons (.int n) (dv_ints ns)
/-! ### sorted scales -/
def SortedR (rs : List Rule) : Prop := rs.Pairwise fun x y => SrtO.lexB y x = false
theorem dv_zip {Δ : List (V × D)} : ∀ {xs : List V} {rs : List Rule}, xs.length = rs.length → (∀ p ∈ xs.zip rs, Dv Δ p.1 (ruleD p.2)) → DvAll Δ xs (rs.map ruleD)
  | [], [], _, _ => .nil
  | x :: xs, r :: rs, h, g => .cons (g (x, r) (List.mem_cons_self ..)) (dv_zip (Nat.succ.inj h) fun p hp => g p (List.mem_cons_of_mem _ hp))
theorem zip_dv {Δ : List (V × D)} : ∀ {xs : List V} {rs : List Rule}, DvAll Δ xs (rs.map ruleD) → ∀ p ∈ xs.zip rs, Dv Δ p.1 (ruleD p.2)
  | [], [], _, p, hp => nomatch hp
  | [], _ :: _, h, _, _ => nomatch h
  | _ :: _, [], h, _, _ => nomatch h
  | x :: xs, r :: rs, .cons h1 h2, p, hp => by
    rcases List.mem_cons.mp hp with rfl | hp
    · exact h1
    · exact zip_dv h2 p hp
theorem perm_snd {xs ys : List V} {rs rs' : List Rule} (h1 : ys.length = rs'.length) (h2 : xs.length = rs.length) (h : (ys.zip rs').Perm (xs.zip rs)) : rs'.Perm rs := by
  have e : ∀ {zs : List V} {qs : List Rule}, zs.length = qs.length → (zs.zip qs).map Prod.snd = qs := fun {zs qs} h => List.map_snd_zip (by omega)
  have g := h.map Prod.snd
  rw [e h1, e h2] at g
  exact g
/-- what sorted() of a scale asks and gives -/
theorem St.sortT {K : PySem.W.Frag} {H : Hp} {dk : Dk} {Γ : List (Addr × List D)} {Δ : List (V × D)} {a : Addr} {rs : List Rule} (hS : St K H dk Γ Δ) (hm : (V.ref a, scaleD rs) ∈ Δ) :
    ∃ xs, SqT K H a xs ∧ xs.length = rs.length ∧ (∀ p ∈ xs.zip rs, ∃ t, p.1 = V.ref t ∧ SqT K H t [.int p.2.1, .int p.2.2]) ∧
      ∀ ys rs' p, ys.length = rs'.length → (ys.zip rs').Perm (xs.zip rs) → H p = none → rs'.Perm rs ∧ St K (upd H p (.lst ys)) dk ((p, rs'.map ruleD) :: Γ) Δ := by
  obtain ⟨xs, hT, hlen, Δ', rfl, hS', hv⟩ := hS.tupAt hm
  have hl : xs.length = rs.length := by rw [hlen, List.length_map]
  have hz := zip_dv hv
  refine ⟨xs, hT, hl, fun p hp => ?_, fun ys rs' p h1 h2 h3 => ⟨perm_snd h1 hl h2, ?_⟩⟩
  · have d := hz p hp
    obtain ⟨t, et⟩ := d.isRef hS' trivial
    rw [et] at d
    exact ⟨t, et, (hS'.also d).pair (List.mem_cons_self ..)⟩
  · exact (hS'.make h3 (dv_zip h1 fun q hq => hz q (h2.mem_iff.mp hq))).weaken fun x hx => List.mem_append_right _ hx
/-! ### stretches -/
abbrev Row := Int × Option Int × Nat
def optD : Option Int → D
  | none => .none
  | some i => .int i
def optV : Option Int → V
  | none => .non
  | some i => .int i
def rowD (r : Row) : D := .tuple [.int r.1, optD r.2.1, .int (r.2.2 : Int)]
def rowsOf (low : Int) (c : Nat) : List Rule → List Row
  | [] => [(low, none, c)]
  | r :: L => (low, some r.1, c) :: if r.2 = 0 then [] else rowsOf (r.1 + 1) (Nat.lcm c r.2.natAbs) L
theorem dv_opt {Δ : List (V × D)} {o : Option Int} : Dv Δ (optV o) (optD o) := by
  cases o with
  | none => exact .non
  | some i => exact .int i
theorem is_opt {K : PySem.W.Frag} {H : Hp} {dk : Dk} {Γ : List (Addr × List D)} {Δ : List (V × D)} {v : V} {o : Option Int} (hS : St K H dk Γ Δ) (h : Dv Δ v (optD o)) : v = optV o := by
  cases o with
  | none => exact h.isNon hS
  | some i => exact h.isInt hS
theorem St.row {K : PySem.W.Frag} {H : Hp} {dk : Dk} {Γ : List (Addr × List D)} {Δ : List (V × D)} {a : Addr} {r : Row} (hS : St K H dk Γ Δ) (hm : (V.ref a, rowD r) ∈ Δ) : SqT K H a [.int r.1, optV r.2.1, .int (r.2.2 : Int)] := by
  obtain ⟨vs, hT, hlen, Δ', rfl, hS', hv⟩ := hS.tupAt hm
  cases hv with | cons d1 v1 => cases v1 with | cons d2 v2 => cases v2 with | cons d3 v3 =>
  cases v3
  obtain rfl := d1.isInt hS'
  obtain rfl := is_opt hS' d2
  obtain rfl := d3.isInt hS'
  exact hT
end EE

namespace EE
open PySem PySem.Spec PyProof.Rows L2
/-! ### counting -/
def cntP (P : Int → Bool) (a : Int) : Nat → Nat
  | 0 => 0
  | k + 1 => cntP P a k + if P (a + k) = true then 1 else 0
theorem cnt_congr {P Q : Int → Bool} {a : Int} : ∀ {k : Nat}, (∀ i : Int, a ≤ i → i < a + k → P i = Q i) → cntP P a k = cntP Q a k
  | 0, _ => rfl
  | k + 1, h => by
    show cntP P a k + _ = cntP Q a k + _
    rw [cnt_congr fun i h1 h2 => h i h1 (by omega), h (a + k) (by omega) (by omega)]
theorem cnt_zero {P : Int → Bool} {a : Int} : ∀ {k : Nat}, (∀ i : Int, a ≤ i → i < a + k → P i = false) → cntP P a k = 0
  | 0, _ => rfl
  | k + 1, h => by
    show cntP P a k + (if P (a + k) = true then 1 else 0) = 0
    rw [cnt_zero fun i h1 h2 => h i h1 (by omega), h (a + k) (by omega) (by omega)]
    rfl
theorem cnt_add {P : Int → Bool} {a : Int} {j : Nat} : ∀ {k : Nat}, cntP P a (j + k) = cntP P a j + cntP P (a + j) k
  | 0 => rfl
  | k + 1 => by
    show cntP P a (j + k) + (if P (a + (j + k : Nat)) = true then 1 else 0) = cntP P a j + (cntP P (a + j) k + if P (a + j + k) = true then 1 else 0)
    rw [cnt_add, show a + ((j + k : Nat) : Int) = a + j + k by omega, Nat.add_assoc]
theorem cnt_one {P : Int → Bool} {a : Int} : cntP P a 1 = if P a = true then 1 else 0 := by
  show 0 + (if P (a + (0 : Nat)) = true then 1 else 0) = _
  rw [Nat.zero_add, show a + ((0 : Nat) : Int) = a by omega]
theorem cnt_head {P : Int → Bool} {a : Int} {k : Nat} : cntP P a (k + 1) = (if P a = true then 1 else 0) + cntP P (a + 1) k := by
  rw [Nat.add_comm k 1, cnt_add, cnt_one]
  rfl
theorem cnt_mirror {P : Int → Bool} (hP : ∀ i, P (-i) = P i) : ∀ {k : Nat} {a : Int}, cntP P (-(a + k - 1)) k = cntP P a k
  | 0, _ => rfl
  | k + 1, a => by
    have e : -(a + ((k + 1 : Nat) : Int) - 1) = -(a + k) := by omega
    rw [e, cnt_head, hP (a + k), show -(a + (k : Int)) + 1 = -(a + k - 1) by omega, cnt_mirror hP]
    show _ = cntP P a k + (if P (a + k) = true then 1 else 0)
    omega
def mulP (c : Nat) (n : Int) : Bool := decide (n % (c : Int) = 0)
theorem div_step {c : Int} (hc : 0 < c) (m : Int) : (m + 1) / c = m / c + if (m + 1) % c = 0 then 1 else 0 := by
  have h1 := Int.emod_add_mul_ediv m c
  have h2 := Int.emod_nonneg m (show c ≠ 0 by omega)
  have h3 := Int.emod_lt_of_pos m hc
  by_cases h : m % c + 1 = c
  · obtain ⟨q1, q2⟩ := (Int.ediv_emod_unique (a := m + 1) (r := 0) (q := m / c + 1) hc).mpr ⟨by rw [Int.mul_add, Int.mul_one]; omega, Int.le_refl 0, hc⟩
    rw [q1, q2, if_pos rfl]
  · obtain ⟨q1, q2⟩ := (Int.ediv_emod_unique (a := m + 1) (r := m % c + 1) (q := m / c) hc).mpr ⟨by omega, by omega, by omega⟩
    rw [q1, q2, if_neg (by omega), Int.add_zero]
theorem cnt_mult {c : Nat} (hc : 0 < c) {a : Int} : ∀ {k : Nat}, (cntP (mulP c) a k : Int) = (a + k - 1) / (c : Int) - (a - 1) / (c : Int)
  | 0 => by
    show (0 : Int) = _
    rw [show a + ((0 : Nat) : Int) - 1 = a - 1 by omega]
    omega
  | k + 1 => by
    have ih := cnt_mult (c := c) hc (a := a) (k := k)
    have st := div_step (c := (c : Int)) (by omega) (a + k - 1)
    rw [show a + (k : Int) - 1 + 1 = a + k by omega] at st
    rw [show a + ((k + 1 : Nat) : Int) - 1 = a + k by omega, st]
    show ((cntP (mulP c) a k + (if mulP c (a + k) = true then 1 else 0) : Nat) : Int) = _
    rw [Int.natCast_add, ih]
    unfold mulP
    by_cases h : (a + (k : Int)) % (c : Int) = 0
    · rw [if_pos h, decide_eq_true h, if_pos rfl]
      omega
    · rw [if_neg h, decide_eq_false h, if_neg Bool.false_ne_true]
      omega
/-! ### what fits, stretch by stretch -/
def FitC (c : Nat) (L : List Rule) (n : Int) : Bool := mulP c n && fitsAll L n
def Asc (L : List Rule) : Prop := L.Pairwise fun x y => x.1 ≤ y.1
theorem asc_of {L : List Rule} (h : SortedR L) : Asc L := h.imp fun {x y} g => by
  have := SrtO.lexB_no.mp g
  omega
theorem fit_pos {r : Rule} {n : Int} (h : 0 ≤ n) : fitR r n = (decide (n ≤ r.1) || (!decide (r.2 = 0) && decide (n % r.2 = 0))) := by
  unfold fitR
  rw [if_neg (by omega)]
theorem fits_low {L : List Rule} {n b : Int} (h0 : 0 ≤ n) (h1 : n ≤ b) (h : ∀ r ∈ L, b ≤ r.1) : fitsAll L n = true := by
  unfold fitsAll
  rw [List.all_eq_true]
  intro r hr
  have := h r hr
  rw [fit_pos h0, decide_eq_true (show n ≤ r.1 by omega)]
  rfl
theorem fitc_low {c : Nat} {r : Rule} {L : List Rule} {n : Int} (hA : Asc (r :: L)) (h0 : 0 ≤ n) (h1 : n ≤ r.1) : FitC c (r :: L) n = mulP c n := by
  unfold FitC
  rw [fits_low (b := r.1) h0 h1 fun q hq => ?_, Bool.and_true]
  rcases List.mem_cons.mp hq with rfl | hq
  · exact Int.le_refl _
  · exact (List.pairwise_cons.mp hA).1 q hq
theorem fits_cons {r : Rule} {L : List Rule} {n : Int} : fitsAll (r :: L) n = (fitR r n && fitsAll L n) := rfl
theorem fitc_stop {c : Nat} {r : Rule} {L : List Rule} {n : Int} (h0 : 0 ≤ n) (h1 : r.1 < n) (hz : r.2 = 0) : FitC c (r :: L) n = false := by
  unfold FitC
  rw [fits_cons, fit_pos h0, decide_eq_false (by omega), decide_eq_true hz]
  simp
theorem lcm_mul {c s : Nat} {n : Int} : mulP (Nat.lcm c s) n = (mulP c n && mulP s n) := by
  unfold mulP
  rw [Bool.eq_iff_iff, Bool.and_eq_true, decide_eq_true_eq, decide_eq_true_eq, decide_eq_true_eq, ← Int.dvd_iff_emod_eq_zero, ← Int.dvd_iff_emod_eq_zero, ← Int.dvd_iff_emod_eq_zero]
  rw [← Int.natAbs_dvd_natAbs, ← Int.natAbs_dvd_natAbs, ← Int.natAbs_dvd_natAbs, Int.natAbs_natCast, Int.natAbs_natCast, Int.natAbs_natCast]
  exact Nat.lcm_dvd_iff
theorem fitc_go {c : Nat} {r : Rule} {L : List Rule} {n : Int} (h0 : 0 ≤ n) (h1 : r.1 < n) (hz : r.2 ≠ 0) (hp : 0 ≤ r.2) : FitC c (r :: L) n = FitC (Nat.lcm c r.2.natAbs) L n := by
  unfold FitC
  rw [fits_cons, fit_pos h0, decide_eq_false (by omega), decide_eq_false hz, lcm_mul]
  have e : decide (n % r.2 = 0) = mulP r.2.natAbs n := by
    unfold mulP
    rw [Int.natAbs_of_nonneg hp]
  rw [e, Bool.false_or, Bool.not_false, Bool.true_and, Bool.and_assoc]
/-- the bounds stand in order, from low on -/
structure RowsOk (low : Int) (c : Nat) (L : List Rule) : Prop where
  asc : Asc L
  low0 : 0 ≤ low
  c0 : 0 < c
  all : ∀ r ∈ L, low ≤ r.1 + 1 ∧ 0 ≤ r.1 ∧ 0 ≤ r.2
theorem RowsOk.tail {low : Int} {c : Nat} {r : Rule} {L : List Rule} (h : RowsOk low c (r :: L)) (hz : r.2 ≠ 0) : RowsOk (r.1 + 1) (Nat.lcm c r.2.natAbs) L := by
  obtain ⟨_, r1, r2⟩ := h.all r (List.mem_cons_self ..)
  refine ⟨(List.pairwise_cons.mp h.asc).2, by omega, Nat.lcm_pos h.c0 (by omega), fun q hq => ?_⟩
  have := (List.pairwise_cons.mp h.asc).1 q hq
  obtain ⟨_, q1, q2⟩ := h.all q (List.mem_cons_of_mem _ hq)
  exact ⟨by omega, q1, q2⟩
def lesserI (top : Int) : Option Int → Int
  | none => top
  | some h => if h < top then h else top
def manyR (top : Int) : List Row → Int
  | [] => 0
  | r :: R => (if r.1 ≤ lesserI top r.2.1 then lesserI top r.2.1 / (r.2.2 : Int) - (r.1 - 1) / (r.2.2 : Int) else 0) + manyR top R
theorem many_first {low m : Int} {c : Nat} (hc : 0 < c) : (if low ≤ m then m / (c : Int) - (low - 1) / (c : Int) else 0) = (cntP (mulP c) low (m - low + 1).toNat : Int) := by
  by_cases h : low ≤ m
  · rw [if_pos h, cnt_mult hc, show low + ((m - low + 1).toNat : Int) - 1 = m by omega]
  · rw [if_neg h, show (m - low + 1).toNat = 0 by omega]
    rfl
theorem many_rows {top : Int} : ∀ {L : List Rule} {low : Int} {c : Nat}, RowsOk low c L → manyR top (rowsOf low c L) = (cntP (FitC c L) low (top - low + 1).toNat : Int)
  | [], low, c, h => by
    show (if low ≤ top then top / (c : Int) - (low - 1) / (c : Int) else 0) + 0 = _
    rw [Int.add_zero, many_first h.c0]
    congr 1
    refine cnt_congr fun i _ _ => ?_
    unfold FitC
    rw [show fitsAll [] i = true from rfl, Bool.and_true]
  | r :: L, low, c, h => by
    obtain ⟨r0, r1, r2⟩ := h.all r (List.mem_cons_self ..)
    have l0 := h.low0
    show (if low ≤ lesserI top (some r.1) then lesserI top (some r.1) / (c : Int) - (low - 1) / (c : Int) else 0) + manyR top (if r.2 = 0 then [] else rowsOf (r.1 + 1) (Nat.lcm c r.2.natAbs) L) = _
    rw [many_first h.c0]
    by_cases ht : r.1 < top
    · have e1 : lesserI top (some r.1) = r.1 := if_pos ht
      rw [e1, show (top - low + 1).toNat = (r.1 - low + 1).toNat + (top - (r.1 + 1) + 1).toNat by omega, cnt_add, Int.natCast_add, show low + ((r.1 - low + 1).toNat : Int) = r.1 + 1 by omega]
      congr 1
      · congr 1
        exact cnt_congr fun i h1 h2 => (fitc_low h.asc (by omega) (by omega)).symm
      · by_cases hz : r.2 = 0
        · rw [if_pos hz, cnt_zero fun i h1 h2 => fitc_stop (by omega) (by omega) hz]
          rfl
        · rw [if_neg hz, many_rows (h.tail hz)]
          congr 1
          exact cnt_congr fun i h1 h2 => (fitc_go (by omega) (by omega) hz r2).symm
    · have e1 : lesserI top (some r.1) = top := if_neg ht
      rw [e1]
      have e2 : manyR top (if r.2 = 0 then [] else rowsOf (r.1 + 1) (Nat.lcm c r.2.natAbs) L) = 0 := by
        by_cases hz : r.2 = 0
        · rw [if_pos hz]
          rfl
        · rw [if_neg hz, many_rows (h.tail hz), show (top - (r.1 + 1) + 1).toNat = 0 by omega]
          rfl
      rw [e2, Int.add_zero]
      congr 1
      exact cnt_congr fun i h1 h2 => (fitc_low h.asc (by omega) (by omega)).symm
/-! ### the least from a number on -/
def IsLeastP (P : Int → Bool) (a : Int) (o : Option Int) : Prop :=
  match o with
  | some m => a ≤ m ∧ P m = true ∧ ∀ k, a ≤ k → k < m → P k = false
  | none => ∀ k, a ≤ k → P k = false
theorem least_uniq {P : Int → Bool} {a : Int} {o o' : Option Int} (h : IsLeastP P a o) (h' : IsLeastP P a o') : o = o' := by
  cases o with
  | none =>
    cases o' with
    | none => rfl
    | some m => exact absurd (h m h'.1) (by rw [h'.2.1]; decide)
  | some m =>
    cases o' with
    | none => exact absurd (h' m h.1) (by rw [h.2.1]; decide)
    | some m' =>
      by_cases c : m < m'
      · exact absurd (h'.2.2 m h.1 c) (by rw [h.2.1]; decide)
      · by_cases c2 : m' < m
        · exact absurd (h.2.2 m' h'.1 c2) (by rw [h'.2.1]; decide)
        · congr 1
          omega
def firstMul (c : Nat) (low : Int) : Int := (low + (c : Int) - 1) / (c : Int) * (c : Int)
theorem first_mul {c : Nat} (hc : 0 < c) (a : Int) : a ≤ firstMul c a ∧ mulP c (firstMul c a) = true ∧ ∀ k, a ≤ k → k < firstMul c a → mulP c k = false := by
  have hc' : (0 : Int) < c := by omega
  unfold firstMul mulP
  have h1 := Int.emod_add_mul_ediv (a + (c : Int) - 1) c
  have h2 := Int.emod_nonneg (a + (c : Int) - 1) (show (c : Int) ≠ 0 by omega)
  have h3 := Int.emod_lt_of_pos (a + (c : Int) - 1) hc'
  rw [Int.mul_comm] at h1
  generalize (a + (c : Int) - 1) / (c : Int) = q at h1
  refine ⟨by omega, decide_eq_true (Int.mul_emod_left _ _), fun k k1 k2 => decide_eq_false fun e => ?_⟩
  obtain ⟨j, rfl⟩ := Int.dvd_of_emod_eq_zero e
  have hq : (q - 1) * (c : Int) < j * c := by
    rw [Int.sub_mul, Int.one_mul, Int.mul_comm j]
    omega
  have hq2 : j * (c : Int) < q * c := by
    rw [Int.mul_comm j]
    omega
  have a1 := Int.lt_of_mul_lt_mul_right hq (by omega)
  have a2 := Int.lt_of_mul_lt_mul_right hq2 (by omega)
  omega
def maxI (a b : Int) : Int := if b > a then b else a
def leastR (num : Int) : List Row → Option Int
  | [] => none
  | r :: R => match r.2.1 with
    | none => some (firstMul r.2.2 (maxI r.1 num))
    | some h => if firstMul r.2.2 (maxI r.1 num) ≤ h then some (firstMul r.2.2 (maxI r.1 num)) else leastR num R
theorem least_rows {num : Int} : ∀ {L : List Rule} {low : Int} {c : Nat}, RowsOk low c L → IsLeastP (FitC c L) (maxI low num) (leastR num (rowsOf low c L))
  | [], low, c, h => by
    obtain ⟨f1, f2, f3⟩ := first_mul h.c0 (maxI low num)
    have e : ∀ i, FitC c [] i = mulP c i := fun i => by
      unfold FitC
      rw [show fitsAll [] i = true from rfl, Bool.and_true]
    exact ⟨f1, by rw [e]; exact f2, fun k h1 h2 => by rw [e]; exact f3 k h1 h2⟩
  | r :: L, low, c, h => by
    obtain ⟨r0, r1, r2⟩ := h.all r (List.mem_cons_self ..)
    have l0 := h.low0
    obtain ⟨f1, f2, f3⟩ := first_mul h.c0 (maxI low num)
    have m0 : low ≤ maxI low num := by unfold maxI; split <;> omega
    show IsLeastP (FitC c (r :: L)) (maxI low num) (if firstMul c (maxI low num) ≤ r.1 then some (firstMul c (maxI low num)) else leastR num (if r.2 = 0 then [] else rowsOf (r.1 + 1) (Nat.lcm c r.2.natAbs) L))
    by_cases hf : firstMul c (maxI low num) ≤ r.1
    · rw [if_pos hf]
      exact ⟨f1, by rw [fitc_low h.asc (by omega) hf]; exact f2, fun k h1 h2 => by rw [fitc_low h.asc (by omega) (by omega)]; exact f3 k h1 h2⟩
    · rw [if_neg hf]
      have hlow : ∀ k, maxI low num ≤ k → k ≤ r.1 → FitC c (r :: L) k = false := fun k h1 h2 => by
        rw [fitc_low h.asc (by omega) h2]
        exact f3 k h1 (by omega)
      by_cases hz : r.2 = 0
      · rw [if_pos hz]
        show ∀ k, maxI low num ≤ k → FitC c (r :: L) k = false
        intro k hk
        by_cases hkr : k ≤ r.1
        · exact hlow k hk hkr
        · exact fitc_stop (by omega) (by omega) hz
      · rw [if_neg hz]
        have ih := least_rows (num := num) (h.tail hz)
        have mm : ∀ k, maxI low num ≤ k → r.1 < k → maxI (r.1 + 1) num ≤ k := fun k h1 h2 => by
          unfold maxI at h1 ⊢
          split at h1 <;> split <;> omega
        have mn : maxI low num ≤ maxI (r.1 + 1) num ∧ r.1 < maxI (r.1 + 1) num := by
          unfold maxI
          split <;> split <;> omega
        cases e : leastR num (rowsOf (r.1 + 1) (Nat.lcm c r.2.natAbs) L) with
        | none =>
          rw [e] at ih
          show ∀ k, maxI low num ≤ k → FitC c (r :: L) k = false
          intro k hk
          by_cases hkr : k ≤ r.1
          · exact hlow k hk hkr
          · rw [fitc_go (by omega) (by omega) hz r2]
            exact ih k (mm k hk (by omega))
        | some m =>
          rw [e] at ih
          obtain ⟨i1, i2, i3⟩ := ih
          refine ⟨by omega, ?_, fun k h1 h2 => ?_⟩
          · rw [fitc_go (by omega) (by omega) hz r2]
            exact i2
          · by_cases hkr : k ≤ r.1
            · exact hlow k h1 hkr
            · rw [fitc_go (by omega) (by omega) hz r2]
              exact i3 k (mm k h1 (by omega)) h2
/-! ### the greatest up to a number -/
def greatR (num : Int) : Int → List Row → Int
  | g, [] => g
  | g, r :: R => greatR num (if lesserI num r.2.1 / (r.2.2 : Int) * (r.2.2 : Int) ≥ r.1 then lesserI num r.2.1 / (r.2.2 : Int) * (r.2.2 : Int) else g) R
def IsGreatP (P : Int → Bool) (a b g res : Int) : Prop := (a ≤ res ∧ res ≤ b ∧ P res = true ∧ ∀ k, res < k → k ≤ b → P k = false) ∨ (res = g ∧ ∀ k, a ≤ k → k ≤ b → P k = false)
theorem last_mul {c : Nat} (hc : 0 < c) (b : Int) : b / (c : Int) * c ≤ b ∧ mulP c (b / (c : Int) * c) = true ∧ ∀ k, b / (c : Int) * c < k → k ≤ b → mulP c k = false := by
  have hc' : (0 : Int) < c := by omega
  unfold mulP
  have h1 := Int.emod_add_mul_ediv b c
  have h2 := Int.emod_nonneg b (show (c : Int) ≠ 0 by omega)
  have h3 := Int.emod_lt_of_pos b hc'
  rw [Int.mul_comm] at h1
  generalize b / (c : Int) = q at h1
  refine ⟨by omega, decide_eq_true (Int.mul_emod_left _ _), fun k k1 k2 => decide_eq_false fun e => ?_⟩
  obtain ⟨j, rfl⟩ := Int.dvd_of_emod_eq_zero e
  have hq : q * (c : Int) < j * c := by
    rw [Int.mul_comm j]
    exact k1
  have hq2 : j * (c : Int) < (q + 1) * c := by
    rw [Int.add_mul, Int.one_mul, Int.mul_comm j]
    omega
  have a1 := Int.lt_of_mul_lt_mul_right hq (by omega)
  have a2 := Int.lt_of_mul_lt_mul_right hq2 (by omega)
  omega
theorem great_first {c : Nat} (hc : 0 < c) {low m g : Int} : IsGreatP (mulP c) low m g (if m / (c : Int) * (c : Int) ≥ low then m / (c : Int) * (c : Int) else g) := by
  obtain ⟨f1, f2, f3⟩ := last_mul hc m
  by_cases h : m / (c : Int) * (c : Int) ≥ low
  · rw [if_pos h]
    exact Or.inl ⟨h, f1, f2, f3⟩
  · rw [if_neg h]
    exact Or.inr ⟨rfl, fun k h1 h2 => f3 k (by omega) h2⟩
theorem great_rows {num : Int} : ∀ {L : List Rule} {low : Int} {c : Nat} {g : Int}, RowsOk low c L → IsGreatP (FitC c L) low num g (greatR num g (rowsOf low c L))
  | [], low, c, g, h => by
    have e : ∀ i, FitC c [] i = mulP c i := fun i => by
      unfold FitC
      rw [show fitsAll [] i = true from rfl, Bool.and_true]
    have e2 : FitC c [] = mulP c := funext e
    rw [e2]
    exact great_first h.c0
  | r :: L, low, c, g, h => by
    obtain ⟨r0, r1, r2⟩ := h.all r (List.mem_cons_self ..)
    have l0 := h.low0
    show IsGreatP (FitC c (r :: L)) low num g (greatR num (if lesserI num (some r.1) / (c : Int) * (c : Int) ≥ low then lesserI num (some r.1) / (c : Int) * (c : Int) else g) (if r.2 = 0 then [] else rowsOf (r.1 + 1) (Nat.lcm c r.2.natAbs) L))
    have gf := great_first h.c0 (low := low) (m := lesserI num (some r.1)) (g := g)
    generalize (if lesserI num (some r.1) / (c : Int) * (c : Int) ≥ low then lesserI num (some r.1) / (c : Int) * (c : Int) else g) = g1 at gf
    have hm : lesserI num (some r.1) ≤ r.1 ∧ lesserI num (some r.1) ≤ num ∧ ∀ k, k ≤ num → k ≤ r.1 → k ≤ lesserI num (some r.1) := by
      show (if r.1 < num then r.1 else num) ≤ r.1 ∧ (if r.1 < num then r.1 else num) ≤ num ∧ ∀ k, k ≤ num → k ≤ r.1 → k ≤ (if r.1 < num then r.1 else num)
      split
      · exact ⟨Int.le_refl _, by omega, fun k _ h => h⟩
      · exact ⟨by omega, Int.le_refl _, fun k h _ => h⟩
    generalize lesserI num (some r.1) = m at gf hm
    obtain ⟨m1, m2, m3⟩ := hm
    -- what lies above the bound
    have up : ∀ res, IsGreatP (FitC c (r :: L)) (r.1 + 1) num g1 res → IsGreatP (FitC c (r :: L)) low num g res := fun res hu => by
      rcases hu with ⟨u1, u2, u3, u4⟩ | ⟨rfl, u2⟩
      · exact Or.inl ⟨by omega, u2, u3, u4⟩
      · rcases gf with ⟨v1, v2, v3, v4⟩ | ⟨rfl, v2⟩
        · refine Or.inl ⟨v1, by omega, by rw [fitc_low h.asc (by omega) (by omega)]; exact v3, fun k h1 h2 => ?_⟩
          by_cases hk : k ≤ r.1
          · rw [fitc_low h.asc (by omega) hk]
            exact v4 k h1 (m3 k h2 hk)
          · exact u2 k (by omega) h2
        · refine Or.inr ⟨rfl, fun k h1 h2 => ?_⟩
          by_cases hk : k ≤ r.1
          · rw [fitc_low h.asc (by omega) hk]
            exact v2 k h1 (m3 k h2 hk)
          · exact u2 k (by omega) h2
    refine up _ ?_
    by_cases hz : r.2 = 0
    · rw [if_pos hz]
      exact Or.inr ⟨rfl, fun k h1 h2 => fitc_stop (by omega) (by omega) hz⟩
    · rw [if_neg hz]
      have ih := great_rows (num := num) (g := g1) (h.tail hz)
      have e : ∀ k, r.1 + 1 ≤ k → FitC c (r :: L) k = FitC (Nat.lcm c r.2.natAbs) L k := fun k hk => fitc_go (by omega) (by omega) hz r2
      rcases ih with ⟨u1, u2, u3, u4⟩ | ⟨u1, u2⟩
      · exact Or.inl ⟨u1, u2, by rw [e _ u1]; exact u3, fun k h1 h2 => by rw [e k (by omega)]; exact u4 k h1 h2⟩
      · exact Or.inr ⟨u1, fun k h1 h2 => by rw [e k h1]; exact u2 k h1 h2⟩
/-! ### the whole scale -/
theorem fits_perm {rs rs' : List Rule} (h : rs'.Perm rs) (n : Int) : fitsAll rs' n = fitsAll rs n := by
  unfold fitsAll
  rw [Bool.eq_iff_iff, List.all_eq_true, List.all_eq_true]
  exact ⟨fun g r hr => g r (h.mem_iff.mpr hr), fun g r hr => g r (h.mem_iff.mp hr)⟩
theorem fitc_one {rs : List Rule} (n : Int) : FitC 1 rs n = fitsAll rs n := by
  unfold FitC mulP
  rw [show n % ((1 : Nat) : Int) = 0 from Int.emod_one n]
  rfl
theorem fits_even {rs : List Rule} (n : Int) : fitsAll rs (-n) = fitsAll rs n := by
  unfold fitsAll
  congr 1
  funext r
  unfold fitR
  have e1 : (if -n < 0 then - -n else -n) = if n < 0 then -n else n := by
    split <;> split <;> omega
  have e2 : decide (-n % r.2 = 0) = decide (n % r.2 = 0) := by
    refine decide_eq_decide.mpr ?_
    rw [← Int.dvd_iff_emod_eq_zero, ← Int.dvd_iff_emod_eq_zero]
    exact Int.dvd_neg
  rw [e1, e2]
def ScaleOk (rs : List Rule) : Prop := rs.length ≤ 40 ∧ ∀ r ∈ rs, 0 ≤ r.1 ∧ r.1 ≤ 10 ^ 60 ∧ 0 ≤ r.2 ∧ r.2 ≤ 10 ^ 60
theorem rows_ok {rs rs' : List Rule} (h : ScaleOk rs) (hp : rs'.Perm rs) (hs : SortedR rs') : RowsOk 0 1 rs' := ⟨asc_of hs, Int.le_refl 0, by decide, fun r hr => by
  obtain ⟨h1, _, h3, _⟩ := h.2 r (hp.mem_iff.mp hr)
  exact ⟨by omega, h1, h3⟩⟩
theorem pow_le12 {k : Nat} (h : k ≤ 12000) : 2 ^ k ≤ 2 ^ 12000 := Nat.pow_le_pow_right (by decide) h
theorem lcm_step {m : Nat} {z : Int} {i : Nat} (h : m < 2 ^ (200 * i + 1)) (h0 : 0 ≤ z) (h1 : z ≤ 10 ^ 60) : m < 2 ^ (200 * i + 1) ∧ z.natAbs < 2 ^ 200 ∧ Nat.lcm m z.natAbs < 2 ^ (200 * (i + 1) + 1) := by
  have e : (10 : Nat) ^ 60 < 2 ^ 200 := by decide +kernel
  have hz : z.natAbs < 2 ^ 200 := Nat.lt_of_le_of_lt (show z.natAbs ≤ 10 ^ 60 by omega) e
  refine ⟨h, hz, Nat.lt_of_le_of_lt (PySem.W.mc_lcm_le _ _) (Nat.lt_of_lt_of_le (Nat.mul_lt_mul_of_lt_of_le h (Nat.le_of_lt hz) (Nat.pow_pos (by decide))) ?_)⟩
  rw [← Nat.pow_add]
  exact Nat.pow_le_pow_right (by decide) (by omega)

theorem rows_bound : ∀ {L : List Rule} {low : Int} {c i : Nat}, RowsOk low c L → c < 2 ^ (200 * i + 1) → L.length + i ≤ 40 → low ≤ 10 ^ 60 + 1 → (∀ r ∈ L, r.1 ≤ 10 ^ 60 ∧ r.2 ≤ 10 ^ 60) → ∀ q ∈ rowsOf low c L, 0 < q.2.2 ∧ q.2.2 < 2 ^ 8001 ∧ 0 ≤ q.1 ∧ q.1 ≤ 10 ^ 60 + 1
  | [], low, c, i, h, hc, hl, hw, hr, q, hq => by
    rw [List.mem_singleton.mp hq]
    exact ⟨h.c0, Nat.lt_of_lt_of_le hc (Nat.pow_le_pow_right (by decide) (by omega)), h.low0, hw⟩
  | r :: L, low, c, i, h, hc, hl, hw, hr, q, hq => by
    rcases List.mem_cons.mp hq with rfl | hq
    · exact ⟨h.c0, Nat.lt_of_lt_of_le hc (Nat.pow_le_pow_right (by decide) (by omega)), h.low0, hw⟩
    · by_cases hz : r.2 = 0
      · rw [if_pos hz] at hq
        exact nomatch hq
      · rw [if_neg hz] at hq
        obtain ⟨r1, r2⟩ := hr r (List.mem_cons_self ..)
        obtain ⟨_, _, r3⟩ := h.all r (List.mem_cons_self ..)
        exact rows_bound (i := i + 1) (h.tail hz) (lcm_step hc r3 r2).2.2 (by rw [List.length_cons] at hl; omega) (by omega) (fun x hx => hr x (List.mem_cons_of_mem _ hx)) q hq
theorem rows_small {rs rs' : List Rule} (h : ScaleOk rs) (hp : rs'.Perm rs) (hs : SortedR rs') : ∀ q ∈ rowsOf 0 1 rs', 0 < q.2.2 ∧ q.2.2 < 2 ^ 8001 ∧ 0 ≤ q.1 ∧ q.1 ≤ 10 ^ 60 + 1 :=
  rows_bound (i := 0) (rows_ok h hp hs) (by decide) (by rw [hp.length_eq]; exact h.1) (by decide) fun r hr => by
    obtain ⟨_, h2, _, h4⟩ := h.2 r (hp.mem_iff.mp hr)
    exact ⟨h2, h4⟩
theorem cnt_scale {rs rs' : List Rule} (h : ScaleOk rs) (hp : rs'.Perm rs) (hs : SortedR rs') (t : Int) : manyR t (rowsOf 0 1 rs') = (cntP (fitsAll rs) 0 (t - 0 + 1).toNat : Int) := by
  rw [many_rows (rows_ok h hp hs)]
  congr 1
  exact cnt_congr fun i _ _ => by rw [fitc_one, fits_perm hp]
theorem least_scale {rs rs' : List Rule} (h : ScaleOk rs) (hp : rs'.Perm rs) (hs : SortedR rs') {t : Int} (ht : 0 < t) : IsLeastP (fitsAll rs) t (leastR t (rowsOf 0 1 rs')) := by
  have g := least_rows (num := t) (rows_ok h hp hs)
  have e : FitC 1 rs' = fitsAll rs := funext fun n => by rw [fitc_one, fits_perm hp]
  rw [e, show maxI 0 t = t from if_pos ht] at g
  exact g
theorem great_scale {rs rs' : List Rule} (h : ScaleOk rs) (hp : rs'.Perm rs) (hs : SortedR rs') (t : Int) : IsGreatP (fitsAll rs) 0 t 0 (greatR t 0 (rowsOf 0 1 rs')) := by
  have g := great_rows (num := t) (g := 0) (rows_ok h hp hs)
  have e : FitC 1 rs' = fitsAll rs := funext fun n => by rw [fitc_one, fits_perm hp]
  rw [e] at g
  exact g
theorem rows_high : ∀ {L : List Rule} {low : Int} {c : Nat}, (∀ r ∈ L, 0 ≤ r.1 ∧ r.1 ≤ 10 ^ 60) → ∀ q ∈ rowsOf low c L, ∀ b, q.2.1 = some b → 0 ≤ b ∧ b ≤ 10 ^ 60
  | [], low, c, hr, q, hq, b, e => by
    rw [List.mem_singleton.mp hq] at e
    cases e
  | r :: L, low, c, hr, q, hq, b, e => by
    rcases List.mem_cons.mp hq with rfl | hq
    · cases e
      exact hr r (List.mem_cons_self ..)
    · by_cases hz : r.2 = 0
      · rw [if_pos hz] at hq
        exact nomatch hq
      · rw [if_neg hz] at hq
        exact rows_high (fun x hx => hr x (List.mem_cons_of_mem _ hx)) q hq b e
theorem rows_lesser {rs rs' : List Rule} (h : ScaleOk rs) (hp : rs'.Perm rs) {t : Int} (ht : 0 ≤ t) : ∀ q ∈ rowsOf 0 1 rs', 0 ≤ lesserI t q.2.1 ∧ lesserI t q.2.1 ≤ t := fun q hq => by
  have g := rows_high (L := rs') (low := 0) (c := 1) (fun r hr => by
    obtain ⟨h1, h2, _⟩ := h.2 r (hp.mem_iff.mp hr)
    exact ⟨h1, h2⟩) q hq
  cases e : q.2.1 with
  | none => exact ⟨ht, Int.le_refl _⟩
  | some b =>
    obtain ⟨g1, _⟩ := g b e
    show 0 ≤ (if b < t then b else t) ∧ (if b < t then b else t) ≤ t
    split <;> omega
theorem great_least {rs : List Rule} (hOk : ScaleOk rs) {t res : Int} (ht : t ≤ 0) (h : IsGreatP (fitsAll rs) 0 (-t) 0 res) : IsLeastP (fitsAll rs) t (some (-res)) := by
  have f0 : fitsAll rs 0 = true := fits_low (b := 0) (Int.le_refl 0) (Int.le_refl 0) fun r hr => (hOk.2 r hr).1
  rcases h with ⟨h1, h2, h3, h4⟩ | ⟨rfl, h2⟩
  · refine ⟨by omega, by rw [fits_even]; exact h3, fun k k1 k2 => ?_⟩
    rw [← fits_even]
    exact h4 (-k) (by omega) (by omega)
  · exact absurd (h2 0 (Int.le_refl 0) (by omega)) (by rw [f0]; decide)
end EE

namespace EE
open PySem PySem.Spec PyProof.Rows L2
abbrev newSet (w : World) : Obj := { cls := .type "set", dict := none, data := .set #[] 0 (.fresh 0 0 (!w.params.followText "set-order")) }
section
variable {P : Program} {w : World} {A : Around} {E : Value → Shared → Prop} {s : Shared}
theorem call_set_lstI {l : Addr} {items : Array Value} (ns : List Int) {Q : Value → Shared → Prop} (hh : A.handled = none) (hl : s.heap.IsList l items) (hit : IntsAre items.toList ns) (hb : ns.length + 1 < scanBound)
    (h : ∀ (h' : Heap) (tk c : Nat), SetR w h' s.heap.objs.size (fun j => decide (j ∈ ns)) c → c ≤ ns.length → (∀ b o, s.heap.get? b = some o → h'.get? b = some o) → Q (.ref s.heap.objs.size) { s with heap := h', toks := tk }) :
    wpAny (model P w) A (call (.type "set") [.ref l]) Q E s := by
  have hisz : items.size = ns.length := by
    have q := IntsAre.length hit
    rw [Array.length_toList] at q
    exact q
  obtain ⟨c, tl, hmro⟩ := F.called_set.mro
  have hmade := F.called_set.made
  have hsub := F.called_set.sub
  refine wpAny_call (codeAny_of_tree ?_)
  show wpAny _ _ (callAny (.type "set") _) _ _ _
  refine wpAny_pure ⟨Code.quiet_builtin _ (by decide +kernel), codeAny_builtin F.entry_type_call ?_⟩
  rw [Around.under_plain (weight_type_call_type "set" [.ref l] []) rfl]
  have h1 := F.called_set.notType
  have h2 := F.called_set.canCreate
  have hct := F.typeCall_set_1 (.ref l)
  repeat (any_goals (first | assumption | wp_step))

  refine codeAny_mono (code_set_led1 (.ref l) (E := E) (Q₁ := fun obj s₁ => obj = .ref s.heap.objs.size ∧ s₁ = { s with heap := s.heap.push (newSet w) }) ⟨rfl, rfl⟩) fun r s₁ hr => ?_
  cases r with
  | error e => exact hr
  | ok fl =>
    cases fl with
    | ret obj =>
      obtain ⟨rfl, rfl⟩ := hr
      have hS : (s.heap.push (newSet w)).get? s.heap.objs.size = some (newSet w) := Heap.get?_push_size _ rfl
      have hT : Shared.TypeIs { s with heap := s.heap.push (newSet w) } (.ref s.heap.objs.size) "set" := ⟨_, hS, rfl⟩
      have hli := F.called_set.init.lookup
      have hbi := F.called_set.init.bind (.ref s.heap.objs.size)
      repeat (any_goals (first | assumption | wp_step))

      refine codeAny_mono (codeAny_call_builtin (R := wants (fun r s₂ => r = .none ∧ ∃ h' tk c, s₂ = { s with heap := h', toks := tk } ∧ SetR w h' s.heap.objs.size (fun j => decide (j ∈ ns)) c ∧ c ≤ ns.length ∧
          (∀ b o, s.heap.get? b = some o → h'.get? b = some o)) E) F.called_set.init.plain F.entry_set_init (check_set_init_1 hT ?_)) fun r₂ s₂ hr₂ => ?_
      · obtain ⟨ol, hol, hcl, nl, hdl⟩ := hl
        obtain ⟨ocls, odict, odata, oslots⟩ := ol
        simp only at hcl hdl
        subst hcl; subst hdl
        have hol' : (s.heap.push (newSet w)).get? l = some { cls := .type "list", dict := odict, data := .seq items nl, slots := oslots } := Heap.get?_push_of_some _ hol
        have hsls := F.sub_list_set
        have hslf := F.sub_list_frozenset
        have hne : (Value.type "list" == Value.type "dict") = false := by decide
        have hl1 : (s.heap.push (newSet w)).IsList l items := ⟨_, hol', rfl, nl, rfl⟩
        unfold Builtin.«set.__init__» noKeywords Builtin.Frozenset.updateFrom
        generalize hPI : pyIter = PI
        wp_walk
        subst hPI

        refine wpAny_pyIter_list hl1 ?_
        refine wpAny_bind (wpAny_runValue ?_)
        have hlS : l < s.heap.objs.size := Heap.lt_size hol
        have hh3 : A.in1.in1.in1.handled = none := by simp [hh]
        have hz1 : (s.heap.push (newSet w)).objs.size = s.heap.objs.size + 1 := Heap.size_push ..
        have hneI : l ≠ (s.heap.push (newSet w)).objs.size := by
          rw [Heap.size_push]; exact Nat.ne_of_lt (Nat.lt_succ_of_lt hlS)
        have hSf : s.heap.objs.size ∉ [(s.heap.push (newSet w)).objs.size, l] := by
          rw [Heap.size_push]; simp only [List.mem_cons, List.mem_singleton, List.not_mem_nil, or_false, not_or]
          exact ⟨Nat.ne_of_lt (Nat.lt_succ_self _), Nat.ne_of_gt hlS⟩
        have hval : ∀ (i : Nat) (v : Value), items[i]? = some v → ∃ k t, ns[i]? = some k ∧ v = .int k t := fun i v hv => by
          have hi : i < ns.length := by rw [← hisz]; exact (Array.getElem?_eq_some_iff.mp hv).1
          obtain ⟨t, e⟩ := PyProof.Rows.IntsAre.int_at hit i v (by rw [Array.getElem?_toList]; exact hv)
          refine ⟨ns[i], t, List.getElem?_eq_getElem hi, ?_⟩
          rw [e, List.getD_eq_getElem?_getD, List.getElem?_eq_getElem hi] <;> rfl
        refine set_update_ints ((Walks.list hh3 _ l hneI items).toS) s.heap.objs.size
          hSf ns hisz hb hval (items.size - 0) 0 _ (by omega) (Nat.zero_le _)
          ⟨⟨_, Heap.get?_push_size _ rfl, rfl, rfl⟩, (hl1.push _)⟩ ?hS0 ?hR
        case hS0 =>
          have hget : ((s.heap.push (newSet w)).push { cls := .type "list_iterator", data := .fields #[.ref l, .int 0 0] }).get? s.heap.objs.size
              = some (newSet w) := Heap.get?_push_of_some _ hS
          exact ⟨0, Nat.le_refl 0, setR_new_at hget⟩
        case hR =>
          intro s' c' hm hc' hS'
          obtain ⟨h', g2, d', tk', os'⟩ := s'
          have eg : g2 = s.gens := hm.gens
          have ed : d' = s.drawn := hm.drawn
          have eo : os' = s.os := hm.os
          subst eg; subst ed; subst eo
          show wpAny _ _ _ _ _ _
          refine wpAny_pure ?_
          show wpAny _ _ (ret Value.none) _ _ _
          rw [hisz] at hc'
          refine wpAny_pure ⟨rfl, h', tk', c', rfl, hS', hc', fun b o e => ?_⟩
          have hb0 : b < s.heap.objs.size := Heap.lt_size e
          have hb1 : b ≠ s.heap.objs.size := Nat.ne_of_lt hb0
          have hb2 : b ≠ (s.heap.push (newSet w)).objs.size := by
            rw [Heap.size_push]; exact Nat.ne_of_lt (Nat.lt_succ_of_lt hb0)
          exact hm.heap b o (by simp only [List.mem_cons, List.mem_singleton, List.not_mem_nil, or_false, not_or]; exact ⟨hb1, hb2⟩) (Heap.get?_push_of_some _ (Heap.get?_push_of_some _ e))

      · cases r₂ with
        | error e => exact hr₂
        | ok fl₂ =>
          cases fl₂ with
          | ret r =>
            obtain ⟨rfl, h', tk, c', rfl, hS', hc', hk'⟩ := hr₂
            repeat (any_goals (first | assumption | wp_step))
            exact h _ _ _ hS' hc' hk'
          | _ => exact hr₂.elim
    | _ => exact hr.elim

end
/-- set(xs), xs a list of ints -/
def rSetL1 (K : PySem.W.Frag) (w : World) : List V → Hp → VK → Prop := fun vs H Q => ∃ (l : Addr) (ns : List Int), vs = [V.ref l] ∧ SqL K H l (ns.map V.int) ∧ ns.length ≤ 1000 ∧ ∀ p c, H p = none → c ≤ ns.length → Q (.ref p) (upd H p (SetO w p (fun j => decide (j ∈ ns)) c))
theorem cr_setL1 {X : Cx} (hc : X.calm = true) : CallR X (.type "set") (rSetL1 X.K X.w) := by
  intro pins s σ H vs us Q I r h
  obtain ⟨l, ns, rfl, hs, hz, q⟩ := h
  obtain ⟨its, rv, hl, _⟩ := I.list hs
  obtain ⟨u, rfl, ru⟩ := vals1 r
  obtain rfl : u = Value.ref l := ru
  refine call_set_lstI ns (I.ok.hd hc) hl.isList (by simpa using ints_of_vals rv) (by show ns.length + 1 < scanBound; unfold scanBound; omega) fun h' tk c R hcn k => ?_
  have hn : H s.heap.objs.size = none := I.hok.fresh (Nat.le_refl _)
  exact ⟨.ref s.heap.objs.size, _, I.laid (t' := tk) k (Nat.le_refl _) (setO_new R), rfl, q _ c hn hcn⟩
end EE

namespace EE
open PySem PySem.Spec PyProof.Rows L2
/-! ### what the laws' own helpers promise (great scales) -/
def RuleG (r : Rule) : Prop := 0 ≤ r.1 ∧ r.1 ≤ 10 ^ 60 ∧ (r.2 = 0 ∨ (2 ≤ r.2 ∧ r.2 ≤ 10 ^ 60))
def RulesG (n : Nat) (rs : List Rule) : Prop := rs.length ≤ n ∧ ∀ r ∈ rs, RuleG r
theorem RulesG.ok {rs : List Rule} (h : RulesG 40 rs) : ScaleOk rs := ⟨h.1, fun r hr => by
  obtain ⟨h1, h2, h3⟩ := h.2 r hr
  have e : (0 : Int) ≤ 10 ^ 60 := by decide
  refine ⟨h1, h2, by omega, by omega⟩⟩
/-- all steps divide a number that is not too great -/
def StepsIn (rs : List Rule) : Prop := ∃ M : Int, 1 ≤ M ∧ M ≤ 10 ^ 60 ∧ ∀ r ∈ rs, r.2 = 0 ∨ r.2 ∣ M
def prodK : List Rule → Int
  | [] => 1
  | k :: ks => k.1 ^ (max 3 k.2.toNat) * prodK ks
theorem prodK_app : ∀ (ks : List Rule) (k : Rule), prodK (ks ++ [k]) = prodK ks * k.1 ^ (max 3 k.2.toNat)
  | [], k => by
    show k.1 ^ (max 3 k.2.toNat) * 1 = 1 * k.1 ^ (max 3 k.2.toNat)
    rw [Int.mul_one, Int.one_mul]
  | x :: ks, k => by
    show x.1 ^ (max 3 x.2.toNat) * prodK (ks ++ [k]) = x.1 ^ (max 3 x.2.toNat) * prodK ks * k.1 ^ (max 3 k.2.toNat)
    rw [prodK_app, Int.mul_assoc]
def kindsD (ks : List Rule) : D := .list (ks.map ruleD)
def KindsG (ks : List Rule) : Prop := ks ≠ [] ∧ (∀ k ∈ ks, 2 ≤ k.1 ∧ k.1 < 128 ∧ 0 ≤ k.2 ∧ k.2 ≤ 190) ∧ (ks.map fun k => max 3 k.2.toNat).sum ≤ 199 ∧ prodK ks ≤ 10 ^ 60
def sp_law_fits (K : PySem.W.Frag) : Sp := fun vs H Q _ => ∃ (dk : Dk) (Γ : List (Addr × List D)) (Δ : List (V × D)) (a : Addr) (rs : List Rule) (n : Int), vs = [.ref a, .int n] ∧ St K H dk Γ Δ ∧ (V.ref a, scaleD rs) ∈ Δ ∧ (∀ r ∈ rs, 0 ≤ r.2) ∧ ∀ H', St K H' dk Γ Δ → Q (.bl (fitsAll rs n)) H'
def sp_law_mixed (K : PySem.W.Frag) : Sp := fun vs H Q _ => ∃ (d l a : Addr) (ds : List D) (Γ : List (Addr × List D)) (Δ : List (V × D)), vs = [.ref d, .ref a] ∧ St K H (some (d, l)) Γ Δ ∧ (V.ref a, PyData.list ds) ∈ Δ ∧ Lay 60 ds ∧ ds.length ≤ 10000 ∧
  ∀ H' p es, es.Perm ds → St K H' (some (d, l)) ((p, es) :: Γ) Δ → Q (.ref p) H'
def sp_law_divisor (K : PySem.W.Frag) : Sp := fun vs H Q _ => ∃ (x y : Int), vs = [.int x, .int y] ∧ 0 ≤ x ∧ 0 ≤ y ∧ Q (.int ((Int.gcd x y : Nat) : Int)) H
def sp_law_raised (K : PySem.W.Frag) : Sp := fun vs H Q _ => ∃ (b : Int) (t : Nat), vs = [.int b, .int (t : Int)] ∧ 0 ≤ b ∧ b < 2 ^ 7 ∧ t ≤ 1000 ∧ Q (.int (b ^ t)) H
/-- the least common multiple of all, 0 where a 0 is among them -/
def lcmI (c : Nat) (ns : List Int) : Nat := ns.foldl (fun c x => Nat.lcm c x.natAbs) c
def sp_law_multiple (K : PySem.W.Frag) : Sp := fun vs H Q _ => ∃ (dk : Dk) (Γ : List (Addr × List D)) (Δ : List (V × D)) (a : Addr) (ns : List Int), vs = [.ref a] ∧ St K H dk Γ Δ ∧ (V.ref a, PyData.list (ns.map PyData.int)) ∈ Δ ∧ (∀ x ∈ ns, 0 ≤ x ∧ x ≤ 10 ^ 60) ∧ ns.length ≤ 40 ∧
  ∀ H', St K H' dk Γ Δ → Q (.int (lcmI 1 ns : Nat)) H'
def sp_law_step (K : PySem.W.Frag) : Sp := fun vs H Q _ => ∃ (d l a : Addr) (ks : List Rule) (Γ : List (Addr × List D)) (Δ : List (V × D)), vs = [.ref d, .ref a] ∧ St K H (some (d, l)) Γ Δ ∧ (V.ref a, kindsD ks) ∈ Δ ∧ KindsG ks ∧
  ∀ H' (m : Int), St K H' (some (d, l)) Γ Δ → 2 ≤ m → m ≤ 10 ^ 60 → m ∣ prodK ks → Q (.int m) H'
def sp_law_kinds (K : PySem.W.Frag) : Sp := fun vs H Q _ => ∃ (d l : Addr) (Γ : List (Addr × List D)) (Δ : List (V × D)), vs = [.ref d] ∧ St K H (some (d, l)) Γ Δ ∧
  ∀ H' v ks, KindsG ks → St K H' (some (d, l)) Γ ((v, kindsD ks) :: Δ) → Q v H'
def sp_law_great (K : PySem.W.Frag) : Sp := fun vs H Q _ => ∃ (d l : Addr) (m : Int) (Γ : List (Addr × List D)) (Δ : List (V × D)), vs = [.ref d, .int m] ∧ St K H (some (d, l)) Γ Δ ∧ 1 ≤ m ∧ m ≤ 40 ∧
  ∀ H' v rs, RulesG 40 rs → StepsIn rs → rs ≠ [] → St K H' (some (d, l)) Γ ((v, scaleD rs) :: Δ) → Q v H'
/-- a new thing that nobody asks for -/
theorem St.junk {K : PySem.W.Frag} {H : Hp} {dk : Dk} {Γ : List (Addr × List D)} {Δ : List (V × D)} {p : Addr} {o : HO} (h : St K H dk Γ Δ) (hp : H p = none) : St K (upd H p o) dk Γ Δ := by
  obtain ⟨H0, I⟩ := h
  refine ⟨H0, fun b u e => ?_, I.data, fun g hg => ?_, I.nd, fun d l e => ?_⟩
  · rw [upd_ne (ne_of_none (I.le b u e) hp)]
    exact I.le b u e
  · obtain ⟨g0, vs, g1, g2⟩ := I.lists g hg
    rw [upd_ne (ne_of_none g1 hp)]
    exact ⟨g0, vs, g1, g2⟩
  · obtain ⟨a1, a2, a3, s, xs, b1, b2, b3⟩ := I.deck d l e
    exact ⟨a1, a2, a3, s, xs, (upd_ne (ne_of_none b1 hp)).trans b1, (upd_ne (ne_of_none b2 hp)).trans b2, b3⟩
end EE

namespace K04
open PySem PySem.Spec PyProof.Rows L2 EE
def topS (i : Nat) : Stmt := PySem.Challenge.pw_everyexact_k04_whole_great_stretches.main.body.getD i (.Pass ⟨0, 0, 0, 0⟩)
abbrev sfits_rule : Stmt := topS 4
theorem scfits_rule : FnScope ["rule", "number", "bound", "step"] ["rule", "number"] (defScope sfits_rule) := ⟨rfl, rfl, rfl, by decide +kernel, rfl, by decide +kernel, by decide +kernel⟩
abbrev sbroken : Stmt := topS 3
theorem scbroken : FnScope ["scale", "number", "place", "rule"] ["scale", "number"] (defScope sbroken) := ⟨rfl, rfl, rfl, by decide +kernel, rfl, by decide +kernel, by decide +kernel⟩
abbrev sfits : Stmt := topS 2
theorem scfits : FnScope ["scale", "number"] ["scale", "number"] (defScope sfits) := ⟨rfl, rfl, rfl, by decide +kernel, rfl, by decide +kernel, by decide +kernel⟩
abbrev sstretches : Stmt := topS 5
theorem scstretches : FnScope ["scale", "rows", "low", "common", "bound", "step"] ["scale"] (defScope sstretches) := ⟨rfl, rfl, rfl, by decide +kernel, rfl, by decide +kernel, by decide +kernel⟩
abbrev sfirst_multiple : Stmt := topS 6
theorem scfirst_multiple : FnScope ["step", "low"] ["step", "low"] (defScope sfirst_multiple) := ⟨rfl, rfl, rfl, by decide +kernel, rfl, by decide +kernel, by decide +kernel⟩
abbrev slesser : Stmt := topS 9
theorem sclesser : FnScope ["top", "high"] ["top", "high"] (defScope slesser) := ⟨rfl, rfl, rfl, by decide +kernel, rfl, by decide +kernel, by decide +kernel⟩
abbrev smany_to : Stmt := topS 8
theorem scmany_to : FnScope ["scale", "top", "many", "low", "high", "step", "last"] ["scale", "top"] (defScope smany_to) := ⟨rfl, rfl, rfl, by decide +kernel, rfl, by decide +kernel, by decide +kernel⟩
abbrev sfitting_many : Stmt := topS 7
theorem scfitting_many : FnScope ["scale", "low", "high"] ["scale", "low", "high"] (defScope sfitting_many) := ⟨rfl, rfl, rfl, by decide +kernel, rfl, by decide +kernel, by decide +kernel⟩
abbrev sleast_from : Stmt := topS 11
theorem scleast_from : FnScope ["scale", "number", "low", "high", "step", "found"] ["scale", "number"] (defScope sleast_from) := ⟨rfl, rfl, rfl, by decide +kernel, rfl, by decide +kernel, by decide +kernel⟩
abbrev sgreatest_to : Stmt := topS 12
theorem scgreatest_to : FnScope ["scale", "number", "greatest", "low", "high", "step", "found"] ["scale", "number"] (defScope sgreatest_to) := ⟨rfl, rfl, rfl, by decide +kernel, rfl, by decide +kernel, by decide +kernel⟩
abbrev sfitting_from : Stmt := topS 10
theorem scfitting_from : FnScope ["scale", "number"] ["scale", "number"] (defScope sfitting_from) := ⟨rfl, rfl, rfl, by decide +kernel, rfl, by decide +kernel, by decide +kernel⟩
abbrev s_law_mixed : Stmt := topS 17
theorem sc_law_mixed : FnScope ["deck", "items", "left", "found"] ["deck", "items"] (defScope s_law_mixed) := ⟨rfl, rfl, rfl, by decide +kernel, rfl, by decide +kernel, by decide +kernel⟩
abbrev s_law_divisor : Stmt := topS 18
theorem sc_law_divisor : FnScope ["one", "other"] ["one", "other"] (defScope s_law_divisor) := ⟨rfl, rfl, rfl, by decide +kernel, rfl, by decide +kernel, by decide +kernel⟩
abbrev s_law_multiple : Stmt := topS 19
theorem sc_law_multiple : FnScope ["steps", "found", "step"] ["steps"] (defScope s_law_multiple) := ⟨rfl, rfl, rfl, by decide +kernel, rfl, by decide +kernel, by decide +kernel⟩
abbrev s_law_fits : Stmt := topS 20
theorem sc_law_fits : FnScope ["scale", "number", "bound", "step"] ["scale", "number"] (defScope s_law_fits) := ⟨rfl, rfl, rfl, by decide +kernel, rfl, by decide +kernel, by decide +kernel⟩
abbrev s_law_raised : Stmt := topS 22
theorem sc_law_raised : FnScope ["base", "times", "found", "turn"] ["base", "times"] (defScope s_law_raised) := ⟨rfl, rfl, rfl, by decide +kernel, rfl, by decide +kernel, by decide +kernel⟩
abbrev s_law_deck : Stmt := topS 14
theorem sc_law_deck : FnScope ["script", "deck", "cell", "whole", "state"] ["script"] (defScope s_law_deck) := ⟨rfl, rfl, rfl, by decide +kernel, rfl, by decide +kernel, by decide +kernel⟩
abbrev s_law_draw : Stmt := topS 15
theorem sc_law_draw : FnScope ["deck", "many", "whole", "one", "two"] ["deck", "many"] (defScope s_law_draw) := ⟨rfl, rfl, rfl, by decide +kernel, rfl, by decide +kernel, by decide +kernel⟩
abbrev s_law_pick : Stmt := topS 16
theorem sc_law_pick : FnScope ["deck", "items"] ["deck", "items"] (defScope s_law_pick) := ⟨rfl, rfl, rfl, by decide +kernel, rfl, by decide +kernel, by decide +kernel⟩
abbrev s_law_step : Stmt := topS 23
theorem sc_law_step : FnScope ["deck", "kinds", "found", "prime", "most"] ["deck", "kinds"] (defScope s_law_step) := ⟨rfl, rfl, rfl, by decide +kernel, rfl, by decide +kernel, by decide +kernel⟩
abbrev s_law_kinds : Stmt := topS 24
theorem sc_law_kinds : FnScope ["deck", "menu"] ["deck"] (defScope s_law_kinds) := ⟨rfl, rfl, rfl, by decide +kernel, rfl, by decide +kernel, by decide +kernel⟩
abbrev s_law_great : Stmt := topS 25
theorem sc_law_great : FnScope ["deck", "most", "kinds", "found", "top", "many", "turn", "step", "times", "bound"] ["deck", "most"] (defScope s_law_great) := ⟨rfl, rfl, rfl, by decide +kernel, rfl, by decide +kernel, by decide +kernel⟩
abbrev s_law_parts : Stmt := topS 21
theorem sc_law_parts : FnScope ["scale", "bounds", "found", "bound", "step", "low", "own"] ["scale"] (defScope s_law_parts) := ⟨rfl, rfl, rfl, by decide +kernel, rfl, by decide +kernel, by decide +kernel⟩
abbrev s_law_above : Stmt := topS 26
theorem sc_law_above : FnScope ["parts", "low", "high", "found", "first", "last", "step", "start", "stop"] ["parts", "low", "high"] (defScope s_law_above) := ⟨rfl, rfl, rfl, by decide +kernel, rfl, by decide +kernel, by decide +kernel⟩
abbrev s_law_many : Stmt := topS 27
theorem sc_law_many : FnScope ["parts", "low", "high", "found"] ["parts", "low", "high"] (defScope s_law_many) := ⟨rfl, rfl, rfl, by decide +kernel, rfl, by decide +kernel, by decide +kernel⟩
abbrev s_law_next : Stmt := topS 28
theorem sc_law_next : FnScope ["parts", "number", "below", "first", "last", "step", "stop", "start"] ["parts", "number"] (defScope s_law_next) := ⟨rfl, rfl, rfl, by decide +kernel, rfl, by decide +kernel, by decide +kernel⟩
abbrev s_law_spots : Stmt := topS 29
theorem sc_law_spots : FnScope ["deck", "scale", "found", "turn", "bound", "step", "near"] ["deck", "scale"] (defScope s_law_spots) := ⟨rfl, rfl, rfl, by decide +kernel, rfl, by decide +kernel, by decide +kernel⟩
abbrev slaw : Stmt := topS 30
theorem sclaw : FnScope ["script", "deck", "turn", "scale", "parts", "spots", "kept", "again", "low", "amid", "high", "due", "seen", "rest", "number"] ["script"] (defScope slaw) := ⟨rfl, rfl, rfl, by decide +kernel, rfl, by decide +kernel, by decide +kernel⟩
/-! ### the promises -/
def spstretches (K : PySem.W.Frag) : Sp := fun vs H Q _ => ∃ (dk : Dk) (Γ : List (Addr × List D)) (Δ : List (V × D)) (a : Addr) (rs : List Rule), vs = [.ref a] ∧ St K H dk Γ Δ ∧ (V.ref a, scaleD rs) ∈ Δ ∧ ScaleOk rs ∧
  ∀ H' p rs', rs'.Perm rs → SortedR rs' → St K H' dk ((p, (rowsOf 0 1 rs').map rowD) :: Γ) Δ → Q (.ref p) H'
def spfirst_multiple (K : PySem.W.Frag) : Sp := fun vs H Q _ => ∃ (c : Nat) (l : Int), vs = [.int (c : Int), .int l] ∧ 0 < c ∧ c < 2 ^ 8001 ∧ l.natAbs < 2 ^ 9000 ∧ Q (.int (firstMul c l)) H
def splesser (K : PySem.W.Frag) : Sp := fun vs H Q _ => ∃ (t : Int) (o : Option Int), vs = [.int t, optV o] ∧ Q (.int (lesserI t o)) H
def spmany_to (K : PySem.W.Frag) : Sp := fun vs H Q _ => ∃ (dk : Dk) (Γ : List (Addr × List D)) (Δ : List (V × D)) (a : Addr) (rs : List Rule) (t : Int), vs = [.ref a, .int t] ∧ St K H dk Γ Δ ∧ (V.ref a, scaleD rs) ∈ Δ ∧ ScaleOk rs ∧
  ∀ H', St K H' dk Γ Δ → Q (.int (cntP (fitsAll rs) 0 (t - 0 + 1).toNat : Nat)) H'
def spfitting_many (K : PySem.W.Frag) : Sp := fun vs H Q _ => ∃ (dk : Dk) (Γ : List (Addr × List D)) (Δ : List (V × D)) (a : Addr) (rs : List Rule) (l h : Int), vs = [.ref a, .int l, .int h] ∧ St K H dk Γ Δ ∧ (V.ref a, scaleD rs) ∈ Δ ∧ ScaleOk rs ∧ l ≤ h ∧
  ∀ H', St K H' dk Γ Δ → Q (.int (cntP (fitsAll rs) l (h - l + 1).toNat : Nat)) H'
def spleast_from (K : PySem.W.Frag) : Sp := fun vs H Q _ => ∃ (dk : Dk) (Γ : List (Addr × List D)) (Δ : List (V × D)) (a : Addr) (rs : List Rule) (t : Int), vs = [.ref a, .int t] ∧ St K H dk Γ Δ ∧ (V.ref a, scaleD rs) ∈ Δ ∧ ScaleOk rs ∧ 0 < t ∧ t.natAbs < 2 ^ 8000 ∧
  ∀ H' o, IsLeastP (fitsAll rs) t o → St K H' dk Γ Δ → Q (optV o) H'
def spgreatest_to (K : PySem.W.Frag) : Sp := fun vs H Q _ => ∃ (dk : Dk) (Γ : List (Addr × List D)) (Δ : List (V × D)) (a : Addr) (rs : List Rule) (t : Int), vs = [.ref a, .int t] ∧ St K H dk Γ Δ ∧ (V.ref a, scaleD rs) ∈ Δ ∧ ScaleOk rs ∧ 0 ≤ t ∧ t.natAbs < 2 ^ 8000 ∧
  ∀ H' res, IsGreatP (fitsAll rs) 0 t 0 res → St K H' dk Γ Δ → Q (.int res) H'
def spfitting_from (K : PySem.W.Frag) : Sp := fun vs H Q _ => ∃ (dk : Dk) (Γ : List (Addr × List D)) (Δ : List (V × D)) (a : Addr) (rs : List Rule) (t : Int), vs = [.ref a, .int t] ∧ St K H dk Γ Δ ∧ (V.ref a, scaleD rs) ∈ Δ ∧ ScaleOk rs ∧ t.natAbs < 2 ^ 8000 ∧
  ∀ H' o, IsLeastP (fitsAll rs) t o → St K H' dk Γ Δ → Q (optV o) H'
def firstBad : List Rule → Int → Option Nat
  | [], _ => none
  | r :: rs, n => if fitR r n = true then (firstBad rs n).map (· + 1) else some 0
def placeV : Option Nat → V
  | none => .non
  | some i => .int (i : Int)
def spfits_rule (K : PySem.W.Frag) : Sp := fun vs H Q _ => ∃ (dk : Dk) (Γ : List (Addr × List D)) (Δ : List (V × D)) (a : Addr) (r : Rule) (n : Int), vs = [.ref a, .int n] ∧ St K H dk Γ Δ ∧ (V.ref a, ruleD r) ∈ Δ ∧ 0 ≤ r.2 ∧ ∀ H', St K H' dk Γ Δ → Q (.bl (fitR r n)) H'
def spbroken (K : PySem.W.Frag) : Sp := fun vs H Q _ => ∃ (dk : Dk) (Γ : List (Addr × List D)) (Δ : List (V × D)) (a : Addr) (rs : List Rule) (n : Int), vs = [.ref a, .int n] ∧ St K H dk Γ Δ ∧ (V.ref a, scaleD rs) ∈ Δ ∧ (∀ r ∈ rs, 0 ≤ r.2) ∧ ∀ H', St K H' dk Γ Δ → Q (placeV (firstBad rs n)) H'
def spfits (K : PySem.W.Frag) : Sp := fun vs H Q _ => ∃ (dk : Dk) (Γ : List (Addr × List D)) (Δ : List (V × D)) (a : Addr) (rs : List Rule) (n : Int), vs = [.ref a, .int n] ∧ St K H dk Γ Δ ∧ (V.ref a, scaleD rs) ∈ Δ ∧ (∀ r ∈ rs, 0 ≤ r.2) ∧ ∀ H', St K H' dk Γ Δ → Q (.bl (fitsAll rs n)) H'
/-! ### parts -/
abbrev Part := Int × Int × Nat
def partD (p : Part) : D := .tuple [.int p.1, .int p.2.1, .int (p.2.2 : Int)]
/-- parts from low on tell what fits -/
inductive PartsFrom (rs : List Rule) : Int → List Part → Prop
  | last {low : Int} {m : Nat} (h0 : 1 ≤ low) (hm : m < 2 ^ 8001) (hl : low ≤ 10 ^ 60 + 1) (h : ∀ n, low ≤ n → (fitsAll rs n = true ↔ 0 < m ∧ mulP m n = true)) : PartsFrom rs low [(low, -1, m)]
  | cons {low b : Int} {m : Nat} {ps : List Part} (h0 : 1 ≤ low) (hm : m < 2 ^ 8001) (hb : low ≤ b) (hb2 : b ≤ 10 ^ 60) (h : ∀ n, low ≤ n → n ≤ b → (fitsAll rs n = true ↔ 0 < m ∧ mulP m n = true)) (t : PartsFrom rs (b + 1) ps) : PartsFrom rs low ((low, b, m) :: ps)
def sp_law_parts (K : PySem.W.Frag) : Sp := fun vs H Q _ => ∃ (dk : Dk) (Γ : List (Addr × List D)) (Δ : List (V × D)) (a : Addr) (rs : List Rule), vs = [.ref a] ∧ St K H dk Γ Δ ∧ (V.ref a, scaleD rs) ∈ Δ ∧ RulesG 40 rs ∧
  ∀ H' p ps, ps.length ≤ 41 → PartsFrom rs 1 ps → St K H' dk ((p, ps.map partD) :: Γ) Δ → Q (.ref p) H'
def sp_law_above (K : PySem.W.Frag) : Sp := fun vs H Q _ => ∃ (dk : Dk) (Γ : List (Addr × List D)) (Δ : List (V × D)) (a : Addr) (rs : List Rule) (ps : List Part) (l h : Int), vs = [.ref a, .int l, .int h] ∧ St K H dk Γ Δ ∧ (V.ref a, PyData.list (ps.map partD)) ∈ Δ ∧ PartsFrom rs 1 ps ∧ 1 ≤ l ∧
  ∀ H', St K H' dk Γ Δ → Q (.int (cntP (fitsAll rs) l (h - l + 1).toNat : Nat)) H'
def sp_law_many (K : PySem.W.Frag) : Sp := fun vs H Q _ => ∃ (dk : Dk) (Γ : List (Addr × List D)) (Δ : List (V × D)) (a : Addr) (rs : List Rule) (ps : List Part) (l h : Int), vs = [.ref a, .int l, .int h] ∧ St K H dk Γ Δ ∧ (V.ref a, PyData.list (ps.map partD)) ∈ Δ ∧ PartsFrom rs 1 ps ∧ fitsAll rs 0 = true ∧ l ≤ h ∧
  ∀ H', St K H' dk Γ Δ → Q (.int (cntP (fitsAll rs) l (h - l + 1).toNat : Nat)) H'
def sp_law_next (K : PySem.W.Frag) : Sp := fun vs H Q _ => ∃ (dk : Dk) (Γ : List (Addr × List D)) (Δ : List (V × D)) (a : Addr) (rs : List Rule) (ps : List Part) (t : Int), vs = [.ref a, .int t] ∧ St K H dk Γ Δ ∧ (V.ref a, PyData.list (ps.map partD)) ∈ Δ ∧ PartsFrom rs 1 ps ∧ fitsAll rs 0 = true ∧ ps.length ≤ 41 ∧ t.natAbs < 2 ^ 8000 ∧
  ∀ H' o, IsLeastP (fitsAll rs) t o → St K H' dk Γ Δ → Q (optV o) H'
def sp_law_spots (K : PySem.W.Frag) : Sp := fun vs H Q _ => ∃ (d l a : Addr) (rs : List Rule) (Γ : List (Addr × List D)) (Δ : List (V × D)), vs = [.ref d, .ref a] ∧ St K H (some (d, l)) Γ Δ ∧ (V.ref a, scaleD rs) ∈ Δ ∧ RulesG 40 rs ∧ rs ≠ [] ∧
  ∀ H' p (ns : List Int), ns.length = 11 → (∀ n ∈ ns, -(10 ^ 60) ≤ n ∧ n ≤ 10 ^ 60) → St K H' (some (d, l)) ((p, ns.map PyData.int) :: Γ) Δ → Q (.ref p) H'
def splaw (K : PySem.W.Frag) : Sp := fun vs H Q _ => ∃ (a : Addr) (ns : List Int), vs = [.ref a] ∧ SqL K H a (ns.map V.int) ∧ ns.length ≤ 63 ∧ ∀ H', Q (.bl true) H'
theorem dv_place {Δ : List (V × D)} {o : Option Nat} : Dv Δ (placeV o) (match o with | none => .none | some i => .int (i : Int)) := by
  cases o with
  | none => exact .non
  | some i => exact .int _
def stopI (h b : Int) : Int := if b = -1 then h else if h < b then h else b
def aboveR (l h : Int) : List Part → Int
  | [] => 0
  | p :: ps => (if 0 < p.2.2 ∧ maxI p.1 l ≤ stopI h p.2.1 then stopI h p.2.1 / (p.2.2 : Int) - (maxI p.1 l - 1) / (p.2.2 : Int) else 0) + aboveR l h ps
theorem fits_mul {rs : List Rule} {m : Nat} {n : Int} (h : fitsAll rs n = true ↔ 0 < m ∧ mulP m n = true) (hm : 0 < m) : fitsAll rs n = mulP m n := by
  rw [Bool.eq_iff_iff, h]
  exact ⟨fun x => x.2, fun x => ⟨hm, x⟩⟩
theorem fits_none {rs : List Rule} {m : Nat} {n : Int} (h : fitsAll rs n = true ↔ 0 < m ∧ mulP m n = true) (hm : ¬ 0 < m) : fitsAll rs n = false := by
  rw [Bool.eq_false_iff]
  intro c
  exact hm (h.mp c).1
theorem above_one {rs : List Rule} {m : Nat} {s t : Int} (h : ∀ n, s ≤ n → n ≤ t → (fitsAll rs n = true ↔ 0 < m ∧ mulP m n = true)) :
    (if 0 < m ∧ s ≤ t then t / (m : Int) - (s - 1) / (m : Int) else 0) = (cntP (fitsAll rs) s (t - s + 1).toNat : Int) := by
  by_cases hm : 0 < m
  · have e : (if 0 < m ∧ s ≤ t then t / (m : Int) - (s - 1) / (m : Int) else 0) = if s ≤ t then t / (m : Int) - (s - 1) / (m : Int) else 0 := by
      by_cases c : s ≤ t
      · rw [if_pos ⟨hm, c⟩, if_pos c]
      · rw [if_neg fun x => c x.2, if_neg c]
    rw [e, many_first hm]
    congr 1
    exact cnt_congr fun i h1 h2 => (fits_mul (h i h1 (by omega)) hm).symm
  · rw [if_neg fun x => hm x.1, cnt_zero fun i h1 h2 => fits_none (h i h1 (by omega)) hm]
    rfl
theorem above_rows {rs : List Rule} {l h : Int} {low : Int} {ps : List Part} (hp : PartsFrom rs low ps) : aboveR l h ps = (cntP (fitsAll rs) (maxI low l) (h - maxI low l + 1).toNat : Int) := by
  induction hp with
  | @last low m h0 hm hl hf =>
    show (if 0 < m ∧ maxI low l ≤ stopI h (-1) then stopI h (-1) / (m : Int) - (maxI low l - 1) / (m : Int) else 0) + 0 = _
    have e : stopI h (-1) = h := if_pos rfl
    rw [e, Int.add_zero]
    refine above_one fun n h1 _ => hf n ?_
    unfold maxI at h1
    split at h1 <;> omega
  | @cons low b m ps h0 hm hb hb2 hf t ih =>
    show (if 0 < m ∧ maxI low l ≤ stopI h b then stopI h b / (m : Int) - (maxI low l - 1) / (m : Int) else 0) + aboveR l h ps = _
    have hs : low ≤ maxI low l ∧ l ≤ maxI low l ∧ (maxI low l = low ∨ maxI low l = l) := by
      unfold maxI
      split <;> omega
    have hs2 : b + 1 ≤ maxI (b + 1) l ∧ l ≤ maxI (b + 1) l ∧ (maxI (b + 1) l = b + 1 ∨ maxI (b + 1) l = l) := by
      unfold maxI
      split <;> omega
    have ht : stopI h b ≤ b ∧ stopI h b ≤ h ∧ (stopI h b = b ∨ stopI h b = h) := by
      unfold stopI
      rw [if_neg (by omega)]
      split <;> omega
    rw [ih, above_one fun n h1 h2 => hf n (by omega) (by omega)]
    generalize maxI low l = s at hs
    generalize maxI (b + 1) l = s2 at hs2
    generalize stopI h b = e at ht
    by_cases c1 : b < s
    · rw [show (e - s + 1).toNat = 0 by omega, show s2 = s by omega]
      show (0 : Int) + _ = _
      rw [Int.zero_add]
    · by_cases c2 : h ≤ b
      · rw [show e = h by omega, show (h - s2 + 1).toNat = 0 by omega]
        show _ + (0 : Int) = _
        rw [Int.add_zero]
      · rw [show e = b by omega, show s2 = b + 1 by omega, show (h - s + 1).toNat = (b - s + 1).toNat + (h - (b + 1) + 1).toNat by omega, cnt_add, Int.natCast_add, show s + ((b - s + 1).toNat : Int) = b + 1 by omega]
theorem parts_small {rs : List Rule} {low : Int} {ps : List Part} (hp : PartsFrom rs low ps) : ∀ p ∈ ps, p.2.2 < 2 ^ 8001 ∧ 1 ≤ p.1 ∧ p.1 ≤ 10 ^ 60 + 1 ∧ -1 ≤ p.2.1 ∧ p.2.1 ≤ 10 ^ 60 := by
  have e : (-1 : Int) ≤ 10 ^ 60 := by decide
  induction hp with
  | last h0 hm hl hf =>
    intro p hp
    rw [List.mem_singleton.mp hp]
    exact ⟨hm, h0, hl, Int.le_refl _, e⟩
  | cons h0 hm hb hb2 hf t ih =>
    intro p hp
    rcases List.mem_cons.mp hp with rfl | hp
    · exact ⟨hm, h0, by dsimp only; omega, by dsimp only; omega, hb2⟩
    · exact ih p hp
theorem St.part {K : PySem.W.Frag} {H : Hp} {dk : Dk} {Γ : List (Addr × List D)} {Δ : List (V × D)} {a : Addr} {r : Part} (hS : EE.St K H dk Γ Δ) (hm : (V.ref a, partD r) ∈ Δ) : SqT K H a [.int r.1, .int r.2.1, .int (r.2.2 : Int)] := by
  obtain ⟨vs, hT, hlen, Δ', rfl, hS', hv⟩ := hS.tupAt hm
  have := hS'.ints_of (ns := [r.1, r.2.1, (r.2.2 : Int)]) hv
  rw [this] at hT
  exact hT
theorem many_eq {P : Int → Bool} (hP : ∀ i, P (-i) = P i) (h0 : P 0 = true) {l h : Int} (hlh : l ≤ h) :
    (cntP P l (h - l + 1).toNat : Int) = (if l ≤ 0 ∧ 0 ≤ h then 1 else 0) + (if 0 < h then (cntP P (maxI 1 l) (h - maxI 1 l + 1).toNat : Int) else 0) + (if l < 0 then (cntP P (maxI 1 (-h)) (-l - maxI 1 (-h) + 1).toNat : Int) else 0) := by
  have m1 : 0 < l → maxI 1 l = l := fun h => by unfold maxI; split <;> omega
  have m2 : l ≤ 0 → maxI 1 l = 1 := fun h => by unfold maxI; split <;> omega
  have m3 : h < 0 → maxI 1 (-h) = -h := fun h => by unfold maxI; split <;> omega
  have m4 : 0 ≤ h → maxI 1 (-h) = 1 := fun h => by unfold maxI; split <;> omega
  by_cases c1 : 0 < l
  · rw [if_neg (by omega), if_pos (by omega), if_neg (by omega), m1 c1, Int.add_zero, Int.zero_add]
  · by_cases c2 : h < 0
    · rw [if_neg (by omega), if_neg (by omega), if_pos (by omega), m3 c2, Int.add_zero, Int.zero_add]
      have e := cnt_mirror hP (k := (h - l + 1).toNat) (a := l)
      rw [show -(l + ((h - l + 1).toNat : Int) - 1) = -h by omega] at e
      rw [← e, show -l - -h + 1 = h - l + 1 by omega]
    · have e1 : cntP P l (h - l + 1).toNat = cntP P l (-l).toNat + (1 + cntP P 1 h.toNat) := by
        rw [show (h - l + 1).toNat = (-l).toNat + (h.toNat + 1) by omega, cnt_add, show l + ((-l).toNat : Int) = 0 by omega, cnt_head, h0, if_pos rfl]
        rfl
      have e2 := cnt_mirror hP (k := (-l).toNat) (a := 1)
      rw [show -((1 : Int) + ((-l).toNat : Int) - 1) = l by omega] at e2
      rw [e1, e2, if_pos ⟨by omega, by omega⟩, m2 (by omega), m4 (by omega)]
      have e3 : (if 0 < h then (cntP P 1 (h - 1 + 1).toNat : Int) else 0) = (cntP P 1 h.toNat : Int) := by
        by_cases c : 0 < h
        · rw [if_pos c, show h - 1 + 1 = h by omega]
        · rw [if_neg c, show h.toNat = 0 by omega]
          rfl
      have e4 : (if l < 0 then (cntP P 1 (-l - 1 + 1).toNat : Int) else 0) = (cntP P 1 (-l).toNat : Int) := by
        by_cases c : l < 0
        · rw [if_pos c, show -l - 1 + 1 = -l by omega]
        · rw [if_neg c, show (-l).toNat = 0 by omega]
          rfl
      rw [e3, e4]
      omega

section
variable {K : PySem.W.Frag} {H : Hp} {dk : Dk} {Γ : List (Addr × List D)} {Δ : List (V × D)} {a : Addr} {rs : List Rule} {y1 y2 y3 y4 y5 y6 : Option V}
/-- [bound for bound, step in scale], [step for ..] -/
theorem lc_col {Q : VK} (hS : St K H dk Γ Δ) (hm : (V.ref a, scaleD rs) ∈ Δ) (hl : rs.length ≤ 40) (e : Nat) (col : Rule → Int) (he : (e = 3 ∧ col = Prod.fst) ∨ (e = 4 ∧ col = Prod.snd))
    (q : ∀ D H', St K H' dk ((D, (rs.map col).map PyData.int) :: Γ) Δ → Q (.ref D) H') : tLc (iTup K (tVar 0)) (gTup K 2 (gCons (gName 3) (gCons (gName 4) gNil))) tYes (tVar e) [3, 4] [some (.ref a), y1, y2, y3, y4, y5, y6] H Q := by
  obtain ⟨xs0, hT0, hx0⟩ := hS.lenT hm
  refine ⟨_, rfl, a, rfl, ⟨xs0, hT0⟩, fun D hD => lc_it (n := rs.length) walkT (fun k H => St K H dk ((D, ((rs.take k).map col).map PyData.int) :: Γ) Δ)
    (hS.make (ds := []) hD .nil) (fun k H _ hP => ?_) (fun k x H H' hk hP hy => ?_) (fun H hP => ?_)⟩
  · obtain ⟨xs, h1, h3⟩ := hP.lenT hm
    exact ⟨xs, h1, by rw [h3, List.length_map]⟩
  · obtain ⟨rfl, ff⟩ := hy
    obtain ⟨dd, e1, hS1⟩ := hP.turnT hm ff
    rw [List.getElem?_map, List.getElem?_eq_getElem hk] at e1
    cases Option.some.inj e1
    obtain ⟨ax, rfl⟩ := hS1.ref_of (List.mem_cons_self ..)
    have hT1 := hS1.pair (List.mem_cons_self ..)
    refine ⟨ax, _, rfl, hT1, rfl, _, _, rfl, _, _, rfl, rfl, rfl, ?_⟩
    have fin : ∃ acc, H' D = some (.lst acc) ∧ acc.length < sizeLine ∧ St K (upd H' D (.lst (acc ++ [V.int (col rs[k])]))) dk ((D, ((rs.take (k + 1)).map col).map PyData.int) :: Γ) Δ := by
      obtain ⟨vd, g1, g2, g3⟩ := (hP.push (y := .int (col rs[k])) (x := .int (col rs[k])) (.int _))
      refine ⟨vd, g1, small1000 (by rw [g2, List.length_map, List.length_map, List.length_take]; omega), ?_⟩
      rw [List.take_add_one, List.getElem?_eq_getElem hk, List.map_append, List.map_append]
      exact g3
    rcases he with ⟨rfl, rfl⟩ | ⟨rfl, rfl⟩
    · refine go_yes (A := fun H3 => tVar 3 _ H3 fun y H4 => ∃ acc, H4 D = some (.lst acc) ∧ acc.length < sizeLine ∧ St K (upd H4 D (.lst (acc ++ [y]))) dk ((D, ((rs.take (k + 1)).map Prod.fst).map PyData.int) :: Γ) Δ) ?_
      exact ⟨_, rfl, fin⟩
    · refine go_yes (A := fun H3 => tVar 4 _ H3 fun y H4 => ∃ acc, H4 D = some (.lst acc) ∧ acc.length < sizeLine ∧ St K (upd H4 D (.lst (acc ++ [y]))) dk ((D, ((rs.take (k + 1)).map Prod.snd).map PyData.int) :: Γ) Δ) ?_
      exact ⟨_, rfl, fin⟩
  · have g := q D H (by rw [List.take_length] at hP; exact hP)
    exact g

def stepsB (rs : List Rule) (low : Int) : List Int := (rs.filter fun r => decide (r.1 < low)).map Prod.snd
theorem stepsB_len (rs : List Rule) (low : Int) : (stepsB rs low).length ≤ rs.length := by
  unfold stepsB
  rw [List.length_map]
  exact List.length_filter_le _ _
/-- [step for own, step in scale if own < low] -/
theorem lc_steps {Q : VK} {low : Int} (hS : EE.St K H dk Γ Δ) (hm : (V.ref a, scaleD rs) ∈ Δ) (hl : rs.length ≤ 40) (e5 : y5 = some (.int low))
    (q : ∀ D H', EE.St K H' dk ((D, (stepsB rs low).map PyData.int) :: Γ) Δ → Q (.ref D) H') : tLc (iTup K (tVar 0)) (gTup K 2 (gCons (gName 6) (gCons (gName 4) gNil))) (tTest (tOp (rI0 fun i j => .bl (decide (i < j))) (tVar 6) (tVar 5))) (tVar 4) [6, 4] [some (.ref a), y1, y2, y3, y4, y5, y6] H Q := by
  subst e5
  obtain ⟨xs0, hT0, hx0⟩ := hS.lenT hm
  refine ⟨_, rfl, a, rfl, ⟨xs0, hT0⟩, fun D hD => lc_it (n := rs.length) walkT (fun k H => EE.St K H dk ((D, (stepsB (rs.take k) low).map PyData.int) :: Γ) Δ)
    (hS.make (ds := []) hD .nil) (fun k H _ hP => ?_) (fun k x H H' hk hP hy => ?_) (fun H hP => ?_)⟩
  · obtain ⟨xs, h1, h3⟩ := hP.lenT hm
    exact ⟨xs, h1, by rw [h3, List.length_map]⟩
  · obtain ⟨rfl, ff⟩ := hy
    obtain ⟨dd, e1, hS1⟩ := hP.turnT hm ff
    rw [List.getElem?_map, List.getElem?_eq_getElem hk] at e1
    cases Option.some.inj e1
    obtain ⟨ax, rfl⟩ := hS1.ref_of (List.mem_cons_self ..)
    have hT1 := hS1.pair (List.mem_cons_self ..)
    have ex : stepsB (rs.take (k + 1)) low = stepsB (rs.take k) low ++ if rs[k].1 < low then [rs[k].2] else [] := by
      unfold stepsB
      rw [List.take_add_one, List.getElem?_eq_getElem hk, List.filter_append, List.map_append]
      by_cases c : rs[k].1 < low
      · rw [if_pos c]
        simp [c]
      · rw [if_neg c]
        simp [c]
    refine ⟨ax, _, rfl, hT1, rfl, _, _, rfl, _, _, rfl, rfl, rfl, ?_⟩
    refine ⟨_, rfl, _, rfl, _, _, rfl, rfl, _, rfl, ite2 (fun e => ?_) (fun e => ?_)⟩
    · rw [if_pos (of_decide_eq_true e)] at ex
      obtain ⟨vd, g1, g2, g3⟩ := (hP.push (y := .int rs[k].2) (x := .int rs[k].2) (.int _))
      have hl3 := stepsB_len (rs.take k) low
      rw [List.length_take] at hl3
      refine ⟨_, rfl, vd, g1, small1000 (by rw [g2, List.length_map]; omega), ?_⟩
      rw [ex, List.map_append]
      exact g3
    · rw [if_neg fun z => e (decide_eq_true z), List.append_nil] at ex
      rw [ex]
      exact hP
  · exact q D H (by rw [List.take_length] at hP; exact hP)
end
theorem lcmI_pos : ∀ {xs : List Int} {c : Nat}, 0 < lcmI c xs ↔ 0 < c ∧ ∀ x ∈ xs, x ≠ 0
  | [], c => ⟨fun h => ⟨h, fun x hx => nomatch hx⟩, fun h => h.1⟩
  | x :: xs, c => by
    show 0 < lcmI (Nat.lcm c x.natAbs) xs ↔ _
    rw [lcmI_pos]
    constructor
    · rintro ⟨h1, h2⟩
      have hc : 0 < c := Nat.pos_of_ne_zero fun z => by
        rw [z, Nat.lcm_zero_left] at h1
        omega
      have hx : x ≠ 0 := fun z => by
        rw [z, show (0 : Int).natAbs = 0 from rfl, Nat.lcm_zero_right] at h1
        omega
      refine ⟨hc, fun y hy => ?_⟩
      rcases List.mem_cons.mp hy with rfl | hy
      · exact hx
      · exact h2 y hy
    · rintro ⟨h1, h2⟩
      exact ⟨Nat.lcm_pos h1 (Int.natAbs_pos.mpr (h2 x (List.mem_cons_self ..))), fun y hy => h2 y (List.mem_cons_of_mem _ hy)⟩
theorem lcmI_mul {n : Int} : ∀ {xs : List Int} {c : Nat}, mulP (lcmI c xs) n = (mulP c n && xs.all fun x => mulP x.natAbs n)
  | [], c => (Bool.and_true _).symm
  | x :: xs, c => by
    show mulP (lcmI (Nat.lcm c x.natAbs) xs) n = (mulP c n && (mulP x.natAbs n && xs.all fun x => mulP x.natAbs n))
    rw [lcmI_mul, lcm_mul, Bool.and_assoc]
theorem lcmI_lt : ∀ {xs : List Int} {c i : Nat}, (∀ x ∈ xs, 0 ≤ x ∧ x ≤ 10 ^ 60) → c < 2 ^ (200 * i + 1) → lcmI c xs < 2 ^ (200 * (i + xs.length) + 1)
  | [], c, i, _, h => h
  | x :: xs, c, i, hx, h => by
    obtain ⟨x1, x2⟩ := hx x (List.mem_cons_self ..)
    have g := lcmI_lt (xs := xs) (i := i + 1) (fun y hy => hx y (List.mem_cons_of_mem _ hy)) (lcm_step h x1 x2).2.2
    rw [show i + (x :: xs).length = i + 1 + xs.length by rw [List.length_cons]; omega]
    exact g
theorem m_at {rs : List Rule} (hOk : ScaleOk rs) {low n : Int} (h1 : 1 ≤ low) (hn : low ≤ n) (h : ∀ r ∈ rs, r.1 < low ∨ n ≤ r.1) : fitsAll rs n = true ↔ 0 < lcmI 1 (stepsB rs low) ∧ mulP (lcmI 1 (stepsB rs low)) n = true := by
  rw [lcmI_pos, lcmI_mul]
  have e1 : mulP 1 n = true := by
    unfold mulP
    rw [show n % ((1 : Nat) : Int) = 0 from Int.emod_one n]
    rfl
  rw [e1, Bool.true_and, List.all_eq_true]
  unfold fitsAll
  rw [List.all_eq_true]
  constructor
  · intro g
    have key : ∀ r ∈ rs, r.1 < low → r.2 ≠ 0 ∧ mulP r.2.natAbs n = true := fun r hr c => by
      have := g r hr
      rw [fit_pos (by omega), decide_eq_false (by omega), Bool.false_or, Bool.and_eq_true] at this
      refine ⟨by simpa using this.1, ?_⟩
      unfold mulP
      rw [Int.natAbs_of_nonneg (hOk.2 r hr).2.2.1]
      exact this.2
    refine ⟨⟨by decide, fun x hx => ?_⟩, fun x hx => ?_⟩
    · obtain ⟨r, hr, rfl⟩ := List.mem_map.mp hx
      obtain ⟨hr1, hr2⟩ := List.mem_filter.mp hr
      exact (key r hr1 (of_decide_eq_true hr2)).1
    · obtain ⟨r, hr, rfl⟩ := List.mem_map.mp hx
      obtain ⟨hr1, hr2⟩ := List.mem_filter.mp hr
      exact (key r hr1 (of_decide_eq_true hr2)).2
  · rintro ⟨⟨_, g1⟩, g2⟩ r hr
    rw [fit_pos (by omega)]
    rcases h r hr with c | c
    · have hx : r.2 ∈ stepsB rs low := List.mem_map.mpr ⟨r, List.mem_filter.mpr ⟨hr, decide_eq_true c⟩, rfl⟩
      have e2 := g2 _ hx
      unfold mulP at e2
      rw [Int.natAbs_of_nonneg (hOk.2 r hr).2.2.1] at e2
      rw [decide_eq_false (g1 _ hx), e2]
      exact Bool.or_true _
    · rw [decide_eq_true c]
      rfl
theorem m_small {rs : List Rule} (hOk : ScaleOk rs) (low : Int) : lcmI 1 (stepsB rs low) < 2 ^ 8001 ∧ ∀ x ∈ stepsB rs low, 0 ≤ x ∧ x ≤ 10 ^ 60 := by
  have hx : ∀ x ∈ stepsB rs low, 0 ≤ x ∧ x ≤ 10 ^ 60 := fun x hx => by
    obtain ⟨r, hr, rfl⟩ := List.mem_map.mp hx
    exact (hOk.2 r (List.mem_filter.mp hr).1).2.2
  have hl := stepsB_len rs low
  have := hOk.1
  exact ⟨Nat.lt_of_lt_of_le (lcmI_lt (c := 1) (i := 0) hx (by decide)) (Nat.pow_le_pow_right (by decide) (by omega)), hx⟩
def keepP (p : Part) : Bool := decide (p.2.1 = -1) || decide (p.1 ≤ p.2.1)
theorem parts_fit {rs : List Rule} {low : Int} {ps : List Part} (hp : PartsFrom rs low ps) : ∀ p ∈ ps, low ≤ p.1 ∧ 1 ≤ p.1 ∧ (p.2.1 = -1 ∨ p.1 ≤ p.2.1) ∧ ∀ n, p.1 ≤ n → (p.2.1 = -1 ∨ n ≤ p.2.1) → (fitsAll rs n = true ↔ 0 < p.2.2 ∧ mulP p.2.2 n = true) := by
  induction hp with
  | last h0 hm hl hf =>
    intro p hp
    rw [List.mem_singleton.mp hp]
    exact ⟨Int.le_refl _, h0, Or.inl rfl, fun n h1 _ => hf n h1⟩
  | cons h0 hm hb hb2 hf t ih =>
    intro p hp
    rcases List.mem_cons.mp hp with rfl | hp
    · exact ⟨Int.le_refl _, h0, Or.inr hb, fun n h1 h2 => hf n h1 (by dsimp only at h2; omega)⟩
    · obtain ⟨x1, x2⟩ := ih p hp
      exact ⟨by omega, x2⟩
theorem parts_cover {rs : List Rule} {low : Int} {ps : List Part} (hp : PartsFrom rs low ps) : ∀ n, low ≤ n → ∃ p ∈ ps, p.1 ≤ n ∧ (p.2.1 = -1 ∨ n ≤ p.2.1) := by
  induction hp with
  | last h0 hm hl hf => exact fun n h => ⟨_, List.mem_singleton_self _, h, Or.inl rfl⟩
  | @cons low b m ps h0 hm hb hb2 hf t ih =>
    intro n h
    by_cases c : n ≤ b
    · exact ⟨_, List.mem_cons_self .., h, Or.inr c⟩
    · obtain ⟨p, p1, p2⟩ := ih n (by omega)
      exact ⟨p, List.mem_cons_of_mem _ p1, p2⟩
theorem ceil_eq {m : Nat} (hm : 0 < m) (s : Int) : -((-s) / (m : Int)) * (m : Int) = firstMul m s := by
  unfold firstMul
  congr 1
  have hc : (0 : Int) < m := by omega
  have h1 := Int.emod_add_mul_ediv (-s) m
  have h2 := Int.emod_nonneg (-s) (show (m : Int) ≠ 0 by omega)
  have h3 := Int.emod_lt_of_pos (-s) hc
  have e := (Int.ediv_emod_unique (a := s + (m : Int) - 1) (b := (m : Int)) (r := (m : Int) - 1 - (-s) % (m : Int)) (q := -((-s) / (m : Int))) hc).mpr ⟨by
    rw [Int.mul_neg]
    omega, by omega, by omega⟩
  exact e.1.symm
def nextR (t : Int) : List Part → Option Int
  | [] => none
  | p :: ps => if 0 < p.2.2 ∧ (p.2.1 = -1 ∨ firstMul p.2.2 (maxI p.1 t) ≤ p.2.1) then some (firstMul p.2.2 (maxI p.1 t)) else nextR t ps
theorem next_rows {rs : List Rule} {t : Int} {low : Int} {ps : List Part} (hp : PartsFrom rs low ps) : IsLeastP (fitsAll rs) (maxI low t) (nextR t ps) := by
  induction hp with
  | @last low m h0 hm hl hf =>
    have hs : low ≤ maxI low t := by unfold maxI; split <;> omega
    show IsLeastP _ _ (if 0 < m ∧ ((-1 : Int) = -1 ∨ firstMul m (maxI low t) ≤ -1) then some (firstMul m (maxI low t)) else none)
    generalize maxI low t = s at hs
    by_cases c : 0 < m
    · rw [if_pos ⟨c, Or.inl rfl⟩]
      obtain ⟨f1, f2, f3⟩ := first_mul c s
      exact ⟨f1, (hf _ (by omega)).mpr ⟨c, f2⟩, fun k k1 k2 => by rw [fits_mul (hf k (by omega)) c]; exact f3 k k1 k2⟩
    · rw [if_neg fun x => c x.1]
      exact fun k hk => fits_none (hf k (by omega)) c
  | @cons low b m ps h0 hm hb hb2 hf tt ih =>
    have hs : low ≤ maxI low t := by unfold maxI; split <;> omega
    have hs2 : maxI low t ≤ maxI (b + 1) t ∧ b + 1 ≤ maxI (b + 1) t ∧ ∀ k, maxI low t ≤ k → b < k → maxI (b + 1) t ≤ k := by
      refine ⟨?_, ?_, fun k h1 h2 => ?_⟩
      · unfold maxI
        split <;> split <;> omega
      · unfold maxI
        split <;> omega
      · unfold maxI at h1 ⊢
        split at h1 <;> split <;> omega
    show IsLeastP _ _ (if 0 < m ∧ (b = -1 ∨ firstMul m (maxI low t) ≤ b) then some (firstMul m (maxI low t)) else nextR t ps)
    generalize maxI low t = s at hs hs2
    generalize maxI (b + 1) t = s2 at hs2 ih
    obtain ⟨g1, g2, g3⟩ := hs2
    by_cases c : 0 < m ∧ (b = -1 ∨ firstMul m s ≤ b)
    · rw [if_pos c]
      obtain ⟨f1, f2, f3⟩ := first_mul c.1 s
      have hle : firstMul m s ≤ b := by
        rcases c.2 with h | h
        · omega
        · exact h
      exact ⟨f1, (hf _ (by omega) hle).mpr ⟨c.1, f2⟩, fun k k1 k2 => by rw [fits_mul (hf k (by omega) (by omega)) c.1]; exact f3 k k1 k2⟩
    · rw [if_neg c]
      have hlow : ∀ k, s ≤ k → k ≤ b → fitsAll rs k = false := fun k k1 k2 => by
        by_cases cm : 0 < m
        · obtain ⟨f1, f2, f3⟩ := first_mul cm s
          rw [fits_mul (hf k (by omega) k2) cm]
          refine f3 k k1 (Decidable.byContradiction fun z => c ⟨cm, Or.inr (by omega)⟩)
        · exact fits_none (hf k (by omega) k2) cm
      cases e : nextR t ps with
      | none =>
        rw [e] at ih
        intro k hk
        by_cases ck : k ≤ b
        · exact hlow k hk ck
        · exact ih k (g3 k hk (by omega))
      | some x =>
        rw [e] at ih
        obtain ⟨i1, i2, i3⟩ := ih
        refine ⟨by omega, i2, fun k k1 k2 => ?_⟩
        by_cases ck : k ≤ b
        · exact hlow k k1 ck
        · exact i3 k (g3 k k1 (by omega)) k2
theorem below_least {rs : List Rule} {ps : List Part} {t g : Int} {B : List Int} (hp : PartsFrom rs 1 ps) (ht : t ≤ 0) (hB : ∀ x ∈ B, 0 ≤ x ∧ x ≤ -t ∧ fitsAll rs x = true) (hC : ∀ p ∈ ps, ∀ n, p.1 ≤ n → n ≤ stopI (-t) p.2.1 → fitsAll rs n = true → ∃ x ∈ B, n ≤ x)
    (hg : g ∈ B) (hm : ∀ x ∈ B, x ≤ g) : IsLeastP (fitsAll rs) t (some (-g)) := by
  obtain ⟨g1, g2, g3⟩ := hB g hg
  refine ⟨by omega, by rw [fits_even]; exact g3, fun k k1 k2 => ?_⟩
  rw [← fits_even, Bool.eq_false_iff]
  intro hf
  obtain ⟨p, p1, p2, p3⟩ := parts_cover hp (-k) (by omega)
  have hs : -k ≤ stopI (-t) p.2.1 := by
    unfold stopI
    split
    · omega
    · rcases p3 with h | h
      · omega
      · split <;> omega
  obtain ⟨x, x1, x2⟩ := hC p p1 (-k) p2 hs hf
  have := hm x x1
  omega

/-! ### expressions as data -/
section
variable {K : PySem.W.Frag} {B : List (V × D)} {σ : L2.St} {te td tl th ta tb tc : TE} {d : D} {rs : List Rule} {i j l h t : Int} {E : XK} {o : Option Int} {ps : List Part} {n : Int}
theorem ed_neI (h1 : EvD K B ta σ (.int i)) (h2 : EvD K B tb σ (.int j)) : EvD K B (tOp rNe ta tb) σ (.bool (!decide (i = j))) := fun H dk Γ Δ Q hb hS q =>
  h1 H dk Γ Δ _ hb hS fun v H1 Δ1 s1 hS1 d1 => h2 H1 dk Γ Δ1 _ (hb.trans s1) hS1 fun u H2 Δ2 s2 hS2 d2 => by
    obtain rfl := d1.isInt hS1
    obtain rfl := d2.isInt hS2
    refine ⟨rfl, ?_⟩
    rw [dec_vI]
    exact q _ _ _ (s1.trans s2) hS2 (.bl _)
theorem ed_ite {b : Bool} (hc : EvD K B tc σ (.bool b)) (h1 : b = true → EvD K B ta σ d) (h2 : b = false → EvD K B tb σ d) : EvD K B (tIf (tTest tc) ta tb) σ d := fun H dk Γ Δ Q hb hS q =>
  hc H dk Γ Δ _ hb hS fun v H1 Δ1 s1 hS1 d1 => by
    obtain rfl := d1.isBl hS1
    refine ⟨b, rfl, ?_⟩
    cases b with
    | true => exact iteT (h1 rfl H1 dk Γ Δ1 Q (hb.trans s1) hS1 fun v H' Δ' s' hS' d' => q v H' Δ' (s1.trans s') hS' d')
    | false => exact iteF (h2 rfl H1 dk Γ Δ1 Q (hb.trans s1) hS1 fun v H' Δ' s' hS' d' => q v H' Δ' (s1.trans s') hS' d')
theorem ed_many (h1 : EvD K B te σ (scaleD rs)) (h2 : EvD K B tl σ (.int l)) (h3 : EvD K B th σ (.int h)) (hOk : ScaleOk rs) (hlh : l ≤ h) : EvD K B (tCall (spfitting_many K) [] E (tCons te (tCons tl (tCons th tNil)))) σ (.int (cntP (fitsAll rs) l (h - l + 1).toNat : Nat)) := fun H dk Γ Δ Q hb hS q =>
  h1 H dk Γ Δ _ hb hS fun v H1 Δ1 s1 hS1 d1 => h2 H1 dk Γ Δ1 _ (hb.trans s1) hS1 fun u H2 Δ2 s2 hS2 d2 => h3 H2 dk Γ Δ2 _ (hb.trans (s1.trans s2)) hS2 fun w H3 Δ3 s3 hS3 d3 => by
    obtain rfl := d2.isInt hS2
    obtain rfl := d3.isInt hS3
    have d4 := (d1.sub s2).sub s3
    obtain ⟨a, rfl⟩ := d4.isRef hS3 trivial
    exact ⟨dk, Γ, _, a, rs, l, h, rfl, hS3.also d4, List.mem_cons_self .., hOk, hlh, fun H' hS' => q _ H' _ (s1.trans (s2.trans (s3.trans (Sub.cons .rfl')))) hS' (.int _)⟩
theorem ed_manyK (h1 : EvD K B te σ (scaleD rs)) (h2 : EvD K B tl σ (.int l)) (h3 : EvD K B th σ (.int h)) (hOk : ScaleOk rs) (hlh : l ≤ h) : EvD K B (tCallK0 (spfitting_many K) (fun zs => zs.reverse) E (tCons th (tCons tl (tCons te tNil)))) σ (.int (cntP (fitsAll rs) l (h - l + 1).toNat : Nat)) := fun H dk Γ Δ Q hb hS q =>
  h3 H dk Γ Δ _ hb hS fun w H1 Δ1 s1 hS1 d3 => h2 H1 dk Γ Δ1 _ (hb.trans s1) hS1 fun u H2 Δ2 s2 hS2 d2 => h1 H2 dk Γ Δ2 _ (hb.trans (s1.trans s2)) hS2 fun v H3 Δ3 s3 hS3 d1 => by
    obtain rfl := d2.isInt hS2
    obtain rfl := d3.isInt hS1
    obtain ⟨a, rfl⟩ := d1.isRef hS3 trivial
    exact ⟨dk, Γ, _, a, rs, l, h, rfl, hS3.also d1, List.mem_cons_self .., hOk, hlh, fun H' hS' => q _ H' _ (s1.trans (s2.trans (s3.trans (Sub.cons .rfl')))) hS' (.int _)⟩
theorem ed_from (h1 : EvD K B te σ (scaleD rs)) (h2 : EvD K B tl σ (.int t)) (hOk : ScaleOk rs) (ht : t.natAbs < 2 ^ 8000) (ho : IsLeastP (fitsAll rs) t o) : EvD K B (tCall (spfitting_from K) [] E (tCons te (tCons tl tNil))) σ (optD o) := fun H dk Γ Δ Q hb hS q =>
  h1 H dk Γ Δ _ hb hS fun v H1 Δ1 s1 hS1 d1 => h2 H1 dk Γ Δ1 _ (hb.trans s1) hS1 fun u H2 Δ2 s2 hS2 d2 => by
    obtain rfl := d2.isInt hS2
    have d4 := d1.sub s2
    obtain ⟨a, rfl⟩ := d4.isRef hS2 trivial
    refine ⟨dk, Γ, _, a, rs, t, rfl, hS2.also d4, List.mem_cons_self .., hOk, ht, fun H' o' ho' hS' => ?_⟩
    obtain rfl := least_uniq ho ho'
    exact q _ H' _ (s1.trans (s2.trans (Sub.cons .rfl'))) hS' dv_opt
theorem ed_fromK (h1 : EvD K B te σ (scaleD rs)) (h2 : EvD K B tl σ (.int t)) (hOk : ScaleOk rs) (ht : t.natAbs < 2 ^ 8000) (ho : IsLeastP (fitsAll rs) t o) : EvD K B (tCallK0 (spfitting_from K) (fun zs => zs.reverse) E (tCons tl (tCons te tNil))) σ (optD o) := fun H dk Γ Δ Q hb hS q =>
  h2 H dk Γ Δ _ hb hS fun u H1 Δ1 s1 hS1 d2 => h1 H1 dk Γ Δ1 _ (hb.trans s1) hS1 fun v H2 Δ2 s2 hS2 d1 => by
    obtain rfl := d2.isInt hS1
    obtain ⟨a, rfl⟩ := d1.isRef hS2 trivial
    refine ⟨dk, Γ, _, a, rs, t, rfl, hS2.also d1, List.mem_cons_self .., hOk, ht, fun H' o' ho' hS' => ?_⟩
    obtain rfl := least_uniq ho ho'
    exact q _ H' _ (s1.trans (s2.trans (Sub.cons .rfl'))) hS' dv_opt
theorem ed_lmany (h1 : EvD K B te σ (.list (ps.map partD))) (h2 : EvD K B tl σ (.int l)) (h3 : EvD K B th σ (.int h)) (hp : PartsFrom rs 1 ps) (f0 : fitsAll rs 0 = true) (hlh : l ≤ h) : EvD K B (tCall (sp_law_many K) [] E (tCons te (tCons tl (tCons th tNil)))) σ (.int (cntP (fitsAll rs) l (h - l + 1).toNat : Nat)) := fun H dk Γ Δ Q hb hS q =>
  h1 H dk Γ Δ _ hb hS fun v H1 Δ1 s1 hS1 d1 => h2 H1 dk Γ Δ1 _ (hb.trans s1) hS1 fun u H2 Δ2 s2 hS2 d2 => h3 H2 dk Γ Δ2 _ (hb.trans (s1.trans s2)) hS2 fun w H3 Δ3 s3 hS3 d3 => by
    obtain rfl := d2.isInt hS2
    obtain rfl := d3.isInt hS3
    have d4 := (d1.sub s2).sub s3
    obtain ⟨a, rfl⟩ := d4.isRef hS3 trivial
    exact ⟨dk, Γ, _, a, rs, ps, l, h, rfl, hS3.also d4, List.mem_cons_self .., hp, f0, hlh, fun H' hS' => q _ H' _ (s1.trans (s2.trans (s3.trans (Sub.cons .rfl')))) hS' (.int _)⟩
theorem ed_lnext (h1 : EvD K B te σ (.list (ps.map partD))) (h2 : EvD K B tl σ (.int t)) (hp : PartsFrom rs 1 ps) (f0 : fitsAll rs 0 = true) (hl : ps.length ≤ 41) (ht : t.natAbs < 2 ^ 8000) (ho : IsLeastP (fitsAll rs) t o) : EvD K B (tCall (sp_law_next K) [] E (tCons te (tCons tl tNil))) σ (optD o) := fun H dk Γ Δ Q hb hS q =>
  h1 H dk Γ Δ _ hb hS fun v H1 Δ1 s1 hS1 d1 => h2 H1 dk Γ Δ1 _ (hb.trans s1) hS1 fun u H2 Δ2 s2 hS2 d2 => by
    obtain rfl := d2.isInt hS2
    have d4 := d1.sub s2
    obtain ⟨a, rfl⟩ := d4.isRef hS2 trivial
    refine ⟨dk, Γ, _, a, rs, ps, t, rfl, hS2.also d4, List.mem_cons_self .., hp, f0, hl, ht, fun H' o' ho' hS' => ?_⟩
    obtain rfl := least_uniq ho ho'
    exact q _ H' _ (s1.trans (s2.trans (Sub.cons .rfl'))) hS' dv_opt
theorem ed_fits (h1 : EvD K B te σ (scaleD rs)) (h2 : EvD K B td σ (.int n)) (hr : ∀ r ∈ rs, 0 ≤ r.2) : EvD K B (tCall (spfits K) [] E (tCons te (tCons td tNil))) σ (.bool (fitsAll rs n)) := fun H dk Γ Δ Q hb hS q =>
  h1 H dk Γ Δ _ hb hS fun v H1 Δ1 s1 hS1 d1 => h2 H1 dk Γ Δ1 _ (hb.trans s1) hS1 fun u H2 Δ2 s2 hS2 d2 => by
    obtain rfl := d2.isInt hS2
    have d3 := d1.sub s2
    obtain ⟨a, rfl⟩ := d3.isRef hS2 trivial
    exact ⟨dk, Γ, _, a, rs, n, rfl, hS2.also d3, List.mem_cons_self .., hr, fun H' hS' => q _ H' _ (s1.trans (s2.trans (Sub.cons .rfl'))) hS' (.bl _)⟩
theorem ed_lfits (h1 : EvD K B te σ (scaleD rs)) (h2 : EvD K B td σ (.int n)) (hr : ∀ r ∈ rs, 0 ≤ r.2) : EvD K B (tCall (sp_law_fits K) [] E (tCons te (tCons td tNil))) σ (.bool (fitsAll rs n)) := fun H dk Γ Δ Q hb hS q =>
  h1 H dk Γ Δ _ hb hS fun v H1 Δ1 s1 hS1 d1 => h2 H1 dk Γ Δ1 _ (hb.trans s1) hS1 fun u H2 Δ2 s2 hS2 d2 => by
    obtain rfl := d2.isInt hS2
    have d3 := d1.sub s2
    obtain ⟨a, rfl⟩ := d3.isRef hS2 trivial
    exact ⟨dk, Γ, _, a, rs, n, rfl, hS2.also d3, List.mem_cons_self .., hr, fun H' hS' => q _ H' _ (s1.trans (s2.trans (Sub.cons .rfl'))) hS' (.bl _)⟩
theorem ed_ltI {K : PySem.W.Frag} {B : List (V × D)} {σ : L2.St} {ta tb : TE} {i j : Int} (h1 : EvD K B ta σ (.int i)) (h2 : EvD K B tb σ (.int j)) : EvD K B (tOp (rI0 fun i j => .bl (decide (i < j))) ta tb) σ (.bool (decide (i < j))) := fun H dk Γ Δ Q hb hS q =>
  h1 H dk Γ Δ _ hb hS fun v H1 Δ1 s1 hS1 d1 => h2 H1 dk Γ Δ1 _ (hb.trans s1) hS1 fun u H2 Δ2 s2 hS2 d2 => by
    obtain rfl := d1.isInt hS1
    obtain rfl := d2.isInt hS2
    exact ⟨i, j, rfl, rfl, q _ _ _ (s1.trans s2) hS2 (.bl _)⟩
end
theorem least_min {P : Int → Bool} {a : Int} : ∀ n : Nat, P (a + n) = true → ∃ m : Nat, P (a + m) = true ∧ ∀ k : Nat, k < m → P (a + k) = false := by
  intro n
  induction n using Nat.strongRecOn with
  | ind n ih =>
    intro h
    by_cases c : ∃ k, k < n ∧ P (a + (k : Nat)) = true
    · obtain ⟨k, k1, k2⟩ := c
      exact ih k k1 k2
    · exact ⟨n, h, fun k hk => Bool.eq_false_iff.mpr fun z => c ⟨k, hk, z⟩⟩
theorem least_ex (P : Int → Bool) (a : Int) : ∃ o, IsLeastP P a o := by
  by_cases h : ∃ n : Nat, P (a + n) = true
  · obtain ⟨n, hn⟩ := h
    obtain ⟨m, m1, m2⟩ := least_min n hn
    refine ⟨some (a + m), by omega, m1, fun k k1 k2 => ?_⟩
    have := m2 (k - a).toNat (by omega)
    rw [show a + ((k - a).toNat : Int) = k by omega] at this
    exact this
  · refine ⟨none, fun k hk => Bool.eq_false_iff.mpr fun z => h ⟨(k - a).toNat, ?_⟩⟩
    rw [show a + ((k - a).toNat : Int) = k by omega]
    exact z
theorem sm_scale {rs : List Rule} (h : ScaleOk rs) : Sm 50000 2 (scaleD rs) := by
  have e1 : (10 : Int) ^ 60 < 10 ^ 570 := by decide +kernel
  refine (sm_tuple (n := 1147) (k := 1) (ds := rs.map ruleD) fun d hd => ?_).mono ?_ (Nat.le_refl _)
  · obtain ⟨r, hr, rfl⟩ := List.mem_map.mp hd
    obtain ⟨g1, g2, g3, g4⟩ := h.2 r hr
    refine sm_tuple (n := 570) (k := 0) (ds := [.int r.1, .int r.2]) fun d hd => ?_
    simp only [List.mem_cons, List.not_mem_nil, or_false] at hd
    rcases hd with rfl | rfl
    · exact sm_int g1 (Int.lt_of_le_of_lt g2 e1)
    · exact sm_int g3 (Int.lt_of_le_of_lt g4 e1)
  · rw [List.length_map]
    have := h.1
    omega
theorem cnt_le {P : Int → Bool} {a : Int} : ∀ k, cntP P a k ≤ k
  | 0 => Nat.le_refl _
  | k + 1 => by
    have := cnt_le (P := P) (a := a) k
    show cntP P a k + (if P (a + k) = true then 1 else 0) ≤ k + 1
    split <;> omega
theorem neg_text {n : Nat} (h : n + 1 < 10 ^ 569) : (Str.ofString (toString (Int.negSucc n))).length ≤ 570 := by
  have g := toString_length_le (v := ((n + 1 : Nat) : Int)) (by omega) (k := 569) (by decide) (by exact_mod_cast h)
  rw [PyProof.Rows.ofString_length] at g ⊢
  show ("-" ++ Nat.repr (n + 1)).toList.length ≤ 570
  rw [String.toList_append, List.length_append]
  have e : (toString ((n + 1 : Nat) : Int)) = Nat.repr (n + 1) := rfl
  rw [e] at g
  have e2 : "-".toList.length = 1 := by decide
  omega
theorem sm_intN {m : Int} (h : m.natAbs < 10 ^ 569) : Sm 570 0 (.int m : D) := by
  by_cases h0 : 0 ≤ m
  · refine sm_int h0 ?_
    have e : (10 : Int) ^ 569 < 10 ^ 570 := by decide +kernel
    have e2 : ((10 ^ 569 : Nat) : Int) = (10 : Int) ^ 569 := by decide +kernel
    omega
  · refine ⟨?_, by simp only [PyData.depth]; exact Nat.le_refl 0, ?_, by simp only [PyData.canLay0]⟩
    · simp only [PyData.showable, decide_eq_true_eq]
      have h2 : m.natAbs < 2 ^ 1900 := Nat.lt_trans h (by decide +kernel)
      exact Nat.lt_trans (PySem.Flt.log2_lt_of (by decide) h2) (by decide)
    · simp only [PyData.shown]
      cases m with
      | ofNat k => exact absurd (Int.natCast_nonneg k) h0
      | negSucc k => exact neg_text h
theorem least_high {rs : List Rule} {t m : Int} (hs : StepsIn rs) (h2 : ∀ r ∈ rs, 0 ≤ r.2 ∧ 0 ≤ r.1 ∧ r.1 ≤ 10 ^ 60) (ht : t ≤ 10 ^ 60) (ho : IsLeastP (fitsAll rs) t (some m)) : m ≤ 3 * 10 ^ 60 := by
  apply Decidable.byContradiction
  intro c
  obtain ⟨M, M1, M2, hM⟩ := hs
  obtain ⟨o1, o2, o3⟩ := ho
  have hnz : ∀ r ∈ rs, r.2 ≠ 0 := fun r hr z => by
    have := List.all_eq_true.mp o2 r hr
    obtain ⟨_, b0, b1⟩ := h2 r hr
    rw [fit_pos (by omega), decide_eq_false (by omega), decide_eq_true z] at this
    cases this
  obtain ⟨k, rfl⟩ := Int.eq_ofNat_of_zero_le (show 0 ≤ M by omega)
  have fit : ∀ j, 0 ≤ j → (k : Int) ∣ j → fitsAll rs j = true := fun j hj hd => by
    unfold fitsAll
    rw [List.all_eq_true]
    intro r hr
    rcases hM r hr with h | h
    · exact absurd h (hnz r hr)
    · rw [fit_pos hj, decide_eq_false (hnz r hr), decide_eq_true (Int.emod_eq_zero_of_dvd (Int.dvd_trans h hd))]
      exact Bool.or_true _
  have hs0 : t ≤ maxI t 0 ∧ 0 ≤ maxI t 0 ∧ maxI t 0 ≤ 10 ^ 60 := by
    unfold maxI
    split <;> omega
  generalize maxI t 0 = s at hs0
  obtain ⟨f1, f2, _⟩ := first_mul (c := k) (by omega) s
  have f3 : firstMul k s ≤ s + (k : Int) - 1 := by
    unfold firstMul
    exact Int.ediv_mul_le _ (by omega)
  have hd : (k : Int) ∣ firstMul k s := Int.dvd_of_emod_eq_zero (of_decide_eq_true f2)
  have := o3 (firstMul k s) (by omega) (by omega)
  rw [fit _ (by omega) hd] at this
  cases this
theorem count_one {P : Int → Bool} {n m : Int} (h : IsLeastP P n (some m)) : cntP P n (m - n + 1).toNat = 1 := by
  obtain ⟨h1, h2, h3⟩ := h
  rw [show (m - n + 1).toNat = (m - n).toNat + 1 by omega, cnt_add, cnt_zero fun i i1 i2 => h3 i i1 (by omega), show n + ((m - n).toNat : Int) = m by omega, cnt_one, h2]
  rfl

local macro_rules | `(tactic| walk_at "evd") => `(tactic| (repeat' (first | exact ed_int | exact ed_str | exact ed_non | exact ed_bl | exact eds_nil | refine eds_cons ?_ ?_ | refine ed_tup ?_ ?_ | refine ed_lst ?_ ?_ | refine ed_neg ?_ | refine ed_I0 ?_ ?_ | exact ed_varI rfl | exact Nat.le_of_ble_eq_true rfl)))
section
variable {P : Program} {w : World} {K : PySem.W.Frag} {mg : Str → Option Value} {base : Heap}
theorem okfits_rule {f : Addr} {fd : FuncData} (F : Fun K "fits_rule" "fits_rule" sfits_rule f fd) (nb : NB mg bnames)     : FnOk P w K mg base CX0 1 f fd ["rule", "number"] (spfits_rule K) := by
  refine F.ok scfits_rule (fun vs H Q E h => ?_) (fun cdv A outer s H vs Q E hr h => ?_)
  · obtain ⟨dk, Γ, Δ, a, r, n, rfl, _⟩ := h
    rfl
  · obtain ⟨dk, Γ, Δ, a, r, n, rfl, hS, hm, h2, q⟩ := h
    refine ⟨_, (pss_cons (ps_asg (pv 0) (pg_tup (by rfl) (pgs_cons (pg_name (i := 2) scfits_rule.nd rfl (.inl rfl)) (pgs_cons (pg_name (i := 3) scfits_rule.nd rfl (.inl rfl)) pgs_nil))))
        (pss_one (ps_ret (pe_or (pe_cmpR op_le (pe_callB call_abs (by rfl) (nb "abs" rfl) (by decide +kernel) (pa_cons (pv 1) pa_nil)) (pv 2) (nomark _)) (pe_one (pe_and (pe_cmpR op_ne (pv 3) pe_int (nomark _)) (pe_one (pe_cmpR op_eq (pe_op op_mod (pv 1) (pv 3)) pe_int (nomark _))))))))), ?_⟩
    have hT := hS.pair hm
    refine ⟨_, rfl, a, _, rfl, hT, rfl, _, _, rfl, _, _, rfl, rfl, ?_⟩
    refine ⟨_, rfl, _, rfl, _, rfl, _, _, rfl, rfl, _, rfl, ?_⟩
    have e0 : fitR r n = (decide ((if n < 0 then -n else n) ≤ r.1) || (!decide (r.2 = 0) && decide (n % r.2 = 0))) := rfl
    refine ite2 (fun e => ?_) (fun e => ?_)
    · have g := q H hS
      rw [e0, e] at g
      exact g
    · have e1 : decide ((if n < 0 then -n else n) ≤ r.1) = false := by simpa using e
      rw [e1, Bool.false_or] at e0
      refine ⟨_, rfl, rfl, _, rfl, ite2 (fun e2 => ?_) (fun e2 => ?_)⟩
      · have hz : r.2 ≠ 0 := by
          intro z
          rw [z] at e2
          exact absurd e2 (by decide)
        have g := q H hS
        rw [e0, decide_eq_false hz, Bool.not_false, Bool.true_and] at g
        refine ⟨_, rfl, _, rfl, _, _, rfl, rfl, by omega, rfl, ?_⟩
        have e3 : decide (V.int (n % r.2) = V.int 0) = decide (n % r.2 = 0) := by
          rw [dec_int]
          exact Bool.beq_eq_decide_eq _ _
        rw [← e3] at g
        exact g
      · have hz : r.2 = 0 := by
          apply Decidable.byContradiction
          intro z
          apply e2
          have : decide (V.int r.2 = V.int 0) = false := decide_eq_false fun y => z (V.int.inj y)
          rw [this]
          rfl
        have g := q H hS
        rw [e0, hz] at g
        exact g

theorem first_none (n : Int) : ∀ rs : List Rule, (∀ r ∈ rs, fitR r n = true) → firstBad rs n = none
  | [], _ => rfl
  | r :: rs, h => by
    show (if fitR r n = true then (firstBad rs n).map (· + 1) else some 0) = none
    rw [if_pos (h r (List.mem_cons_self ..)), first_none n rs fun x hx => h x (List.mem_cons_of_mem _ hx)]
    rfl
theorem first_at (n : Int) : ∀ (rs : List Rule) (i : Nat) (hi : i < rs.length), (∀ r ∈ rs.take i, fitR r n = true) → fitR rs[i] n = false → firstBad rs n = some i
  | [], i, hi, _, _ => absurd hi (Nat.not_lt_zero _)
  | r :: rs, 0, hi, h, hb => by
    show (if fitR r n = true then (firstBad rs n).map (· + 1) else some 0) = some 0
    have : fitR r n = false := hb
    rw [this]
    rfl
  | r :: rs, i + 1, hi, h, hb => by
    show (if fitR r n = true then (firstBad rs n).map (· + 1) else some 0) = some (i + 1)
    rw [if_pos (h r (by simp)), first_at n rs i (by simpa using hi) (fun x hx => h x (by rw [List.take_succ_cons]; exact List.mem_cons_of_mem _ hx)) hb]
    rfl
theorem okbroken {f : Addr} {fd : FuncData} (F : Fun K "broken" "broken" sbroken f fd) (nb : NB mg bnames) (Ffits_rule : Fd P w K mg base "fits_rule" 1 ["rule", "number"] (spfits_rule K))    : FnOk P w K mg base CX0 2 f fd ["scale", "number"] (spbroken K) := by
  refine F.ok scbroken (fun vs H Q E h => ?_) (fun cdv A outer s H vs Q E hr h => ?_)
  · obtain ⟨dk, Γ, Δ, a, rs, n, rfl, _⟩ := h
    rfl
  · obtain ⟨dk, Γ, Δ, a, rs, n, rfl, hS, hm, h2, q⟩ := h
    refine ⟨_, (pss_cons (ps_for PassesOwn.never rfl (pi_enumT (by rfl) (nb "enumerate" rfl) (pa_cons (pv 0) pa_nil)) (pg_tup (by rfl) (pgs_cons (pg_name (i := 2) scbroken.nd rfl (.inl rfl)) (pgs_cons (pg_name (i := 3) scbroken.nd rfl (.inl rfl)) pgs_nil)))
        (pss_one (ps_if (pt_not (pt_val (pe_fd Ffits_rule (hr.mono (by decide)) (by rfl) (pa_cons (pv 3) (pa_cons (pv 1) pa_nil))))) (pss_one (ps_ret (pv 2))) pss_nil)))
        (pss_one (ps_ret pe_non))), ?_⟩
    obtain ⟨vs, hT, hlen⟩ := hS.lenT hm
    refine ⟨_, rfl, a, vs, rfl, hT, for_it (n := rs.length) walkET (fun i σ H => ∃ y2 y3, σ = [some (.ref a), some (.int n), y2, y3] ∧ St K H dk Γ Δ ∧ ∀ r ∈ rs.take i, fitR r n = true)
      ⟨_, _, rfl, hS, fun r hr => by simp at hr⟩ (fun i σ H _ hP => ?_) (fun i x σ H H' hi hP hy => ?_) (fun σ H hP => ?_)⟩
    · obtain ⟨_, _, _, hS, _⟩ := hP
      obtain ⟨xs, h1, h3⟩ := hS.lenT hm
      exact ⟨xs, h1, by rw [h3, List.length_map]⟩
    · obtain ⟨y2, y3, rfl, hS, hall⟩ := hP
      obtain ⟨T, x, rfl, hT, rfl, f⟩ := hy
      obtain ⟨d, e1, hS1⟩ := hS.turnT hm f
      rw [List.getElem?_map, List.getElem?_eq_getElem hi] at e1
      cases Option.some.inj e1
      obtain ⟨ax, rfl⟩ := hS1.ref_of (List.mem_cons_self ..)
      have hS2 := hS1.enumd (i := i) hT
      refine ⟨T, _, rfl, SqT.of upd_same, rfl, _, _, rfl, _, _, rfl, rfl, ?_⟩
      refine ⟨_, rfl, _, rfl, dk, Γ, _, ax, rs[i], n, rfl, hS2, List.mem_cons_self .., h2 _ (List.getElem_mem hi), fun H' hS3 => ⟨_, rfl, ?_⟩⟩
      have hS4 := hS3.weaken (Δ' := Δ) fun _ => List.mem_cons_of_mem _
      cases hb : fitR rs[i] n with
      | true =>
        refine iteF ⟨_, _, rfl, hS4, fun r hr => ?_⟩
        rw [List.take_add_one, List.getElem?_eq_getElem hi] at hr
        rcases List.mem_append.mp hr with hr | hr
        · exact hall r hr
        · rw [List.mem_singleton.mp hr]
          exact hb
      | false =>
        refine iteT ⟨_, rfl, ?_⟩
        have g := q H' hS4
        rw [first_at n rs i hi hall hb] at g
        exact g
    · obtain ⟨y2, y3, rfl, hS, hall⟩ := hP
      have g := q H hS
      rw [first_none n rs (fun r hr => hall r (by rw [List.take_length]; exact hr))] at g
      exact g

theorem fits_first (n : Int) : ∀ rs : List Rule, fitsAll rs n = (firstBad rs n).isNone
  | [] => rfl
  | r :: rs => by
    have ih := fits_first n rs
    show (fitR r n && fitsAll rs n) = (if fitR r n = true then (firstBad rs n).map (· + 1) else some 0).isNone
    cases fitR r n with
    | true =>
      rw [if_pos rfl, Bool.true_and, ih]
      cases firstBad rs n <;> rfl
    | false => rfl
theorem okfits {f : Addr} {fd : FuncData} (F : Fun K "fits" "fits" sfits f fd) (nb : NB mg bnames) (Fbroken : Fd P w K mg base "broken" 2 ["scale", "number"] (spbroken K))    : FnOk P w K mg base CX0 3 f fd ["scale", "number"] (spfits K) := by
  refine F.ok scfits (fun vs H Q E h => ?_) (fun cdv A outer s H vs Q E hr h => ?_)
  · obtain ⟨dk, Γ, Δ, a, rs, n, rfl, _⟩ := h
    rfl
  · obtain ⟨dk, Γ, Δ, a, rs, n, rfl, hS, hm, h2, q⟩ := h
    refine ⟨_, (pss_one (ps_ret (pe_cmpR op_isN (pe_fd Fbroken (hr.mono (by decide)) (by rfl) (pa_cons (pv 0) (pa_cons (pv 1) pa_nil))) pe_non (nomark _)))), ?_⟩
    refine ⟨_, rfl, _, rfl, dk, Γ, Δ, a, rs, n, rfl, hS, hm, h2, fun H' hS' => ⟨rfl, ?_⟩⟩
    have g := q H' hS'
    rw [fits_first] at g
    have e : decide (placeV (firstBad rs n) = V.non) = (firstBad rs n).isNone := by
      cases firstBad rs n <;> rfl
    rw [e]
    exact g

theorem okstretches {f : Addr} {fd : FuncData} (F : Fun K "stretches" "stretches" sstretches f fd) (nb : NB mg bnames)    (c_lcm : mg "lcm" = some (.builtin "math.lcm")) : FnOk P w K mg base CX0 1 f fd ["scale"] (spstretches K) := by
  refine F.ok scstretches (fun vs H Q E h => ?_) (fun cdv A outer s H vs Q E hr h => ?_)
  · obtain ⟨dk, Γ, Δ, a, rs, rfl, _⟩ := h
    rfl
  · obtain ⟨dk, Γ, Δ, a, rs, rfl, hS, hm, hOk, q⟩ := h
    refine ⟨_, (pss_cons (ps_set (i := 1) scstretches.nd rfl (.inl rfl) (pe_lst pa_nil))
        (pss_cons (ps_set (i := 2) scstretches.nd rfl (.inl rfl) pe_int)
        (pss_cons (ps_set (i := 3) scstretches.nd rfl (.inl rfl) pe_int)
        (pss_cons (ps_for PassesOwn.never rfl (pi_list (pe_callB cr_sortedTP (by rfl) (nb "sorted" rfl) (by decide +kernel) (pa_cons (pv 0) pa_nil))) (pg_tup (by rfl) (pgs_cons (pg_name (i := 4) scstretches.nd rfl (.inl rfl)) (pgs_cons (pg_name (i := 5) scstretches.nd rfl (.inl rfl)) pgs_nil)))
        (pss_cons (ps_expr (pe_bm PySem.F.plainAttrs_list PySem.F.slot_list_append PySem.F.type_list_append mt_append (pv 1) (pa_cons (pe_tup (pa_cons (pv 2) (pa_cons (pv 4) (pa_cons (pv 3) pa_nil)))) pa_nil)))
        (pss_cons (ps_set (i := 2) scstretches.nd rfl (.inl rfl) (pe_op op_add (pv 4) pe_int))
        (pss_cons (ps_if (pt_cmpR op_eq (pv 5) pe_int (nomark _)) (pss_one (ps_ret (pv 1))) pss_nil)
        (pss_one (ps_set (i := 3) scstretches.nd rfl (.inl rfl) (pe_callBfun cr_lcm (by rfl) c_lcm (pa_cons (pv 3) (pa_cons (pv 5) pa_nil)))))))))
        (pss_cons (ps_expr (pe_bm PySem.F.plainAttrs_list PySem.F.slot_list_append PySem.F.type_list_append mt_append (pv 1) (pa_cons (pe_tup (pa_cons (pv 2) (pa_cons pe_non (pa_cons (pv 3) pa_nil)))) pa_nil)))
        (pss_one (ps_ret (pv 1)))))))), ?_⟩
    refine ⟨Nat.zero_le _, fun p hp => ?_⟩
    have hS1 := hS.make (ds := []) hp .nil
    obtain ⟨xs, hT, hlen, hz, hsort⟩ := hS1.sortT hm
    refine ⟨_, rfl, a, xs, rs, rfl, hT, hlen, hz, fun ys rs' p2 e1 e2 e3 hp2 => ?_⟩
    obtain ⟨hperm, hS2⟩ := hsort ys rs' p2 e1 e2 hp2
    have hS3 := hS2.freeze
    obtain ⟨zs, hL, hzl⟩ := hS3.lenL (List.mem_cons_self ..)
    have hlen40 : rs'.length ≤ 40 := by rw [hperm.length_eq]; exact hOk.1
    refine ⟨p2, rfl, ⟨zs, hL⟩, for_it (n := rs'.length) walkL (fun i σ H => ∃ (R : List EE.Row) (low : Int) (c : Nat) (y4 y5 : Option V), σ = [some (.ref a), some (.ref p), some (.int low), some (.int (c : Int)), y4, y5] ∧
        St K H dk ((p, R.map rowD) :: Γ) ((.ref p2, .list (rs'.map ruleD)) :: Δ) ∧ R ++ rowsOf low c (rs'.drop i) = rowsOf 0 1 rs' ∧ R.length = i ∧ c < 2 ^ (200 * i + 1))
      ⟨[], 0, 1, none, none, rfl, hS3, rfl, rfl, by decide⟩ (fun i σ H _ hP => ?_) (fun i x σ H H' hi hP hy => ?_) (fun σ H hP => ?_)⟩
    · obtain ⟨_, _, _, _, _, _, hS, _⟩ := hP
      obtain ⟨xs, h1, h3⟩ := hS.lenL (List.mem_cons_self ..)
      exact ⟨xs, h1, by rw [h3, List.length_map]⟩
    · obtain ⟨R, low, c, y4, y5, rfl, hS, hR, hRl, hc⟩ := hP
      obtain ⟨rfl, f⟩ := hy
      obtain ⟨d, e4, hS5⟩ := hS.turnL (List.mem_cons_self ..) f
      rw [List.getElem?_map, List.getElem?_eq_getElem hi] at e4
      cases Option.some.inj e4
      obtain ⟨ax, rfl⟩ := hS5.ref_of (List.mem_cons_self ..)
      have hT := hS5.pair (List.mem_cons_self ..)
      rw [List.drop_eq_getElem_cons hi] at hR
      obtain ⟨b1, b2, s1, s2⟩ := hOk.2 _ (hperm.mem_iff.mp (List.getElem_mem hi))
      generalize rs'[i] = r at hR b1 b2 s1 s2 hT
      refine ⟨ax, _, rfl, hT, rfl, _, _, rfl, _, _, rfl, rfl, ?_⟩
      obtain ⟨vf, hf1, hf2, _, _⟩ := hS.look
      refine ⟨_, rfl, .inl ⟨rfl, _, SqL.of hf1⟩, _, rfl, _, rfl, _, rfl, (by show 3 ≤ sizeLine; decide), fun t ht => ?_⟩
      have hS7 := hS.tup (vs := [.int low, .int r.1, .int (c : Int)]) (ds := [.int low, .int r.1, .int (c : Int)]) ht (.cons (.int _) (.cons (.int _) (.cons (.int _) .nil)))
      obtain ⟨vf2, k1, k2, k3⟩ := hS7.push (.of (List.mem_cons_self ..))
      refine ⟨p, vf2, _, rfl, rfl, k1, small1000 (by rw [k2, List.length_map]; omega), ?_⟩
      have hS8 := k3.weaken (Δ' := (.ref p2, .list (rs'.map ruleD)) :: Δ) fun _ h => List.mem_cons_of_mem _ h
      have eR : R.map rowD ++ [PyData.tuple [.int low, .int r.1, .int (c : Int)]] = (R ++ [(low, some r.1, c)]).map rowD := by
        rw [List.map_append]
        rfl
      rw [eR] at hS8
      refine ⟨_, rfl, _, _, rfl, rfl, _, rfl, rfl, _, rfl, ?_⟩
      rw [dec_vI]
      have hR2 : R ++ (low, some r.1, c) :: (if r.2 = 0 then [] else rowsOf (r.1 + 1) (Nat.lcm c r.2.natAbs) (rs'.drop (i + 1))) = rowsOf 0 1 rs' := hR
      refine ite2 (fun e => ?_) (fun e => ?_)
      · rw [if_pos (of_decide_eq_true e)] at hR2
        rw [hR2] at hS8
        exact ⟨_, rfl, q _ p rs' hperm e3 (hS8.weaken fun _ h => List.mem_cons_of_mem _ h)⟩
      · rw [if_neg fun z => e (decide_eq_true z)] at hR2
        obtain ⟨c1, c2, c3⟩ := lcm_step hc s1 s2
        refine ⟨_, rfl, _, rfl, _, _, rfl, Nat.lt_of_lt_of_le c1 (pow_le12 (by omega)), Nat.lt_of_lt_of_le c2 (pow_le12 (by decide)), ?_⟩
        refine ⟨R ++ [(low, some r.1, c)], r.1 + 1, Nat.lcm c r.2.natAbs, some (.int r.1), some (.int r.2), rfl, hS8, ?_, ?_, c3⟩
        · rw [List.append_assoc]
          exact hR2
        · rw [List.length_append, hRl]
          rfl
    · obtain ⟨R, low, c, y4, y5, rfl, hS, hR, hRl, hc⟩ := hP
      rw [List.drop_length] at hR
      have hR2 : R ++ [(low, none, c)] = rowsOf 0 1 rs' := hR
      obtain ⟨vf, hf1, hf2, _, _⟩ := hS.look
      refine ⟨_, rfl, .inl ⟨rfl, _, SqL.of hf1⟩, _, rfl, _, rfl, (by show 3 ≤ sizeLine; decide), fun t ht => ?_⟩
      have hS7 := hS.tup (vs := [.int low, .non, .int (c : Int)]) (ds := [.int low, .none, .int (c : Int)]) ht (.cons (.int _) (.cons .non (.cons (.int _) .nil)))
      obtain ⟨vf2, k1, k2, k3⟩ := hS7.push (.of (List.mem_cons_self ..))
      refine ⟨p, vf2, _, rfl, rfl, k1, small1000 (by rw [k2, List.length_map]; omega), ?_⟩
      have hS8 := k3.weaken (Δ' := Δ) fun _ h => List.mem_cons_of_mem _ (List.mem_cons_of_mem _ h)
      have eR : R.map rowD ++ [PyData.tuple [.int low, .none, .int (c : Int)]] = (R ++ [(low, none, c)]).map rowD := by
        rw [List.map_append]
        rfl
      rw [eR, hR2] at hS8
      exact ⟨_, rfl, q _ p rs' hperm e3 hS8⟩

theorem okfirst_multiple {f : Addr} {fd : FuncData} (F : Fun K "first_multiple" "first_multiple" sfirst_multiple f fd) (nb : NB mg bnames)     : FnOk P w K mg base CX0 1 f fd ["step", "low"] (spfirst_multiple K) := by
  refine F.ok scfirst_multiple (fun vs H Q E h => ?_) (fun cdv A outer s H vs Q E hr h => ?_)
  · obtain ⟨c, l, rfl, _⟩ := h
    rfl
  · obtain ⟨c, l, rfl, hc, hc2, hl, q⟩ := h
    refine ⟨_, (pss_one (ps_ret (pe_op op_mulX (pe_op op_fdivW (pe_op op_sub (pe_op op_add (pv 1) (pv 0)) pe_int) (pv 0)) (pv 0)))), ?_⟩
    have hdv : ∀ z : Int, CDivW z (c : Int) := fun z => wide_div (by omega) (show ((c : Int)).natAbs < 2 ^ 8001 from hc2) (by decide) (by decide)
    have m1 : (l + (c : Int) - 1).natAbs < 2 ^ 9002 := by
      have : (2 : Nat) ^ 9002 = 2 ^ 9000 * 4 := by rw [← Nat.pow_add (m := 9000) (n := 2)]
      have h2 : 2 ^ 8001 ≤ 2 ^ 9000 := Nat.pow_le_pow_right (by decide) (by decide)
      omega
    have m2 : ((l + (c : Int) - 1) / (c : Int)).natAbs < 2 ^ 9002 := Nat.lt_of_le_of_lt (Int.natAbs_ediv_le_natAbs _ _) m1
    exact ⟨_, rfl, _, rfl, _, _, rfl, rfl, _, _, rfl, rfl, _, rfl, _, _, rfl, rfl, hdv _, _, rfl, _, _, rfl, rfl, mulx_ok m2 (show ((c : Int)).natAbs < 2 ^ 8001 from hc2) (by decide), q⟩

theorem oklesser {f : Addr} {fd : FuncData} (F : Fun K "lesser" "lesser" slesser f fd) (nb : NB mg bnames)     : FnOk P w K mg base CX0 1 f fd ["top", "high"] (splesser K) := by
  refine F.ok sclesser (fun vs H Q E h => ?_) (fun cdv A outer s H vs Q E hr h => ?_)
  · obtain ⟨t, o, rfl, _⟩ := h
    rfl
  · obtain ⟨t, o, rfl, q⟩ := h
    refine ⟨_, (pss_one (ps_ret (pe_ifExp (pt_cmpR op_isN (pv 1) pe_non (nomark _)) (pv 0) (pe_callB (call_min2 rfl) (by rfl) (nb "min" rfl) (by decide +kernel) (pa_cons (pv 0) (pa_cons (pv 1) pa_nil)))))), ?_⟩
    cases o with
    | none => exact ⟨_, rfl, rfl, _, rfl, iteT ⟨_, rfl, q⟩⟩
    | some b => exact ⟨_, rfl, rfl, _, rfl, iteF ⟨_, rfl, _, rfl, _, _, rfl, q⟩⟩

theorem okmany_to {f : Addr} {fd : FuncData} (F : Fun K "many_to" "many_to" smany_to f fd) (nb : NB mg bnames) (Flesser : Fd P w K mg base "lesser" 1 ["top", "high"] (splesser K)) (Fstretches : Fd P w K mg base "stretches" 1 ["scale"] (spstretches K))    : FnOk P w K mg base CX0 2 f fd ["scale", "top"] (spmany_to K) := by
  refine F.ok scmany_to (fun vs H Q E h => ?_) (fun cdv A outer s H vs Q E hr h => ?_)
  · obtain ⟨dk, Γ, Δ, a, rs, t, rfl, _⟩ := h
    rfl
  · obtain ⟨dk, Γ, Δ, a, rs, t, rfl, hS, hm, hOk, q⟩ := h
    refine ⟨_, (pss_cons (ps_set (i := 2) scmany_to.nd rfl (.inl rfl) pe_int)
        (pss_cons (ps_for PassesOwn.never rfl (pi_list (pe_fd Fstretches (hr.mono (by decide)) (by rfl) (pa_cons (pv 0) pa_nil))) (pg_tup (by rfl) (pgs_cons (pg_name (i := 3) scmany_to.nd rfl (.inl rfl)) (pgs_cons (pg_name (i := 4) scmany_to.nd rfl (.inl rfl)) (pgs_cons (pg_name (i := 5) scmany_to.nd rfl (.inl rfl)) pgs_nil))))
        (pss_cons (ps_set (i := 6) scmany_to.nd rfl (.inl rfl) (pe_fd Flesser (hr.mono (by decide)) (by rfl) (pa_cons (pv 1) (pa_cons (pv 4) pa_nil))))
        (pss_one (ps_if (pt_cmpR op_le (pv 3) (pv 6) (nomark _)) (pss_one (ps_aug (i := 2) scmany_to.nd rfl (.inl rfl) (pe_op op_sub (pe_op op_fdivW (pv 6) (pv 5)) (pe_op op_fdivW (pe_op op_sub (pv 3) pe_int) (pv 5))) ip_add)) pss_nil))))
        (pss_one (ps_ret (pv 2))))), ?_⟩
    refine ⟨_, rfl, dk, Γ, Δ, a, rs, rfl, hS, hm, hOk, fun H1 p rs' hp hs hS1 => ?_⟩
    have hS2 := hS1.freeze
    have hb := rows_small hOk hp hs
    have hc := cnt_scale hOk hp hs t
    generalize rowsOf 0 1 rs' = R at hS2 hb hc
    obtain ⟨zs, hL, hzl⟩ := hS2.lenL (List.mem_cons_self ..)
    refine ⟨p, rfl, ⟨zs, hL⟩, for_it (n := R.length) walkL (fun i σ H => ∃ (m : Int) (y3 y4 y5 y6 : Option V), σ = [some (.ref a), some (.int t), some (.int m), y3, y4, y5, y6] ∧ St K H dk Γ ((.ref p, .list (R.map rowD)) :: Δ) ∧ m + manyR t (R.drop i) = manyR t R)
      ⟨0, none, none, none, none, rfl, hS2, by rw [List.drop_zero, Int.zero_add]⟩ (fun i σ H _ hP => ?_) (fun i x σ H H' hi hP hy => ?_) (fun σ H hP => ?_)⟩
    · obtain ⟨_, _, _, _, _, _, hS, _⟩ := hP
      obtain ⟨xs, h1, h3⟩ := hS.lenL (List.mem_cons_self ..)
      exact ⟨xs, h1, by rw [h3, List.length_map]⟩
    · obtain ⟨m, y3, y4, y5, y6, rfl, hS, hM⟩ := hP
      obtain ⟨rfl, f⟩ := hy
      obtain ⟨d, e4, hS5⟩ := hS.turnL (List.mem_cons_self ..) f
      rw [List.getElem?_map, List.getElem?_eq_getElem hi] at e4
      cases Option.some.inj e4
      obtain ⟨ax, rfl⟩ := hS5.ref_of (List.mem_cons_self ..)
      have hT := hS5.row (List.mem_cons_self ..)
      rw [List.drop_eq_getElem_cons hi] at hM
      obtain ⟨b1, b2, b3, b4⟩ := hb _ (List.getElem_mem hi)
      generalize R[i] = r at hM b1 b2 b3 b4 hT
      have hdv : ∀ z : Int, CDivW z (r.2.2 : Int) := fun z => wide_div (by omega) (show ((r.2.2 : Int)).natAbs < 2 ^ 8001 from b2) (by decide) (by decide)
      have hM2 : m + ((if r.1 ≤ lesserI t r.2.1 then lesserI t r.2.1 / (r.2.2 : Int) - (r.1 - 1) / (r.2.2 : Int) else 0) + manyR t (R.drop (i + 1))) = manyR t R := hM
      refine ⟨ax, _, rfl, hT, rfl, _, _, rfl, _, _, rfl, _, _, rfl, rfl, ?_⟩
      refine ⟨_, rfl, _, rfl, t, r.2.1, rfl, ?_⟩
      refine ⟨_, rfl, _, rfl, _, _, rfl, rfl, _, rfl, ite2 (fun e => ?_) (fun e => ?_)⟩
      · rw [if_pos (of_decide_eq_true e)] at hM2
        refine ⟨_, rfl, _, rfl, _, rfl, _, _, rfl, rfl, hdv _, _, rfl, _, _, rfl, rfl, _, rfl, _, _, rfl, rfl, hdv _, _, _, rfl, rfl, _, _, rfl, rfl, ?_⟩
        exact ⟨m + (lesserI t r.2.1 / (r.2.2 : Int) - (r.1 - 1) / (r.2.2 : Int)), some (.int r.1), some (optV r.2.1), some (.int (r.2.2 : Int)), some (.int (lesserI t r.2.1)), rfl, hS, by omega⟩
      · rw [if_neg fun z => e (decide_eq_true z)] at hM2
        exact ⟨m, _, _, _, _, rfl, hS, by omega⟩
    · obtain ⟨m, y3, y4, y5, y6, rfl, hS, hM⟩ := hP
      rw [List.drop_length] at hM
      have g := q H (hS.weaken fun _ h => List.mem_cons_of_mem _ h)
      rw [← hc, ← hM, show manyR t [] = 0 from rfl, Int.add_zero] at g
      exact ⟨_, rfl, g⟩

theorem okfitting_many {f : Addr} {fd : FuncData} (F : Fun K "fitting_many" "fitting_many" sfitting_many f fd) (nb : NB mg bnames) (Fmany_to : Fd P w K mg base "many_to" 2 ["scale", "top"] (spmany_to K))    : FnOk P w K mg base CX0 3 f fd ["scale", "low", "high"] (spfitting_many K) := by
  refine F.ok scfitting_many (fun vs H Q E h => ?_) (fun cdv A outer s H vs Q E hr h => ?_)
  · obtain ⟨dk, Γ, Δ, a, rs, l, h, rfl, _⟩ := h
    rfl
  · obtain ⟨dk, Γ, Δ, a, rs, l, h, rfl, hS, hm, hOk, hlh, q⟩ := h
    refine ⟨_, (pss_cons (ps_if (pt_cmpR op_gt (pv 1) pe_int (nomark _)) (pss_one (ps_ret (pe_op op_sub (pe_fd Fmany_to (hr.mono (by decide)) (by rfl) (pa_cons (pv 0) (pa_cons (pv 2) pa_nil))) (pe_fd Fmany_to (hr.mono (by decide)) (by rfl) (pa_cons (pv 0) (pa_cons (pe_op op_sub (pv 1) pe_int) pa_nil)))))) pss_nil)
        (pss_cons (ps_if (pt_cmpR op_lt (pv 2) pe_int (nomark _)) (pss_one (ps_ret (pe_op op_sub (pe_fd Fmany_to (hr.mono (by decide)) (by rfl) (pa_cons (pv 0) (pa_cons (pe_un un_neg (pv 1)) pa_nil))) (pe_fd Fmany_to (hr.mono (by decide)) (by rfl) (pa_cons (pv 0) (pa_cons (pe_op op_sub (pe_un un_neg (pv 2)) pe_int) pa_nil)))))) pss_nil)
        (pss_one (ps_ret (pe_op op_sub (pe_op op_add (pe_fd Fmany_to (hr.mono (by decide)) (by rfl) (pa_cons (pv 0) (pa_cons (pe_un un_neg (pv 1)) pa_nil))) (pe_fd Fmany_to (hr.mono (by decide)) (by rfl) (pa_cons (pv 0) (pa_cons (pv 2) pa_nil)))) pe_int))))), ?_⟩
    have ev : ∀ i, fitsAll rs (-i) = fitsAll rs i := fits_even
    refine ⟨_, rfl, _, _, rfl, rfl, _, rfl, ite2 (fun e => ?_) (fun e => ?_)⟩
    · have e' : 0 < l := of_decide_eq_true e
      refine ⟨_, rfl, _, rfl, dk, Γ, Δ, a, rs, h, rfl, hS, hm, hOk, fun H1 hS1 => ?_⟩
      refine ⟨_, rfl, _, rfl, _, _, rfl, rfl, dk, Γ, Δ, a, rs, l - 1, rfl, hS1, hm, hOk, fun H2 hS2 => ⟨_, _, rfl, rfl, ?_⟩⟩
      have g := q H2 hS2
      have ec : cntP (fitsAll rs) 0 (h - 0 + 1).toNat = cntP (fitsAll rs) 0 (l - 1 - 0 + 1).toNat + cntP (fitsAll rs) l (h - l + 1).toNat := by
        rw [show (h - 0 + 1).toNat = (l - 1 - 0 + 1).toNat + (h - l + 1).toNat by omega, cnt_add, show (0 : Int) + ((l - 1 - 0 + 1).toNat : Int) = l by omega]
      have e2 : ((cntP (fitsAll rs) 0 (h - 0 + 1).toNat : Nat) : Int) - ((cntP (fitsAll rs) 0 (l - 1 - 0 + 1).toNat : Nat) : Int) = (cntP (fitsAll rs) l (h - l + 1).toNat : Nat) := by
        rw [ec]
        omega
      rw [← e2] at g
      exact g
    · have e' : ¬ 0 < l := fun z => e (decide_eq_true z)
      refine ⟨_, rfl, _, _, rfl, rfl, _, rfl, ite2 (fun e3 => ?_) (fun e3 => ?_)⟩
      · have e3' : h < 0 := of_decide_eq_true e3
        refine ⟨_, rfl, _, rfl, _, rfl, dk, Γ, Δ, a, rs, -l, rfl, hS, hm, hOk, fun H1 hS1 => ?_⟩
        refine ⟨_, rfl, _, rfl, _, rfl, _, _, rfl, rfl, dk, Γ, Δ, a, rs, -h - 1, rfl, hS1, hm, hOk, fun H2 hS2 => ⟨_, _, rfl, rfl, ?_⟩⟩
        have g := q H2 hS2
        have em := cnt_mirror ev (k := (h - l + 1).toNat) (a := l)
        rw [show -(l + ((h - l + 1).toNat : Int) - 1) = -h by omega] at em
        have ec : cntP (fitsAll rs) 0 (-l - 0 + 1).toNat = cntP (fitsAll rs) 0 (-h - 1 - 0 + 1).toNat + cntP (fitsAll rs) l (h - l + 1).toNat := by
          rw [show (-l - 0 + 1).toNat = (-h - 1 - 0 + 1).toNat + (h - l + 1).toNat by omega, cnt_add, show (0 : Int) + ((-h - 1 - 0 + 1).toNat : Int) = -h by omega, em]
        have e2 : ((cntP (fitsAll rs) 0 (-l - 0 + 1).toNat : Nat) : Int) - ((cntP (fitsAll rs) 0 (-h - 1 - 0 + 1).toNat : Nat) : Int) = (cntP (fitsAll rs) l (h - l + 1).toNat : Nat) := by
          rw [ec]
          omega
        rw [← e2] at g
        exact g
      · have e3' : ¬ h < 0 := fun z => e3 (decide_eq_true z)
        refine ⟨_, rfl, _, rfl, _, rfl, dk, Γ, Δ, a, rs, -l, rfl, hS, hm, hOk, fun H1 hS1 => ?_⟩
        refine ⟨_, rfl, _, rfl, dk, Γ, Δ, a, rs, h, rfl, hS1, hm, hOk, fun H2 hS2 => ⟨_, _, rfl, rfl, _, _, rfl, rfl, ?_⟩⟩
        have g := q H2 hS2
        have f0 : fitsAll rs 0 = true := fits_low (b := 0) (Int.le_refl 0) (Int.le_refl 0) fun r hr => (hOk.2 r hr).1
        have em := cnt_mirror ev (k := (-l).toNat) (a := 1)
        rw [show -((1 : Int) + ((-l).toNat : Int) - 1) = l by omega] at em
        have eh : cntP (fitsAll rs) 0 (-l - 0 + 1).toNat = 1 + cntP (fitsAll rs) 1 (-l).toNat := by
          rw [show (-l - 0 + 1).toNat = (-l).toNat + 1 by omega, cnt_head, f0, if_pos rfl]
          rfl
        have ec : cntP (fitsAll rs) l (h - l + 1).toNat = cntP (fitsAll rs) 1 (-l).toNat + cntP (fitsAll rs) 0 (h - 0 + 1).toNat := by
          rw [show (h - l + 1).toNat = (-l).toNat + (h - 0 + 1).toNat by omega, cnt_add, em, show l + ((-l).toNat : Int) = 0 by omega]
        have e2 : ((cntP (fitsAll rs) 0 (-l - 0 + 1).toNat : Nat) : Int) + ((cntP (fitsAll rs) 0 (h - 0 + 1).toNat : Nat) : Int) - 1 = (cntP (fitsAll rs) l (h - l + 1).toNat : Nat) := by
          rw [ec, eh]
          omega
        rw [← e2] at g
        exact g

theorem okleast_from {f : Addr} {fd : FuncData} (F : Fun K "least_from" "least_from" sleast_from f fd) (nb : NB mg bnames) (Ffirst_multiple : Fd P w K mg base "first_multiple" 1 ["step", "low"] (spfirst_multiple K)) (Fstretches : Fd P w K mg base "stretches" 1 ["scale"] (spstretches K))    : FnOk P w K mg base CX0 2 f fd ["scale", "number"] (spleast_from K) := by
  refine F.ok scleast_from (fun vs H Q E h => ?_) (fun cdv A outer s H vs Q E hr h => ?_)
  · obtain ⟨dk, Γ, Δ, a, rs, t, rfl, _⟩ := h
    rfl
  · obtain ⟨dk, Γ, Δ, a, rs, t, rfl, hS, hm, hOk, ht, htb, q⟩ := h
    refine ⟨_, (pss_cons (ps_for PassesOwn.never rfl (pi_list (pe_fd Fstretches (hr.mono (by decide)) (by rfl) (pa_cons (pv 0) pa_nil))) (pg_tup (by rfl) (pgs_cons (pg_name (i := 2) scleast_from.nd rfl (.inl rfl)) (pgs_cons (pg_name (i := 3) scleast_from.nd rfl (.inl rfl)) (pgs_cons (pg_name (i := 4) scleast_from.nd rfl (.inl rfl)) pgs_nil))))
        (pss_cons (ps_set (i := 5) scleast_from.nd rfl (.inl rfl) (pe_fd Ffirst_multiple (hr.mono (by decide)) (by rfl) (pa_cons (pv 4) (pa_cons (pe_callB (call_max2 rfl) (by rfl) (nb "max" rfl) (by decide +kernel) (pa_cons (pv 2) (pa_cons (pv 1) pa_nil))) pa_nil))))
        (pss_one (ps_if (PW.pt (pw_or (pt_cmpR op_isN (pv 3) pe_non (nomark _)) (pw_or1 (pt_cmpR op_le (pv 5) (pv 3) (nomark _))))) (pss_one (ps_ret (pv 5))) pss_nil))))
        (pss_one (ps_ret pe_non))), ?_⟩
    refine ⟨_, rfl, dk, Γ, Δ, a, rs, rfl, hS, hm, hOk, fun H1 p rs' hp hs hS1 => ?_⟩
    have hS2 := hS1.freeze
    have hb := rows_small hOk hp hs
    have hc := least_scale hOk hp hs ht
    generalize rowsOf 0 1 rs' = R at hS2 hb hc
    obtain ⟨zs, hL, hzl⟩ := hS2.lenL (List.mem_cons_self ..)
    refine ⟨p, rfl, ⟨zs, hL⟩, for_it (n := R.length) walkL (fun i σ H => ∃ (y2 y3 y4 y5 : Option V), σ = [some (.ref a), some (.int t), y2, y3, y4, y5] ∧ St K H dk Γ ((.ref p, .list (R.map rowD)) :: Δ) ∧ leastR t (R.drop i) = leastR t R)
      ⟨none, none, none, none, rfl, hS2, by rw [List.drop_zero]⟩ (fun i σ H _ hP => ?_) (fun i x σ H H' hi hP hy => ?_) (fun σ H hP => ?_)⟩
    · obtain ⟨_, _, _, _, _, hS, _⟩ := hP
      obtain ⟨xs, h1, h3⟩ := hS.lenL (List.mem_cons_self ..)
      exact ⟨xs, h1, by rw [h3, List.length_map]⟩
    · obtain ⟨y2, y3, y4, y5, rfl, hS, hM⟩ := hP
      obtain ⟨rfl, f⟩ := hy
      obtain ⟨d, e4, hS5⟩ := hS.turnL (List.mem_cons_self ..) f
      rw [List.getElem?_map, List.getElem?_eq_getElem hi] at e4
      cases Option.some.inj e4
      obtain ⟨ax, rfl⟩ := hS5.ref_of (List.mem_cons_self ..)
      have hT := hS5.row (List.mem_cons_self ..)
      rw [List.drop_eq_getElem_cons hi] at hM
      obtain ⟨b1, b2, b3, b4⟩ := hb _ (List.getElem_mem hi)
      generalize R[i] = r at hM b1 b2 b3 b4 hT
      obtain ⟨low, high, c⟩ := r
      dsimp only at b1 b2 b3 b4 hT
      have hmx : (maxI low t).natAbs < 2 ^ 9000 := by
        have e1 : (2 : Nat) ^ 8000 ≤ 2 ^ 9000 := Nat.pow_le_pow_right (by decide) (by decide)
        have e2 : (10 : Nat) ^ 60 + 1 < 2 ^ 9000 := by decide +kernel
        unfold maxI
        split <;> omega
      refine ⟨ax, _, rfl, hT, rfl, _, _, rfl, _, _, rfl, _, _, rfl, rfl, ?_⟩
      refine ⟨_, rfl, _, rfl, _, rfl, _, _, rfl, c, maxI low t, rfl, b1, b2, hmx, ?_⟩
      have hfin := hS.weaken (Δ' := Δ) fun _ h => List.mem_cons_of_mem _ h
      cases high with
      | none =>
        have hM2 : some (firstMul c (maxI low t)) = leastR t R := hM
        rw [← hM2] at hc
        exact ⟨_, rfl, rfl, _, rfl, iteT ⟨_, rfl, q _ _ hc hfin⟩⟩
      | some b =>
        have hM2 : (if firstMul c (maxI low t) ≤ b then some (firstMul c (maxI low t)) else leastR t (R.drop (i + 1))) = leastR t R := hM
        refine ⟨_, rfl, rfl, _, rfl, iteF ⟨_, rfl, _, rfl, _, _, rfl, rfl, _, rfl, ite2 (fun e => ?_) (fun e => ?_)⟩⟩
        · rw [if_pos (of_decide_eq_true e)] at hM2
          rw [← hM2] at hc
          exact ⟨_, rfl, q _ _ hc hfin⟩
        · rw [if_neg fun z => e (decide_eq_true z)] at hM2
          exact ⟨_, _, _, _, rfl, hS, hM2⟩
    · obtain ⟨y2, y3, y4, y5, rfl, hS, hM⟩ := hP
      rw [List.drop_length] at hM
      rw [← hM] at hc
      exact q _ none hc (hS.weaken fun _ h => List.mem_cons_of_mem _ h)

theorem okgreatest_to {f : Addr} {fd : FuncData} (F : Fun K "greatest_to" "greatest_to" sgreatest_to f fd) (nb : NB mg bnames) (Flesser : Fd P w K mg base "lesser" 1 ["top", "high"] (splesser K)) (Fstretches : Fd P w K mg base "stretches" 1 ["scale"] (spstretches K))    : FnOk P w K mg base CX0 2 f fd ["scale", "number"] (spgreatest_to K) := by
  refine F.ok scgreatest_to (fun vs H Q E h => ?_) (fun cdv A outer s H vs Q E hr h => ?_)
  · obtain ⟨dk, Γ, Δ, a, rs, t, rfl, _⟩ := h
    rfl
  · obtain ⟨dk, Γ, Δ, a, rs, t, rfl, hS, hm, hOk, ht, htb, q⟩ := h
    refine ⟨_, (pss_cons (ps_set (i := 2) scgreatest_to.nd rfl (.inl rfl) pe_int)
        (pss_cons (ps_for PassesOwn.never rfl (pi_list (pe_fd Fstretches (hr.mono (by decide)) (by rfl) (pa_cons (pv 0) pa_nil))) (pg_tup (by rfl) (pgs_cons (pg_name (i := 3) scgreatest_to.nd rfl (.inl rfl)) (pgs_cons (pg_name (i := 4) scgreatest_to.nd rfl (.inl rfl)) (pgs_cons (pg_name (i := 5) scgreatest_to.nd rfl (.inl rfl)) pgs_nil))))
        (pss_cons (ps_set (i := 6) scgreatest_to.nd rfl (.inl rfl) (pe_op op_mulX (pe_op op_fdivW (pe_fd Flesser (hr.mono (by decide)) (by rfl) (pa_cons (pv 1) (pa_cons (pv 4) pa_nil))) (pv 5)) (pv 5)))
        (pss_one (ps_if (pt_cmpR op_ge (pv 6) (pv 3) (nomark _)) (pss_one (ps_set (i := 2) scgreatest_to.nd rfl (.inl rfl) (pv 6))) pss_nil))))
        (pss_one (ps_ret (pv 2))))), ?_⟩
    refine ⟨_, rfl, dk, Γ, Δ, a, rs, rfl, hS, hm, hOk, fun H1 p rs' hp hs hS1 => ?_⟩
    have hS2 := hS1.freeze
    have hb := rows_small hOk hp hs
    have hlb := rows_lesser hOk hp ht
    have hc := great_scale hOk hp hs t
    generalize rowsOf 0 1 rs' = R at hS2 hb hc hlb
    obtain ⟨zs, hL, hzl⟩ := hS2.lenL (List.mem_cons_self ..)
    refine ⟨p, rfl, ⟨zs, hL⟩, for_it (n := R.length) walkL (fun i σ H => ∃ (g : Int) (y3 y4 y5 y6 : Option V), σ = [some (.ref a), some (.int t), some (.int g), y3, y4, y5, y6] ∧ St K H dk Γ ((.ref p, .list (R.map rowD)) :: Δ) ∧ greatR t g (R.drop i) = greatR t 0 R)
      ⟨0, none, none, none, none, rfl, hS2, by rw [List.drop_zero]⟩ (fun i σ H _ hP => ?_) (fun i x σ H H' hi hP hy => ?_) (fun σ H hP => ?_)⟩
    · obtain ⟨_, _, _, _, _, _, hS, _⟩ := hP
      obtain ⟨xs, h1, h3⟩ := hS.lenL (List.mem_cons_self ..)
      exact ⟨xs, h1, by rw [h3, List.length_map]⟩
    · obtain ⟨g, y3, y4, y5, y6, rfl, hS, hM⟩ := hP
      obtain ⟨rfl, f⟩ := hy
      obtain ⟨d, e4, hS5⟩ := hS.turnL (List.mem_cons_self ..) f
      rw [List.getElem?_map, List.getElem?_eq_getElem hi] at e4
      cases Option.some.inj e4
      obtain ⟨ax, rfl⟩ := hS5.ref_of (List.mem_cons_self ..)
      have hT := hS5.row (List.mem_cons_self ..)
      rw [List.drop_eq_getElem_cons hi] at hM
      obtain ⟨b1, b2, b3, b4⟩ := hb _ (List.getElem_mem hi)
      obtain ⟨c1, c2⟩ := hlb _ (List.getElem_mem hi)
      generalize R[i] = r at hM b1 b2 b3 b4 c1 c2 hT
      have hdv : ∀ z : Int, CDivW z (r.2.2 : Int) := fun z => wide_div (by omega) (show ((r.2.2 : Int)).natAbs < 2 ^ 8001 from b2) (by decide) (by decide)
      have hz : (lesserI t r.2.1).natAbs < 2 ^ 8000 := Nat.lt_of_le_of_lt (show (lesserI t r.2.1).natAbs ≤ t.natAbs by omega) htb
      have hz2 : (lesserI t r.2.1 / (r.2.2 : Int)).natAbs < 2 ^ 8000 := Nat.lt_of_le_of_lt (Int.natAbs_ediv_le_natAbs _ _) hz
      have hM2 : greatR t (if lesserI t r.2.1 / (r.2.2 : Int) * (r.2.2 : Int) ≥ r.1 then lesserI t r.2.1 / (r.2.2 : Int) * (r.2.2 : Int) else g) (R.drop (i + 1)) = greatR t 0 R := hM
      refine ⟨ax, _, rfl, hT, rfl, _, _, rfl, _, _, rfl, _, _, rfl, rfl, ?_⟩
      refine ⟨_, rfl, _, rfl, t, r.2.1, rfl, _, rfl, _, _, rfl, rfl, hdv _, _, rfl, _, _, rfl, rfl, mulx_ok hz2 (show ((r.2.2 : Int)).natAbs < 2 ^ 8001 from b2) (by decide), ?_⟩
      refine ⟨_, rfl, _, rfl, _, _, rfl, rfl, _, rfl, ite2 (fun e => ?_) (fun e => ?_)⟩
      · rw [if_pos (of_decide_eq_true e)] at hM2
        exact ⟨_, rfl, _, _, _, _, _, rfl, hS, hM2⟩
      · rw [if_neg fun z => e (decide_eq_true z)] at hM2
        exact ⟨g, _, _, _, _, rfl, hS, hM2⟩
    · obtain ⟨g, y3, y4, y5, y6, rfl, hS, hM⟩ := hP
      rw [List.drop_length] at hM
      rw [← hM] at hc
      exact ⟨_, rfl, q H _ hc (hS.weaken fun _ h => List.mem_cons_of_mem _ h)⟩

theorem okfitting_from {f : Addr} {fd : FuncData} (F : Fun K "fitting_from" "fitting_from" sfitting_from f fd) (nb : NB mg bnames) (Fgreatest_to : Fd P w K mg base "greatest_to" 2 ["scale", "number"] (spgreatest_to K)) (Fleast_from : Fd P w K mg base "least_from" 2 ["scale", "number"] (spleast_from K))    : FnOk P w K mg base CX0 3 f fd ["scale", "number"] (spfitting_from K) := by
  refine F.ok scfitting_from (fun vs H Q E h => ?_) (fun cdv A outer s H vs Q E hr h => ?_)
  · obtain ⟨dk, Γ, Δ, a, rs, t, rfl, _⟩ := h
    rfl
  · obtain ⟨dk, Γ, Δ, a, rs, t, rfl, hS, hm, hOk, htb, q⟩ := h
    refine ⟨_, (pss_cons (ps_if (pt_cmpR op_gt (pv 1) pe_int (nomark _)) (pss_one (ps_ret (pe_fd Fleast_from (hr.mono (by decide)) (by rfl) (pa_cons (pv 0) (pa_cons (pv 1) pa_nil))))) pss_nil)
        (pss_one (ps_ret (pe_un un_neg (pe_fd Fgreatest_to (hr.mono (by decide)) (by rfl) (pa_cons (pv 0) (pa_cons (pe_un un_neg (pv 1)) pa_nil))))))), ?_⟩
    refine ⟨_, rfl, _, _, rfl, rfl, _, rfl, ite2 (fun e => ?_) (fun e => ?_)⟩
    · exact ⟨_, rfl, _, rfl, dk, Γ, Δ, a, rs, t, rfl, hS, hm, hOk, of_decide_eq_true e, htb, fun H' o ho hS' => q H' o ho hS'⟩
    · have e' : ¬ 0 < t := fun z => e (decide_eq_true z)
      exact ⟨_, rfl, _, rfl, _, rfl, dk, Γ, Δ, a, rs, -t, rfl, hS, hm, hOk, by omega, by rw [Int.natAbs_neg]; exact htb, fun H' res ho hS' => ⟨_, rfl, q H' (some (-res)) (great_least hOk (by omega) ho) hS'⟩⟩

theorem lay_mem {k : Nat} : ∀ {ds : List D}, Lay k ds → ∀ {d : D}, d ∈ ds → d.canLay0 = true ∧ d.depth ≤ k
  | e :: ds, h, d, hd => by
    obtain ⟨h1, h2⟩ := h
    simp only [PyData.canLayAll0, Bool.and_eq_true] at h1
    simp only [PyData.depthAll] at h2
    rcases List.mem_cons.mp hd with rfl | hd
    · exact ⟨h1.1, by omega⟩
    · exact lay_mem ⟨h1.2, by omega⟩ hd
theorem small1000' {n : Nat} (h : n ≤ 20000) : n < sizeLine := Nat.lt_of_le_of_lt h (by decide)
theorem perm_pull : ∀ {ls : List D} {k : Nat} (hk : k < ls.length), (ls[k] :: ls.eraseIdx k).Perm ls
  | x :: ls, 0, hk => List.Perm.refl _
  | x :: ls, k + 1, hk => by
    have ih := perm_pull (ls := ls) (k := k) (by simpa using hk)
    exact (List.Perm.swap x _ _).trans (List.Perm.cons x ih)
theorem perm_move {ls : List D} {k : Nat} (hk : k < ls.length) (fs : List D) : (ls.eraseIdx k ++ (fs ++ [ls[k]])).Perm (ls ++ fs) := by
  have h1 : (ls[k] :: ls.eraseIdx k).Perm ls := by
    exact perm_pull hk
  have h2 : (ls.eraseIdx k ++ (fs ++ [ls[k]])).Perm (ls[k] :: (ls.eraseIdx k ++ fs)) := by
    rw [← List.append_assoc]
    exact List.perm_append_singleton _ _
  exact h2.trans ((List.Perm.append_right fs h1))
theorem ok_law_mixed {f : Addr} {fd : FuncData} (F : Fun K "_law_mixed" "_law_mixed" s_law_mixed f fd) (nb : NB mg bnames) (F_law_draw : Fd P w K mg base "_law_draw" 1 ["deck", "many"] (sp_law_draw K))    : FnOk P w K mg base CX0 2 f fd ["deck", "items"] (sp_law_mixed K) := by
  refine F.ok sc_law_mixed (fun vs H Q E h => ?_) (fun cdv A outer s H vs Q E hr h => ?_)
  · obtain ⟨d, l, a, ds, Γ, Δ, rfl, _⟩ := h
    rfl
  · obtain ⟨d, l, a, ds, Γ, Δ, rfl, hS, hm, hlay, hz, q⟩ := h
    refine ⟨_, (pss_cons (ps_par (by rfl) (i := 2) (j := 3) sc_law_mixed.nd rfl rfl (by decide) rfl rfl (pa_cons (pe_callTy call_list_of (by rfl) (nb "list" rfl) (by decide +kernel) (pa_cons (pv 1) pa_nil)) (pa_cons (pe_lst pa_nil) pa_nil)) (by rfl))
        (pss_cons (ps_while PassesOwn.never (pt_cmpR (op_neD hr.units) (pv 2) (pe_lst pa_nil) (nomark _)) (pss_one (ps_expr (pe_bm PySem.F.plainAttrs_list PySem.F.slot_list_append PySem.F.type_list_append mt_append (pv 3) (pa_cons (pe_bm PySem.F.plainAttrs_list PySem.F.slot_list_pop PySem.F.type_list_pop mt_popAt (pv 2) (pa_cons (pe_fd F_law_draw (hr.mono (by decide)) (by rfl) (pa_cons (pv 0) (pa_cons (pe_callB call_len_seq (by rfl) (nb "len" rfl) PySem.boot_len (pa_cons (pv 2) pa_nil)) pa_nil))) pa_nil)) pa_nil)))))
        (pss_one (ps_ret (pv 3))))), ?_⟩
    obtain ⟨vs, hL, hlen, Δ', rfl, hS', hv⟩ := hS.lstAt hm
    refine ⟨_, rfl, a, vs, rfl, .inl hL, fun p hp => ⟨Nat.zero_le _, fun f hf => ⟨_, _, rfl, ?_⟩⟩⟩
    have hS1 := ((hS'.make hp hv).make hf .nil).swap.weaken (Δ' := Δ) fun x hx => List.mem_append_right _ hx
    refine ⟨fun m σ H => ∃ ls fs, σ = [some (.ref d), some (.ref a), some (.ref p), some (.ref f)] ∧ St K H (some (d, l)) ((p, ls) :: (f, fs) :: Γ) Δ ∧ (ls ++ fs).Perm ds ∧ m = ls.length, ⟨_, ds, [], rfl, hS1, by rw [List.append_nil], rfl⟩, fun m σ H2 hW => ?_⟩
    obtain ⟨ls, fs, rfl, hS2, hperm, rfl⟩ := hW
    have hll : Lay 60 ls := lay_of fun x hx => lay_mem hlay (hperm.subset (List.mem_append_left _ hx))
    have htot : ls.length + fs.length = ds.length := by rw [← List.length_append]; exact hperm.length_eq
    refine ⟨_, rfl, Nat.zero_le _, fun r hr => ?_⟩
    have hS3 := (hS2.lst (ds := []) hr .nil)
    refine ne_nil_list (ds := ls) ((hS3.weaken (Δ' := []) fun _ h => nomatch h).freeze.dp (.of (List.mem_cons_self ..))) (.lst (SqL.of upd_same) .nil) hll ⟨_, rfl, ?_⟩
    have hS4 := hS3.weaken (Δ' := Δ) fun x hx => List.mem_cons_of_mem _ hx
    revert hS4
    generalize upd H2 r (.lst []) = H4
    intro hS4
    cases ls with
    | nil =>
      refine iteF ⟨_, rfl, ?_⟩
      exact q _ f fs hperm (hS4.drop)
    | cons x ls =>
      obtain ⟨vl, hl1, hl2, _, _⟩ := hS4.look
      obtain ⟨vf, hf1, hf2, _, _⟩ := hS4.swap.look
      refine iteT ⟨fun σ H5 => ∃ ls' fs', σ = [some (.ref d), some (.ref a), some (.ref p), some (.ref f)] ∧ St K H5 (some (d, l)) ((p, ls') :: (f, fs') :: Γ) Δ ∧ (ls' ++ fs').Perm ds ∧ ls'.length + 1 = (x :: ls).length, fun σ H5 hN => ?_, ?_⟩
      · obtain ⟨ls', fs', e, h5, h6, h7⟩ := hN
        exact ⟨ls'.length, by omega, ls', fs', e, h5, h6, rfl⟩
      · refine ⟨_, rfl, .inl ⟨rfl, _, SqL.of hf1⟩, _, rfl, .inl ⟨rfl, _, SqL.of hl1⟩, _, rfl, _, rfl, p, vl, rfl, .inl (SqL.of hl1), d, l, _, _, Δ, rfl, hS4, ?_, fun H5 t hS5 h0 h1 => ?_⟩
        · rw [hl2]
          have : (x :: ls).length ≤ 10000 := by omega
          exact Nat.lt_of_le_of_lt (show (((x :: ls).length : Nat) : Int).natAbs ≤ 10000 by omega) (by decide +kernel)
        · rw [hl2] at h1
          have ht : t.toNat < (x :: ls).length := by
            have : 0 < (x :: ls).length := by simp
            omega
          obtain ⟨vl5, y, a1, a2, a3, a4⟩ := hS5.popAt (List.getElem?_eq_getElem ht)
          have hS6 := a4.swap
          obtain ⟨vf6, b1, b2, b3⟩ := hS6.push (.of (List.mem_cons_self ..))
          have hb : (x :: ls).length ≤ 10000 := by omega
          refine ⟨p, vl5, t, t.toNat, y, rfl, rfl, a1, by omega, by omega, ?_, a3, f, vf6, y, rfl, rfl, b1, small1000' (by omega), ?_⟩
          · rw [a2]
            exact seq_of h0 (by omega)
          · refine ⟨_, _, rfl, b3.swap.weaken (fun z hz => List.mem_cons_of_mem _ hz), ?_, ?_⟩
            · exact (perm_move ht fs).trans hperm
            · rw [List.length_eraseIdx, if_pos ht]
              omega

theorem gcd_step {u v : Int} (hu : 0 ≤ u) (hv : 0 ≤ v) : Int.gcd v (u % v) = Int.gcd u v := by
  obtain ⟨a, rfl⟩ := Int.eq_ofNat_of_zero_le hu
  obtain ⟨b, rfl⟩ := Int.eq_ofNat_of_zero_le hv
  rw [← Int.natCast_emod]
  show Nat.gcd b (a % b) = Nat.gcd a b
  rw [Nat.gcd_comm b (a % b), ← Nat.gcd_rec, Nat.gcd_comm]
theorem ok_law_divisor {f : Addr} {fd : FuncData} (F : Fun K "_law_divisor" "_law_divisor" s_law_divisor f fd) (nb : NB mg bnames)     : FnOk P w K mg base CX0 1 f fd ["one", "other"] (sp_law_divisor K) := by
  refine F.ok sc_law_divisor (fun vs H Q E h => ?_) (fun cdv A outer s H vs Q E hr h => ?_)
  · obtain ⟨x, y, rfl, _⟩ := h
    rfl
  · obtain ⟨x, y, rfl, hx, hy, q⟩ := h
    refine ⟨_, (pss_cons (ps_while PassesOwn.never (pt_cmpR op_gt (pv 1) pe_int (nomark _)) (pss_one (ps_par (by rfl) (i := 0) (j := 1) sc_law_divisor.nd rfl rfl (by decide) rfl rfl (pa_cons (pv 1) (pa_cons (pe_op op_mod (pe_callTy call_int1 (by rfl) (nb "int" rfl) (by decide +kernel) (pa_cons (pv 0) pa_nil)) (pv 1)) pa_nil)) (by rfl))))
        (pss_one (ps_ret (pv 0)))), ?_⟩
    refine ⟨fun m σ H' => ∃ (u v : Int), σ = [some (.int u), some (.int v)] ∧ H' = H ∧ 0 ≤ u ∧ 0 ≤ v ∧ Int.gcd u v = Int.gcd x y ∧ m = v.toNat, ⟨_, x, y, rfl, rfl, hx, hy, rfl, rfl⟩, fun m σ H' hW => ?_⟩
    obtain ⟨u, v, rfl, rfl, hu, hv, hg, rfl⟩ := hW
    refine ⟨_, rfl, _, _, rfl, rfl, _, rfl, ite2 (fun e => ?_) (fun e => ?_)⟩
    · have e' : 0 < v := by simpa using e
      have h1 : 0 ≤ u % v := Int.emod_nonneg _ (by omega)
      have h2 : u % v < v := Int.emod_lt_of_pos _ e'
      refine ⟨fun σ2 H2 => σ2 = [some (.int v), some (.int (u % v))] ∧ H2 = H', fun σ2 H2 hN => ?_, ?_⟩
      · obtain ⟨rfl, rfl⟩ := hN
        exact ⟨_, by omega, v, u % v, rfl, rfl, hv, h1, by rw [← hg, gcd_step hu hv], rfl⟩
      · exact ⟨_, rfl, _, rfl, .inl ⟨_, rfl, _, rfl, _, _, rfl, rfl, e', _, _, rfl, rfl, rfl⟩⟩
    · have e' : v = 0 := by
        have : ¬ 0 < v := by simpa using e
        omega
      subst e'
      have hz : ((Int.gcd x y : Nat) : Int) = u := by
        rw [← hg, Int.gcd_zero_right]
        omega
      rw [hz] at q
      exact ⟨_, rfl, q⟩

theorem lcmI_app (c : Nat) (xs : List Int) (x : Int) : lcmI c (xs ++ [x]) = Nat.lcm (lcmI c xs) x.natAbs := by
  unfold lcmI
  rw [List.foldl_append]
  rfl
theorem ok_law_multiple {f : Addr} {fd : FuncData} (F : Fun K "_law_multiple" "_law_multiple" s_law_multiple f fd) (nb : NB mg bnames) (F_law_divisor : Fd P w K mg base "_law_divisor" 1 ["one", "other"] (sp_law_divisor K))    : FnOk P w K mg base CX0 2 f fd ["steps"] (sp_law_multiple K) := by
  refine F.ok sc_law_multiple (fun vs H Q E h => ?_) (fun cdv A outer s H vs Q E hr h => ?_)
  · obtain ⟨dk, Γ, Δ, a, ns, rfl, _⟩ := h
    rfl
  · obtain ⟨dk, Γ, Δ, a, ns, rfl, hS, hm, hn, hz, q⟩ := h
    refine ⟨_, (pss_cons (ps_set (i := 1) sc_law_multiple.nd rfl (.inl rfl) pe_int)
        (pss_cons (ps_for PassesOwn.never rfl (pi_list (pv 0)) (pg_name (i := 2) sc_law_multiple.nd rfl (.inl rfl))
        (pss_one (ps_set (i := 1) sc_law_multiple.nd rfl (.inl rfl) (pe_ifExp (PW.pt (pw_and (pt_cmpR op_gt (pv 2) pe_int (nomark _)) (pw_and1 (pt_cmpR op_gt (pv 1) pe_int (nomark _))))) (pe_op op_fdivW (pe_op op_mulX (pv 1) (pv 2)) (pe_fd F_law_divisor (hr.mono (by decide)) (by rfl) (pa_cons (pv 1) (pa_cons (pv 2) pa_nil)))) pe_int))))
        (pss_one (ps_ret (pv 1))))), ?_⟩
    obtain ⟨vs, hL, hlen⟩ := hS.lenL hm
    refine ⟨_, rfl, a, rfl, ⟨vs, hL⟩, for_it (n := ns.length) walkL (fun i σ H => ∃ (y : Option V), σ = [some (.ref a), some (.int (lcmI 1 (ns.take i) : Nat)), y] ∧ St K H dk Γ Δ ∧ lcmI 1 (ns.take i) < 2 ^ (200 * i + 1))
      ⟨none, rfl, hS, by rw [List.take_zero]; decide⟩ (fun i σ H _ hP => ?_) (fun i x σ H H' hi hP hy => ?_) (fun σ H hP => ?_)⟩
    · obtain ⟨_, _, hS, _⟩ := hP
      obtain ⟨xs, h1, h3⟩ := hS.lenL hm
      exact ⟨xs, h1, by rw [h3, List.length_map]⟩
    · obtain ⟨y, rfl, hS, m2⟩ := hP
      obtain ⟨rfl, f⟩ := hy
      obtain ⟨d, e1, hS1⟩ := hS.turnL hm f
      rw [List.getElem?_map, List.getElem?_eq_getElem hi] at e1
      cases Option.some.inj e1
      have ex := hS1.int_of (List.mem_cons_self ..)
      subst ex
      obtain ⟨x1, x2⟩ := hn _ (List.getElem_mem hi)
      have es : lcmI 1 (ns.take (i + 1)) = Nat.lcm (lcmI 1 (ns.take i)) ns[i].natAbs := by
        rw [List.take_add_one, List.getElem?_eq_getElem hi]
        exact lcmI_app _ _ _
      obtain ⟨c1, c2, c3⟩ := lcm_step m2 x1 x2
      rw [es]
      generalize lcmI 1 (ns.take i) = c at m2 c1 c3
      generalize ns[i] = z at x1 x2 c2 c3
      refine ⟨_, rfl, _, _, rfl, rfl, _, rfl, ite2 (fun e => ?_) (fun e => ?_)⟩
      · have z0 : 0 < z := of_decide_eq_true e
        refine ⟨_, rfl, _, _, rfl, rfl, _, rfl, ite2 (fun e2 => ?_) (fun e2 => ?_)⟩
        · have cp : (0 : Int) < (c : Int) := of_decide_eq_true e2
          obtain ⟨n, rfl⟩ := Int.eq_ofNat_of_zero_le x1
          have g1 : 0 < Nat.gcd c n := Nat.gcd_pos_of_pos_left _ (by omega)
          have g2 : Nat.gcd c n ≤ n := Nat.gcd_le_right _ (by omega)
          refine ⟨_, rfl, _, rfl, _, _, rfl, rfl, mulx_ok (show ((c : Int)).natAbs < 2 ^ (200 * i + 1) from c1) c2 (by have := hi; omega), _, rfl, _, rfl, (c : Int), (n : Int), rfl, by omega, by omega, _, _, rfl, rfl, wide_div (show (0 : Int) < ((Nat.gcd c n : Nat) : Int) by omega) (show (((Nat.gcd c n : Nat) : Int)).natAbs < 2 ^ 200 from Nat.lt_of_le_of_lt g2 c2) (by decide) (by decide), ?_⟩
          have ed : (c : Int) * (n : Int) / ((Int.gcd (c : Int) (n : Int) : Nat) : Int) = ((Nat.lcm c n : Nat) : Int) := by
            rw [← Int.natCast_mul]
            rfl
          refine ⟨some (.int (n : Int)), ?_, hS, c3⟩
          rw [show ((Nat.lcm c ((n : Int)).natAbs : Nat) : Int) = (c : Int) * (n : Int) / ((Int.gcd (c : Int) (n : Int) : Nat) : Int) from ed.symm]
          rfl
        · have cz : c = 0 := by
            have : ¬ (0 : Int) < (c : Int) := fun h => e2 (decide_eq_true h)
            omega
          subst cz
          have e0 : Nat.lcm 0 z.natAbs = 0 := Nat.lcm_zero_left _
          rw [e0] at c3 ⊢
          exact ⟨_, rfl, hS, c3⟩
      · have z0 : z = 0 := by
          have : ¬ 0 < z := fun h => e (decide_eq_true h)
          omega
        subst z0
        have e0 : Nat.lcm c (0 : Int).natAbs = 0 := Nat.lcm_zero_right _
        rw [e0] at c3 ⊢
        exact iteF ⟨_, rfl, hS, c3⟩
    · obtain ⟨y, rfl, hS, m2⟩ := hP
      rw [List.take_length]
      exact ⟨_, rfl, q _ hS⟩

theorem abs_mod (n m : Int) : decide ((if n < 0 then -n else n) % m = 0) = decide (n % m = 0) := by
  by_cases h : n < 0
  · rw [if_pos h]
    have e : ((-n) % m = 0) ↔ (n % m = 0) := by
      rw [← Int.dvd_iff_emod_eq_zero, ← Int.dvd_iff_emod_eq_zero]
      exact Int.dvd_neg
    exact decide_eq_decide.mpr e
  · rw [if_neg h]
theorem fits_at (n : Int) (rs : List Rule) {i : Nat} (hi : i < rs.length) (hb : fitR rs[i] n = false) : fitsAll rs n = false := by
  cases e : fitsAll rs n with
  | false => rfl
  | true =>
    have := List.all_eq_true.mp e rs[i] (List.getElem_mem hi)
    rw [hb] at this
    cases this
theorem fits_all (n : Int) (rs : List Rule) (h : ∀ r ∈ rs, fitR r n = true) : fitsAll rs n = true := List.all_eq_true.mpr h
theorem take_all {n : Int} {rs : List Rule} {i : Nat} (hi : i < rs.length) (h : ∀ r ∈ rs.take i, fitR r n = true) (hb : fitR rs[i] n = true) : ∀ r ∈ rs.take (i + 1), fitR r n = true := fun r hr => by
  rw [List.take_add_one, List.getElem?_eq_getElem hi] at hr
  rcases List.mem_append.mp hr with hr | hr
  · exact h r hr
  · rw [List.mem_singleton.mp hr]
    exact hb
theorem ok_law_fits {f : Addr} {fd : FuncData} (F : Fun K "_law_fits" "_law_fits" s_law_fits f fd) (nb : NB mg bnames)     : FnOk P w K mg base CX0 1 f fd ["scale", "number"] (sp_law_fits K) := by
  refine F.ok sc_law_fits (fun vs H Q E h => ?_) (fun cdv A outer s H vs Q E hr h => ?_)
  · obtain ⟨dk, Γ, Δ, a, rs, n, rfl, _⟩ := h
    rfl
  · obtain ⟨dk, Γ, Δ, a, rs, n, rfl, hS, hm, h2, q⟩ := h
    refine ⟨_, (pss_cons (ps_for PassesOwn.never rfl (pi_tup (pv 0)) (pg_tup (by rfl) (pgs_cons (pg_name (i := 2) sc_law_fits.nd rfl (.inl rfl)) (pgs_cons (pg_name (i := 3) sc_law_fits.nd rfl (.inl rfl)) pgs_nil)))
        (pss_one (ps_if (PW.pt (pw_and (pt_cmpR op_gt (pe_callB call_abs (by rfl) (nb "abs" rfl) (by decide +kernel) (pa_cons (pv 1) pa_nil)) (pv 2) (nomark _)) (pw_and1 (PW.pt (pw_or (pt_cmpR op_eq (pv 3) pe_int (nomark _)) (pw_or1 (pt_cmpR op_ne (pe_op op_mod (pe_callTy call_int1 (by rfl) (nb "int" rfl) (by decide +kernel) (pa_cons (pe_callB call_abs (by rfl) (nb "abs" rfl) (by decide +kernel) (pa_cons (pv 1) pa_nil)) pa_nil)) (pv 3)) pe_int (nomark _)))))))) (pss_one (ps_ret pe_bl)) pss_nil)))
        (pss_one (ps_ret pe_bl))), ?_⟩
    obtain ⟨vs, hT, hlen⟩ := hS.lenT hm
    refine ⟨_, rfl, a, rfl, ⟨vs, hT⟩, for_it (n := rs.length) walkT (fun i σ H => ∃ y2 y3, σ = [some (.ref a), some (.int n), y2, y3] ∧ St K H dk Γ Δ ∧ ∀ r ∈ rs.take i, fitR r n = true)
      ⟨_, _, rfl, hS, fun r hr => by simp at hr⟩ (fun i σ H _ hP => ?_) (fun i x σ H H' hi hP hy => ?_) (fun σ H hP => ?_)⟩
    · obtain ⟨_, _, _, hS, _⟩ := hP
      obtain ⟨xs, h1, h3⟩ := hS.lenT hm
      exact ⟨xs, h1, by rw [h3, List.length_map]⟩
    · obtain ⟨y2, y3, rfl, hS, hall⟩ := hP
      obtain ⟨rfl, f⟩ := hy
      obtain ⟨d, e1, hS1⟩ := hS.turnT hm f
      rw [List.getElem?_map, List.getElem?_eq_getElem hi] at e1
      cases Option.some.inj e1
      obtain ⟨ax, rfl⟩ := hS1.ref_of (List.mem_cons_self ..)
      have hs := h2 _ (List.getElem_mem hi)
      have hT := hS1.pair (List.mem_cons_self ..)
      refine ⟨ax, _, rfl, hT, rfl, _, _, rfl, _, _, rfl, rfl, ?_⟩
      refine ⟨_, rfl, _, rfl, _, rfl, _, _, rfl, rfl, _, rfl, ite2 (fun e => ?_) (fun e => ?_)⟩
      · have e' : ¬ (if n < 0 then -n else n) ≤ rs[i].1 := by simpa using e
        refine ⟨_, rfl, rfl, _, rfl, ite2 (fun e2 => ?_) (fun e2 => ?_)⟩
        · have hz : rs[i].2 = 0 := V.int.inj (of_decide_eq_true e2)
          have hb : fitR rs[i] n = false := by
            unfold fitR
            rw [decide_eq_false e', hz]
            rfl
          refine iteT ?_
          have g := q _ hS
          rw [fits_at n rs hi hb] at g
          exact g
        · have hz : rs[i].2 ≠ 0 := fun z => e2 (decide_eq_true (by rw [z]))
          refine ⟨_, rfl, _, rfl, .inl ⟨_, rfl, ?_⟩⟩
          refine ⟨_, rfl, _, _, rfl, rfl, by omega, rfl, _, rfl, ?_⟩
          have e3 : fitR rs[i] n = decide ((if n < 0 then -n else n) % rs[i].2 = 0) := by
            unfold fitR
            rw [decide_eq_false e', decide_eq_false hz, abs_mod]
            rfl
          have e4 : (!decide (V.int ((if n < 0 then -n else n) % rs[i].2) = V.int 0)) = !fitR rs[i] n := by
            rw [e3, dec_int]
            exact congrArg _ (Bool.beq_eq_decide_eq _ _)
          have e5 : ∀ {A B : Prop}, (if (!fitR rs[i] n) = true then A else B) → if (!decide (V.int ((if n < 0 then -n else n) % rs[i].2) = V.int 0)) = true then A else B := fun {A B} h => by
            rw [e4]
            exact h
          refine e5 ?_
          cases hb : fitR rs[i] n with
          | true => exact iteF ⟨_, _, rfl, hS, take_all hi hall hb⟩
          | false =>
            refine iteT ?_
            have g := q _ hS
            rw [fits_at n rs hi hb] at g
            exact g
      · have e' : (if n < 0 then -n else n) ≤ rs[i].1 := by simpa using e
        refine iteF ⟨_, _, rfl, hS, take_all hi hall ?_⟩
        unfold fitR
        rw [decide_eq_true e']
        rfl
    · obtain ⟨y2, y3, rfl, hS, hall⟩ := hP
      have g := q _ hS
      rw [fits_all n rs (fun r hr => hall r (by rw [List.take_length]; exact hr))] at g
      exact g

theorem ok_law_raised {f : Addr} {fd : FuncData} (F : Fun K "_law_raised" "_law_raised" s_law_raised f fd) (nb : NB mg bnames)     : FnOk P w K mg base CX0 1 f fd ["base", "times"] (sp_law_raised K) := by
  refine F.ok sc_law_raised (fun vs H Q E h => ?_) (fun cdv A outer s H vs Q E hr h => ?_)
  · obtain ⟨b, t, rfl, _⟩ := h
    rfl
  · obtain ⟨b, t, rfl, h0, h1, ht, q⟩ := h
    refine ⟨_, (pss_cons (ps_set (i := 2) sc_law_raised.nd rfl (.inl rfl) pe_int)
        (pss_cons (ps_for PassesOwn.never rfl (pi_range1 (by rfl) (nb "range" rfl) (pa_cons (pv 1) pa_nil)) (pg_name (i := 3) sc_law_raised.nd rfl (.inl rfl))
        (pss_one (ps_set (i := 2) sc_law_raised.nd rfl (.inl rfl) (pe_op op_mulX (pv 2) (pv 0)))))
        (pss_one (ps_ret (pv 2))))), ?_⟩
    refine ⟨_, rfl, t, rfl, by omega, by omega, for_range (lo := 0) (n := ((t : Nat) : Int).toNat) (fun i σ H' => ∃ y, σ = [some (.int b), some (.int (t : Int)), some (.int (b ^ i)), y] ∧ H' = H ∧ i ≤ t)
      ⟨_, by rw [Int.pow_zero]; rfl, rfl, Nat.zero_le _⟩ (fun i σ H' hi hP => ?_) (fun σ H' hP => ?_)⟩
    · obtain ⟨y, rfl, rfl, hit⟩ := hP
      have hi' : i < t := by omega
      have hb : (b ^ i).natAbs < 2 ^ 7001 := by
        rw [Int.natAbs_pow]
        exact Nat.lt_of_le_of_lt (Nat.pow_le_pow_left (show b.natAbs ≤ 2 ^ 7 by omega) i) (by
          rw [← Nat.pow_mul]
          exact Nat.pow_lt_pow_right (by decide) (by omega))
      have e1 : b ^ i * b = b ^ (i + 1) := (Int.pow_succ b i).symm
      exact ⟨_, rfl, _, rfl, _, _, rfl, rfl, mulx_ok (a := 7001) (b := 7) hb (by clear hb; omega) (by decide), some (.int (0 + (i : Int))), by rw [← e1]; rfl, rfl, hi'⟩
    · obtain ⟨y, rfl, rfl, hit⟩ := hP
      exact ⟨_, rfl, q⟩

theorem cut63 {ns : List Int} (h : ns.length ≤ 63) : cutV (ns.map V.int) none (some 63) = ns.map V.int := by
  unfold cutV
  rw [show HT.sIx (ns.map V.int).length (ns.map V.int).length (some 63) = min 63 (ns.map V.int).length from HT.sIx_nat _ _ 63, HT.sIx_none]
  rw [List.drop_zero, List.length_map]
  apply List.take_of_length_le
  rw [List.length_map]
  omega
theorem wS0 {K : PySem.W.Frag} {H : Hp} {a c d : Addr} {xs : List V} {o u : HO} (h : SqL K H a xs) (hc : H c = none) (hd : H d = some (.dK [])) : SqL K (upd (upd H c o) d u) a xs := by
  have ne : ∀ {w : HO}, H a = some w → (∀ k, w ≠ .dK k) → a ≠ c ∧ a ≠ d := fun e n => ⟨ne_of_none e hc, ne_of e hd (n [])⟩
  rcases h with (h | ⟨o, h⟩) | h
  · obtain ⟨n1, n2⟩ := ne h (by intro k z; cases z)
    exact .inl (.inl ((upd_ne n2).trans ((upd_ne n1).trans h)))
  · obtain ⟨n1, n2⟩ := ne h (by intro k z; cases z)
    exact .inl (.inr ⟨o, (upd_ne n2).trans ((upd_ne n1).trans h)⟩)
  · exact .inr h
theorem ok_law_deck {f : Addr} {fd : FuncData} (F : Fun K "_law_deck" "_law_deck" s_law_deck f fd) (nb : NB mg bnames)     : FnOk P w K mg base CX0 1 f fd ["script"] (sp_law_deck K) := by
  refine F.ok sc_law_deck (fun vs H Q E h => ?_) (fun cdv A outer s H vs Q E hr h => ?_)
  · obtain ⟨a, ns, rfl, _⟩ := h
    rfl
  · obtain ⟨a, ns, rfl, hS, hlen, q⟩ := h
    refine ⟨_, (pss_cons (ps_set (i := 1) sc_law_deck.nd rfl (.inl rfl) (pe_disp (pps_cons pe_str (pe_lst pa_nil) (pps_cons pe_str (pe_op op_add pe_int (pe_callB call_len_seq (by rfl) (nb "len" rfl) PySem.boot_len (pa_cons (pe_slice sl_list (pv 0) po_none (po_some pe_int)) pa_nil))) pps_nil)) (by rfl) (by rfl) (fun z => by cases z) (by decide)))
        (pss_cons (ps_for PassesOwn.never rfl (pi_list (pe_slice sl_list (pv 0) po_none (po_some pe_int))) (pg_name (i := 2) sc_law_deck.nd rfl (.inl rfl))
        (pss_cons (ps_set (i := 3) sc_law_deck.nd rfl (.inl rfl) (pe_callB call_abs (by rfl) (nb "abs" rfl) (by decide +kernel) (pa_cons (pv 2) pa_nil)))
        (Evl.pss_cut (ps_if (pt_cmpR op_ge (pv 3) (pe_op op_powW pe_int pe_int) (nomark _)) (pss_one (ps_dput (hu_of hr) (pv 1) pe_str (pe_op op_cat (pe_lst (pa_cons (pv 3) pa_nil)) (pe_dget (hu_of hr) (pv 1) pe_str (fun _ _ => rfl))) rfl)) pss_nil)
        (pss_cons (ps_set (i := 4) sc_law_deck.nd rfl (.inl rfl) (pe_op op_add (pe_op op_mul (pe_op op_add (pe_op op_add (pe_op op_add (pe_dget (hu_of hr) (pv 1) pe_str (fun _ _ => rfl)) (pe_op op_mul pe_int (pv 3))) (pe_callTy call_int1 (by rfl) (nb "int" rfl) (by decide +kernel) (pa_cons (pe_cmpR op_lt (pv 2) pe_int (nomark _)) pa_nil))) pe_int) pe_int) pe_int))
        (pss_one (ps_dput (hu_of hr) (pv 1) pe_str (pe_op op_mod (pe_callTy call_int1 (by rfl) (nb "int" rfl) (by decide +kernel) (pa_cons (pv 4) pa_nil)) pe_int) rfl))))))
        (pss_one (ps_ret (pv 1))))), ?_⟩
    -- deck = {'deep': [], 'state': ..}
    refine fun d hd => ⟨Nat.zero_le _, fun l hl => ?_⟩
    have nld : l ≠ d := (ne_of_none upd_same hl).symm
    have s0 : Same H (upd H d (.dK [])) := fun b o e => by rw [upd_ne (ne_of_none e hd)]; exact e
    have s1 : Same (upd H d (.dK [])) (upd (upd H d (.dK [])) l (.lst [])) := fun b o e => by rw [upd_ne (ne_of_none e hl)]; exact e
    have w1 : upd (upd H d (.dK [])) l (.lst []) d = some (.dK []) := (upd_ne nld.symm).trans upd_same
    have w2 : upd (upd H d (.dK [])) l (.lst []) l = some (.lst []) := upd_same
    have wS : SqL K (upd (upd H d (.dK [])) l (.lst [])) a (ns.map V.int) := (s0.trans s1).seq hS
    revert w1 w2 wS
    generalize upd (upd H d (.dK [])) l (.lst []) = H1
    intro w1 w2 wS
    refine ⟨_, rfl, _, rfl, a, _, rfl, wS, fun c hc => ?_⟩
    rw [cut63 hlen]
    have s2 : Same H1 (upd H1 c (.lst (ns.map V.int))) := fun b o e => by rw [upd_ne (ne_of_none e hc)]; exact e
    refine ⟨c, _, rfl, .inl (SqL.of upd_same), _, _, rfl, rfl, s2 _ _ w1, [(.inr "deep", .ref l), (.inr "state", .int _)], rfl, (by show 2 ≤ 15; decide), ?_⟩
    have hlen' : (ns.map V.int).length ≤ 63 := by rw [List.length_map]; exact hlen
    have h20 : 0 ≤ (1278804 : Int) + ((ns.map V.int).length : Nat) := by omega
    have h21 : (1278804 : Int) + ((ns.map V.int).length : Nat) < 2305843009213693951 := by omega
    revert h20 h21
    show _ → _ → _
    intro h20 h21
    have ncd : d ≠ c := ne_of_none w1 hc
    have ncl : l ≠ c := ne_of_none w2 hc
    refine ⟨_, rfl, _, rfl, a, ns.map V.int, rfl, wS0 wS hc w1, fun c2 hc2 => ?_⟩
    rw [cut63 hlen]
    refine ⟨c2, rfl, ⟨_, SqL.of upd_same⟩, ?_⟩
    have ncd2 : d ≠ c2 := ne_of_none upd_same hc2
    have ncl2 : l ≠ c2 := ne_of_none ((upd_ne nld).trans ((upd_ne ncl).trans w2)) hc2
    have st : St K (upd (upd (upd H1 c (.lst (ns.map V.int))) d (.dK (mergeK [] [(.inr "deep", .ref l), (.inr "state", .int (1278804 + ((ns.map V.int).length : Nat)))]))) c2 (.lst (ns.map V.int))) (some (d, l)) [] [(.ref c2, .list (ns.map PyData.int))] := by
      refine ⟨fun b => if b = c2 then some (.lst (ns.map V.int)) else none, fun b o e => ?_, fun p hp => ?_, fun g hg => (nomatch hg), List.Pairwise.nil, fun d' l' e => ?_⟩
      · by_cases hb : b = c2
        · subst hb
          rw [if_pos rfl] at e
          rw [← e]
          exact upd_same
        · rw [if_neg hb] at e
          cases e
      · rw [List.mem_singleton.mp hp]
        exact .lst (SqL.of (if_pos rfl)) (dps_of_ints ns)
      · cases e
        refine ⟨if_neg ncd2, if_neg ncl2, fun g hg => (nomatch hg), _, [], (upd_ne ncd2).trans ?_, (upd_ne ncl2).trans ((upd_ne nld).trans ((upd_ne ncl).trans w2)), fun x hx => (nomatch hx), by decide, h20, h21⟩
        exact upd_same
    refine for_it (n := ns.length) walkL (fun i σ H => ∃ l s xs y2 y3 y4, σ = [some (.ref a), some (.ref d), y2, y3, y4] ∧ St K H (some (d, l)) [] [(.ref c2, .list (ns.map PyData.int))] ∧ H d = some (.dK [(.inr "deep", .ref l), (.inr "state", .int s)]) ∧ H l = some (.lst (xs.map V.int)) ∧
        (∀ x ∈ xs, 0 ≤ x) ∧ xs.length ≤ i ∧ 0 ≤ s ∧ s < 2305843009213693951)
      ⟨l, _, [], _, _, _, rfl, st, (upd_ne ncd2).trans upd_same, (upd_ne ncl2).trans ((upd_ne nld).trans ((upd_ne ncl).trans w2)), fun x hx => (nomatch hx), Nat.zero_le _, h20, h21⟩ (fun i σ H _ hP => ?_) (fun i x σ H H' hi hP hy => ?_) (fun σ H hP => ?_)
    · obtain ⟨_, _, _, _, _, _, _, hS, _⟩ := hP
      obtain ⟨xs, h1, h3⟩ := hS.lenL (List.mem_cons_self ..)
      exact ⟨xs, h1, by rw [h3, List.length_map]⟩
    · obtain ⟨l, s, xs, y2, y3, y4, rfl, hS, h1, h2, h3, h4, h5, h6⟩ := hP
      obtain ⟨rfl, f⟩ := hy
      obtain ⟨dd, e1, hS1⟩ := hS.turnL (List.mem_cons_self ..) f
      rw [List.getElem?_map, List.getElem?_eq_getElem hi] at e1
      cases Option.some.inj e1
      have ex := hS1.int_of (List.mem_cons_self ..)
      subst ex
      generalize ns[i] = z at hS1 e1
      have hw : 0 ≤ (if z < 0 then -z else z) := by
        by_cases hz : z < 0
        · rw [if_pos hz]; omega
        · rw [if_neg hz]; omega
      -- whole = abs(cell)
      refine ⟨_, rfl, _, rfl, ?_⟩
      generalize (if z < 0 then -z else z) = wh at hw
      -- if whole >= 10 ** 18
      refine ⟨fun σ H => ∃ (l : Addr) (xs : List Int), σ = [some (.ref a), some (.ref d), some (.int z), some (.int wh), y4] ∧ St K H (some (d, l)) [] [(.ref c2, .list (ns.map PyData.int))] ∧ H d = some (.dK [(.inr "deep", .ref l), (.inr "state", .int s)]) ∧ H l = some (.lst (xs.map V.int)) ∧
        (∀ x ∈ xs, 0 ≤ x) ∧ xs.length ≤ i + 1, ?_, fun σ H hM => ?_⟩
      · refine ⟨_, rfl, _, _, rfl, rfl, ⟨by decide, by decide⟩, _, _, rfl, rfl, _, rfl, ite2 (fun e => ?_) (fun e => ?_)⟩
        · refine ⟨_, rfl, (by show 1 ≤ sizeLine; decide), fun t ht => ⟨_, rfl, d, .ref l, rfl, deck_deep ((upd_ne (ne_of_none h1 ht)).trans h1), t, l, _, _, rfl, rfl, upd_same, (upd_ne (ne_of_none h2 ht)).trans h2, ?_, fun m hm => ?_⟩⟩
          · rw [List.length_map]
            exact Nat.le_of_lt (small1000 (by show 1 + xs.length ≤ 1000; omega))
          · have hS2 := ((hS1.weaken (Δ' := [(.ref c2, .list (ns.map PyData.int))]) fun _ => List.mem_cons_of_mem _).lst (vs := [.int wh]) (ds := [.int wh]) ht (.cons (.int _) .nil)).weaken (Δ' := [(.ref c2, .list (ns.map PyData.int))]) fun _ => List.mem_cons_of_mem _
            have k1 := (upd_ne (o := HO.lst [V.int wh]) (ne_of_none h1 ht)).trans h1
            have ndm : d ≠ m := ne_of_none k1 hm
            have k2 := (upd_ne (H := upd _ t (.lst [.int wh])) (o := HO.lst ([V.int wh] ++ xs.map V.int)) ndm).trans k1
            have e1 : [V.int wh] ++ xs.map V.int = (wh :: xs).map V.int := rfl
            refine ⟨_, rfl, d, _, rfl, put_deep k2, m, wh :: xs, rfl, hS2.redeck hm (fun b hb hb2 => (upd_ne hb).trans (upd_ne hb2)) ⟨s, wh :: xs, upd_same, (upd_ne ndm.symm).trans upd_same, ?_, ?_, h5, h6⟩, upd_same, (upd_ne ndm.symm).trans upd_same, ?_, ?_⟩
            · intro x hx
              rcases List.mem_cons.mp hx with rfl | hx
              · exact hw
              · exact h3 x hx
            · rw [List.length_cons]
              omega
            · intro x hx
              rcases List.mem_cons.mp hx with rfl | hx
              · exact hw
              · exact h3 x hx
            · rw [List.length_cons]
              omega
        · exact ⟨l, xs, rfl, hS1.weaken fun _ => List.mem_cons_of_mem _, h1, h2, h3, by omega⟩
      · obtain ⟨l, xs, rfl, hS2, k1, k2, k3, k4⟩ := hM
        have ndl : d ≠ l := dk_ne k1 k2
        refine ⟨_, rfl, d, _, rfl, deck_state k1, _, rfl, _, _, rfl, rfl, .inl (by decide), _, _, rfl, rfl, _, rfl, _, _, rfl, rfl, .inr ⟨_, rfl, _, _, rfl, rfl, _, _, rfl, rfl, _, _, rfl, rfl, .inr (by decide), _, _, rfl, rfl, ?_⟩⟩
        refine ⟨_, rfl, .inl ⟨_, rfl, _, _, rfl, rfl, (by show (0 : Int) < 2305843009213693951; decide), _, rfl, d, _, rfl, put_state k1, ?_⟩⟩
        refine ⟨l, _, xs, _, _, _, rfl, hS2.deal (fun b hb _ => upd_ne hb) ⟨_, xs, upd_same, (upd_ne ndl.symm).trans k2, k3, by omega, Int.emod_nonneg _ (by decide), Int.emod_lt_of_pos _ (by decide)⟩, upd_same, (upd_ne ndl.symm).trans k2, k3, k4, Int.emod_nonneg _ (by decide), Int.emod_lt_of_pos _ (by decide)⟩
    · obtain ⟨l, s, xs, y2, y3, y4, rfl, hS, h1, h2, h3, h4, h5, h6⟩ := hP
      exact ⟨_, rfl, q _ d l (hS.weaken fun _ h => nomatch h)⟩

theorem ok_law_draw {f : Addr} {fd : FuncData} (F : Fun K "_law_draw" "_law_draw" s_law_draw f fd) (nb : NB mg bnames)     : FnOk P w K mg base CX0 1 f fd ["deck", "many"] (sp_law_draw K) := by
  refine F.ok sc_law_draw (fun vs H Q E h => ?_) (fun cdv A outer s H vs Q E hr h => ?_)
  · obtain ⟨d, l, m, Γ, Δ, rfl, _⟩ := h
    rfl
  · obtain ⟨d, l, m, Γ, Δ, rfl, hS, hm, q⟩ := h
    refine ⟨_, (pss_cons (ps_if (pt_cmpR op_lt (pv 1) pe_int (nomark _)) (pss_one (ps_ret pe_int)) pss_nil)
        (pss_cons (ps_if (pt_cmpR (op_neD hr.units) (pe_dget (hu_of hr) (pv 0) pe_str (fun _ _ => rfl)) (pe_lst pa_nil) (nomark _)) (pss_cons (ps_set (i := 2) sc_law_draw.nd rfl (.inl rfl) (pe_bm0 PySem.F.plainAttrs_list PySem.F.slot_list_pop PySem.F.type_list_pop mt_pop (pe_dget (hu_of hr) (pv 0) pe_str (fun _ _ => rfl))))
        (pss_cons (ps_if (pt_cmpR op_ge (pv 2) (pv 1) (nomark _)) (pss_one (ps_expr (pe_bm PySem.F.plainAttrs_list PySem.F.slot_list_append PySem.F.type_list_append mt_append (pe_dget (hu_of hr) (pv 0) pe_str (fun _ _ => rfl)) (pa_cons (pe_op op_fdivW (pv 2) (pv 1)) pa_nil)))) pss_nil)
        (pss_one (ps_ret (pe_op op_mod (pe_callTy call_int1 (by rfl) (nb "int" rfl) (by decide +kernel) (pa_cons (pv 2) pa_nil)) (pv 1)))))) pss_nil)
        (pss_cons (ps_set (i := 3) sc_law_draw.nd rfl (.inl rfl) (pe_op op_mod (pe_callTy call_int1 (by rfl) (nb "int" rfl) (by decide +kernel) (pa_cons (pe_op op_add (pe_op op_mul (pe_dget (hu_of hr) (pv 0) pe_str (fun _ _ => rfl)) pe_int) pe_int) pa_nil)) pe_int))
        (pss_cons (ps_dput (hu_of hr) (pv 0) pe_str (pv 3) rfl)
        (pss_cons (ps_set (i := 4) sc_law_draw.nd rfl (.inl rfl) (pe_op op_mod (pe_callTy call_int1 (by rfl) (nb "int" rfl) (by decide +kernel) (pa_cons (pe_op op_add (pe_op op_add (pe_op op_mulX (pv 3) (pv 3)) (pe_op op_mul pe_int (pv 3))) pe_int) pa_nil)) pe_int))
        (pss_one (ps_ret (pe_op op_mod (pe_callTy call_int1 (by rfl) (nb "int" rfl) (by decide +kernel) (pa_cons (pe_op op_fdiv (pv 4) pe_int) pa_nil)) (pv 1))))))))), ?_⟩
    refine ⟨_, rfl, _, _, rfl, rfl, _, rfl, ite2 (fun e => ?_) (fun e => ?_)⟩
    · exact q H 0 hS (Int.le_refl 0) (Or.inr rfl)
    · have hm2 : 2 ≤ m := by simpa using e
      have hpos : 0 < m := by omega
      have hdiv : ∀ z : Int, CDivW z m := fun z => wide_div hpos hm (by decide) (by decide)
      obtain ⟨s, xs, h1, h2, h3, h4, h5, h6⟩ := hS.deck
      refine ⟨_, rfl, d, .ref l, rfl, deck_deep h1, Nat.zero_le _, fun p hp => ?_⟩
      have hS1 := (hS.lst (ds := []) hp .nil).weaken fun x hx => List.mem_cons_of_mem _ hx
      have g1 := (upd_ne (H := H) (o := HO.lst []) (ne_of_none h1 hp)).trans h1
      have g2 := (upd_ne (H := H) (o := HO.lst []) (ne_of_none h2 hp)).trans h2
      have g3 : upd H p (.lst []) p = some (.lst []) := upd_same
      revert hS1 g1 g2 g3
      generalize upd H p (.lst []) = H1
      intro hS1 g1 g2 g3
      have ndl : d ≠ l := dk_ne g1 g2
      refine ne_nil_list (ds := xs.map PyData.int) (.lst (SqL.of g2) (dps_of_ints xs)) (.lst (SqL.of g3) .nil) (lay_ints xs) ⟨_, rfl, ite2 (fun e2 => ?_) (fun e2 => ?_)⟩
      · have hne : xs ≠ [] := by
          intro z
          subst z
          exact absurd e2 (by decide)
        obtain ⟨ys, z, rfl⟩ : ∃ ys z, xs = ys ++ [z] := ⟨_, _, (List.dropLast_concat_getLast hne).symm⟩
        have hz : 0 ≤ z := h3 z (by simp)
        have elast : ((ys ++ [z]).map V.int)[((ys ++ [z]).map V.int).length - 1]? = some (.int z) := by simp
        have edrop : ((ys ++ [z]).map V.int).dropLast = ys.map V.int := by simp
        refine ⟨_, rfl, d, .ref l, rfl, deck_deep g1, .inl ⟨rfl, _, SqL.of g2⟩, l, _, .int z, rfl, rfl, g2, elast, ?_⟩
        rw [edrop]
        have hl : ys.length ≤ 63 := by
          rw [List.length_append, List.length_singleton] at h4
          omega
        have k1 : upd H1 l (.lst (ys.map V.int)) d = _ := (upd_ne ndl).trans g1
        have k2 : upd H1 l (.lst (ys.map V.int)) l = some (.lst (ys.map V.int)) := upd_same
        have k3 : ∀ b, b ≠ d → b ≠ l → upd H1 l (.lst (ys.map V.int)) b = H1 b := fun b _ hb => upd_ne hb
        revert k1 k2 k3
        generalize upd H1 l (.lst (ys.map V.int)) = H2
        intro k1 k2 k3
        have hmod : 0 ≤ z % m ∧ z % m < m := ⟨Int.emod_nonneg z (by omega), Int.emod_lt_of_pos z hpos⟩
        refine ⟨_, rfl, _, rfl, _, _, rfl, rfl, _, rfl, ite2 (fun e3 => ?_) (fun e3 => ?_)⟩
        · refine ⟨_, rfl, d, .ref l, rfl, deck_deep k1, .inl ⟨rfl, _, SqL.of k2⟩, _, rfl, _, rfl, _, _, rfl, rfl, hdiv z, l, _, _, rfl, rfl, k2, ?_, ?_⟩
          · rw [List.length_map]
            exact small1000 (by omega)
          · have eapp : ys.map V.int ++ [V.int (z / m)] = (ys ++ [z / m]).map V.int := by simp
            rw [eapp]
            refine ⟨_, rfl, .inl ⟨_, rfl, _, rfl, _, _, rfl, rfl, hpos, q _ (z % m) (hS1.deal (fun b hb hb2 => (upd_ne hb2).trans (k3 b hb hb2)) ⟨s, ys ++ [z / m], (upd_ne ndl).trans k1, upd_same, ?_, ?_, h5, h6⟩) hmod.1 (Or.inl hmod.2)⟩⟩
            · intro x hx
              rcases List.mem_append.mp hx with hx | hx
              · exact h3 x (List.mem_append_left _ hx)
              · rw [List.mem_singleton.mp hx]
                exact Int.ediv_nonneg hz (by omega)
            · rw [List.length_append, List.length_singleton]
              omega
        · exact ⟨_, rfl, .inl ⟨_, rfl, _, rfl, _, _, rfl, rfl, hpos, q _ (z % m) (hS1.deal k3 ⟨s, ys, k1, k2, fun x hx => h3 x (List.mem_append_left _ hx), by omega, h5, h6⟩) hmod.1 (Or.inl hmod.2)⟩⟩
      · have o1 : 0 ≤ (s * 1181783497276652981 + 88172645463325) % 2305843009213693951 := Int.emod_nonneg _ (by decide)
        have o2 : (s * 1181783497276652981 + 88172645463325) % 2305843009213693951 < 2305843009213693951 := Int.emod_lt_of_pos _ (by decide)
        have hmul : CMulX ((s * 1181783497276652981 + 88172645463325) % 2305843009213693951) ((s * 1181783497276652981 + 88172645463325) % 2305843009213693951) := mulx_ok (a := 61) (b := 61) (by omega) (by omega) (by decide)
        refine ⟨_, rfl, d, _, rfl, deck_state g1, _, _, rfl, rfl, .inr (by decide), _, _, rfl, rfl, .inl ⟨_, rfl, _, _, rfl, rfl, (by show (0 : Int) < 2305843009213693951; decide), ?_⟩⟩
        refine ⟨_, rfl, _, rfl, d, _, rfl, put_state g1, ?_⟩
        refine ⟨_, rfl, _, rfl, _, _, rfl, rfl, hmul, _, rfl, _, _, rfl, rfl, .inl (by decide), _, _, rfl, rfl, _, _, rfl, rfl, .inl ⟨_, rfl, _, _, rfl, rfl, (by show (0 : Int) < 2305843009213693921; decide), ?_⟩⟩
        refine ⟨_, rfl, _, _, rfl, rfl, ⟨by decide, by decide⟩, .inl ⟨_, rfl, _, rfl, _, _, rfl, rfl, hpos, ?_⟩⟩
        exact q _ _ (hS1.deal (fun b hb _ => upd_ne hb) ⟨_, xs, upd_same, (upd_ne ndl.symm).trans g2, h3, h4, o1, o2⟩) (Int.emod_nonneg _ (by omega)) (Or.inl (Int.emod_lt_of_pos _ hpos))

theorem ok_law_pick {f : Addr} {fd : FuncData} (F : Fun K "_law_pick" "_law_pick" s_law_pick f fd) (nb : NB mg bnames) (F_law_draw : Fd P w K mg base "_law_draw" 1 ["deck", "many"] (sp_law_draw K))    : FnOk P w K mg base CX0 2 f fd ["deck", "items"] (sp_law_pick K) := by
  refine F.ok sc_law_pick (fun vs H Q E h => ?_) (fun cdv A outer s H vs Q E hr h => ?_)
  · obtain ⟨d, l, a, ds, Γ, Δ, rfl, _⟩ := h
    rfl
  · obtain ⟨d, l, a, ds, Γ, Δ, rfl, hS, hm, hne, hz, q⟩ := h
    refine ⟨_, (pss_one (ps_ret (pe_ix ix_list (pv 1) (pe_fd F_law_draw (hr.mono (by decide)) (by rfl) (pa_cons (pv 0) (pa_cons (pe_callB call_len_seq (by rfl) (nb "len" rfl) PySem.boot_len (pa_cons (pv 1) pa_nil)) pa_nil))) (fun _ _ => rfl)))), ?_⟩
    obtain ⟨vs, hL, hlen, Δ', rfl, hS', hv⟩ := hS.lstAt hm
    refine ⟨_, rfl, _, rfl, _, rfl, a, vs, rfl, .inl hL, d, l, _, Γ, Δ, rfl, hS, ?_, fun H' r hS2 h0 h1 => ?_⟩
    · rw [hlen]
      exact Nat.lt_of_le_of_lt (show ((ds.length : Nat) : Int).natAbs ≤ 10000 by omega) (by decide +kernel)
    · obtain ⟨us, hL2, hlen2, Δ2, rfl, hS3, hv2⟩ := hS2.lstAt hm
      have hpos : 0 < ds.length := List.length_pos_iff.mpr hne
      have hr : r.toNat < ds.length := by omega
      obtain ⟨v, e1, e2⟩ := dvs_at hv2 (List.getElem?_eq_getElem hr)
      refine ⟨a, us, r, v, rfl, rfl, hL2, atI_of h0 e1, q H' v _ (List.getElem_mem hr) ((hS3.also e2).weaken fun x hx => ?_)⟩
      rcases List.mem_cons.mp hx with rfl | hx
      · exact List.mem_cons_self ..
      · exact List.mem_cons_of_mem _ (List.mem_append_right _ hx)

theorem sum_take_le (f : Rule → Nat) : ∀ (ks : List Rule) (i : Nat), ((ks.take i).map f).sum ≤ (ks.map f).sum
  | [], i => by simp
  | k :: ks, 0 => by simp
  | k :: ks, i + 1 => by
    have := sum_take_le f ks i
    simp only [List.take_succ_cons, List.map_cons, List.sum_cons]
    omega
theorem int_pow_lt {a b : Nat} (h : a < b) : (2 : Int) ^ a < 2 ^ b := by
  exact_mod_cast Nat.pow_lt_pow_right (by decide) h
theorem step_bound {m p : Int} {S t M : Nat} (m1 : 1 ≤ m) (m2 : m ≤ 2 ^ (7 * S)) (p1 : 1 ≤ p) (p2 : p < 128) (ht : t ≤ M) :
    m.natAbs < 2 ^ (7 * S + 1) ∧ (p ^ t).natAbs < 2 ^ (7 * t + 1) ∧ 1 ≤ m * p ^ t ∧ m * p ^ t ≤ 2 ^ (7 * (S + M)) := by
  obtain ⟨a, rfl⟩ := Int.eq_ofNat_of_zero_le (show 0 ≤ m by omega)
  obtain ⟨b, rfl⟩ := Int.eq_ofNat_of_zero_le (show 0 ≤ p by omega)
  have a2 : a ≤ 2 ^ (7 * S) := by exact_mod_cast m2
  have a1 : 1 ≤ a := by exact_mod_cast m1
  have b1 : 1 ≤ b := by exact_mod_cast p1
  have b2 : b ≤ 2 ^ 7 := by omega
  have c1 : b ^ t ≤ 2 ^ (7 * t) := by
    rw [Nat.pow_mul]
    exact Nat.pow_le_pow_left b2 t
  have c0 : 1 ≤ b ^ t := Nat.one_le_pow _ _ b1
  have c2 : a * b ^ t ≤ 2 ^ (7 * (S + M)) := by
    refine Nat.le_trans (Nat.mul_le_mul a2 c1) ?_
    rw [← Nat.pow_add]
    exact Nat.pow_le_pow_right (by decide) (by omega)
  refine ⟨?_, ?_, ?_, ?_⟩
  · exact Nat.lt_of_le_of_lt a2 (Nat.pow_lt_pow_right (by decide) (Nat.lt_succ_self _))
  · rw [Int.natAbs_pow]
    exact Nat.lt_of_le_of_lt c1 (Nat.pow_lt_pow_right (by decide) (Nat.lt_succ_self _))
  · exact_mod_cast Nat.mul_le_mul a1 c0
  · exact_mod_cast c2
theorem prod_bound {m p S : Int} {t M : Nat} (m1 : 1 ≤ m) (m3 : m ≤ S) (p1 : 1 ≤ p) (ht : t ≤ M) : m * p ^ t ≤ S * p ^ M := by
  have h1 : 0 < p ^ t := Int.pow_pos (by omega)
  have h2 : p ^ t ≤ p ^ M := by
    obtain ⟨k, rfl⟩ := Nat.exists_eq_add_of_le ht
    rw [Int.pow_add]
    have h3 : 0 < p ^ k := Int.pow_pos (by omega)
    calc p ^ t = p ^ t * 1 := (Int.mul_one _).symm
      _ ≤ p ^ t * p ^ k := Int.mul_le_mul_of_nonneg_left (by omega) (by omega)
  exact Int.mul_le_mul m3 h2 (by omega) (by omega)
theorem pow_dvd_le {p : Int} {t M : Nat} (h : t ≤ M) : p ^ t ∣ p ^ M := by
  obtain ⟨k, rfl⟩ := Nat.exists_eq_add_of_le h
  exact ⟨p ^ k, Int.pow_add p t k⟩
theorem head_dvd (k : Rule) (ks : List Rule) : k.1 ∣ prodK (k :: ks) := by
  show k.1 ∣ k.1 ^ (max 3 k.2.toNat) * prodK ks
  refine Int.dvd_trans ?_ (Int.dvd_mul_right _ _)
  have h := pow_dvd_le (p := k.1) (t := 1) (M := max 3 k.2.toNat) (by omega)
  rw [Int.pow_succ, Int.pow_zero, Int.one_mul] at h
  exact h
theorem ok_law_step {f : Addr} {fd : FuncData} (F : Fun K "_law_step" "_law_step" s_law_step f fd) (nb : NB mg bnames) (F_law_draw : Fd P w K mg base "_law_draw" 1 ["deck", "many"] (sp_law_draw K)) (F_law_pick : Fd P w K mg base "_law_pick" 2 ["deck", "items"] (sp_law_pick K)) (F_law_raised : Fd P w K mg base "_law_raised" 1 ["base", "times"] (sp_law_raised K))    : FnOk P w K mg base CX0 3 f fd ["deck", "kinds"] (sp_law_step K) := by
  refine F.ok sc_law_step (fun vs H Q E h => ?_) (fun cdv A outer s H vs Q E hr h => ?_)
  · obtain ⟨d, l, a, ks, Γ, Δ, rfl, _⟩ := h
    rfl
  · obtain ⟨d, l, a, ks, Γ, Δ, rfl, hS, hm, ⟨hne, hk, hsum, hpr⟩, q⟩ := h
    refine ⟨_, (pss_cons (ps_set (i := 2) sc_law_step.nd rfl (.inl rfl) pe_int)
        (pss_cons (ps_for PassesOwn.never rfl (pi_list (pv 1)) (pg_tup (by rfl) (pgs_cons (pg_name (i := 3) sc_law_step.nd rfl (.inl rfl)) (pgs_cons (pg_name (i := 4) sc_law_step.nd rfl (.inl rfl)) pgs_nil)))
        (pss_one (ps_set (i := 2) sc_law_step.nd rfl (.inl rfl) (pe_op op_mulX (pv 2) (pe_fd F_law_raised (hr.mono (by decide)) (by rfl) (pa_cons (pv 3) (pa_cons (pe_fd F_law_draw (hr.mono (by decide)) (by rfl) (pa_cons (pv 0) (pa_cons (pe_fd F_law_pick (hr.mono (by decide)) (by rfl) (pa_cons (pv 0) (pa_cons (pe_lst (pa_cons pe_int (pa_cons pe_int (pa_cons (pe_op op_add (pv 4) pe_int) (pa_cons (pe_op op_add (pv 4) pe_int) pa_nil))))) pa_nil))) pa_nil))) pa_nil)))))))
        (pss_one (ps_ret (pe_ifExp (pt_cmpR op_gt (pv 2) pe_int (nomark _)) (pv 2) (pe_ix ix_tup (pe_ix ix_list (pv 1) pe_int (fun _ _ => rfl)) pe_int (fun _ _ => rfl))))))), ?_⟩
    obtain ⟨vs, hL, hlen⟩ := hS.lenL hm
    refine ⟨_, rfl, a, rfl, ⟨vs, hL⟩, for_it (n := ks.length) walkL (fun i σ H => ∃ (m : Int) (y z : Option V), σ = [some (.ref d), some (.ref a), some (.int m), y, z] ∧ St K H (some (d, l)) Γ Δ ∧ 1 ≤ m ∧ m ≤ 2 ^ (7 * ((ks.take i).map fun k => max 3 k.2.toNat).sum) ∧ m ≤ prodK (ks.take i) ∧ m ∣ prodK (ks.take i))
      ⟨1, _, _, rfl, hS, by decide, by rw [List.take_zero]; decide, by rw [List.take_zero]; exact Int.le_refl _, Int.one_dvd _⟩ (fun i σ H _ hP => ?_) (fun i x σ H H' hi hP hy => ?_) (fun σ H hP => ?_)⟩
    · obtain ⟨_, _, _, _, hS, _⟩ := hP
      obtain ⟨xs, h1, h3⟩ := hS.lenL hm
      exact ⟨xs, h1, by rw [h3, List.length_map]⟩
    · obtain ⟨m, y, z, rfl, hS, m1, m2, m3, m4⟩ := hP
      obtain ⟨rfl, f⟩ := hy
      obtain ⟨dd, e1, hS1⟩ := hS.turnL hm f
      rw [List.getElem?_map, List.getElem?_eq_getElem hi] at e1
      cases Option.some.inj e1
      obtain ⟨ax, rfl⟩ := hS1.ref_of (List.mem_cons_self ..)
      have hT := hS1.pair (List.mem_cons_self ..)
      obtain ⟨p1, p2, p3, p4⟩ := hk _ (List.getElem_mem hi)
      have htake : ((ks.take (i + 1)).map fun k => max 3 k.2.toNat).sum = ((ks.take i).map fun k => max 3 k.2.toNat).sum + max 3 ks[i].2.toNat := by
        rw [List.take_add_one, List.getElem?_eq_getElem hi, List.map_append, List.sum_append]
        simp only [Option.toList_some, List.map_cons, List.map_nil, List.sum_cons, List.sum_nil, Nat.add_zero]
      have hpk : prodK (ks.take (i + 1)) = prodK (ks.take i) * ks[i].1 ^ (max 3 ks[i].2.toNat) := by
        rw [List.take_add_one, List.getElem?_eq_getElem hi]
        exact prodK_app _ _
      have hle : ((ks.take (i + 1)).map fun k => max 3 k.2.toNat).sum ≤ 199 := Nat.le_trans (sum_take_le _ _ _) hsum
      rw [htake] at hle
      refine ⟨ax, _, rfl, hT, rfl, _, _, rfl, _, _, rfl, rfl, ?_⟩
      generalize ks[i].1 = pr at p1 p2 hpk
      generalize ks[i].2 = mo at p3 p4 htake hle hpk
      generalize ((ks.take i).map fun k => max 3 k.2.toNat).sum = S at htake hle m2
      refine ⟨_, rfl, _, rfl, _, rfl, ?_⟩
      have hS0 := hS1.weaken (Δ' := Δ) fun _ => List.mem_cons_of_mem _
      refine go_pick (ds := [.int 2, .int 4, .int (mo + 1), .int (mo + 1)]) rfl ?_ .rfl' hS0 (by simp) (by show 4 ≤ 10000; decide) (fun H1 v x hx hS2 => ?_)
      · walk_at "evd"
      obtain ⟨c, rfl, c1, c2⟩ : ∃ c : Int, x = .int c ∧ 1 ≤ c ∧ c ≤ max 4 (mo + 1) := by
        simp only [List.mem_cons, List.not_mem_nil, or_false] at hx
        rcases hx with rfl | rfl | rfl | rfl
        · exact ⟨_, rfl, by omega, by omega⟩
        · exact ⟨_, rfl, by omega, by omega⟩
        · exact ⟨_, rfl, by omega, by omega⟩
        · exact ⟨_, rfl, by omega, by omega⟩
      obtain rfl := hS2.int_of (List.mem_cons_self ..)
      refine ⟨d, l, c, Γ, Δ, rfl, hS2.weaken fun _ => List.mem_cons_of_mem _, small8000 (by omega) (by omega), fun H2 r hS3 r0 r1 => ?_⟩
      have hr : r.toNat ≤ max 3 mo.toNat := by omega
      refine ⟨pr, r.toNat, ?_, by omega, by omega, by omega, ?_⟩
      · rw [show ((r.toNat : Nat) : Int) = r by omega]
        rfl
      obtain ⟨b1, b2, b3, b4⟩ := step_bound (t := r.toNat) m1 m2 (by omega) p2 hr
      refine ⟨m, pr ^ r.toNat, rfl, rfl, mulx_ok (a := 7 * S + 1) (b := 7 * r.toNat + 1) b1 b2 (by omega), _, _, _, rfl, hS3, b3, ?_, ?_, ?_⟩
      · rw [htake]
        exact b4
      · rw [hpk]
        exact prod_bound m1 m3 (by omega) hr
      · rw [hpk]
        exact Int.mul_dvd_mul m4 (pow_dvd_le hr)
    · obtain ⟨m, y, z, rfl, hS, m1, m2, m3, m4⟩ := hP
      rw [List.take_length] at m2 m3 m4
      refine ⟨_, rfl, _, _, rfl, rfl, _, rfl, ite2 (fun e => ?_) (fun e => ?_)⟩
      · have e' : 1 < m := by simpa using e
        exact ⟨_, rfl, q _ m hS (by omega) (Int.le_trans m3 hpr) m4⟩
      · cases ks with
        | nil => exact absurd rfl hne
        | cons k ks =>
          obtain ⟨p1, p2, p3, p4⟩ := hk k (List.mem_cons_self ..)
          obtain ⟨us, hL2, hlen2, Δ2, rfl, hS3, hv2⟩ := hS.lstAt hm
          obtain ⟨v, e1, e2⟩ := dvs_at (i := 0) hv2 (x := ruleD k) rfl
          have hS4 := hS3.also e2
          obtain ⟨ax, rfl⟩ := hS4.ref_of (List.mem_cons_self ..)
          have hT := hS4.pair (List.mem_cons_self ..)
          refine ⟨_, rfl, a, us, 0, _, rfl, rfl, hL2, atI_nat (j := 0) e1, ax, _, 0, _, rfl, rfl, hT, atI_nat (j := 0) rfl, q _ _ hS p1 (Int.le_of_lt (Int.lt_trans p2 (by decide +kernel))) (head_dvd k ks)⟩

def menu1 : List (List Rule) := [[(2, 60), (5, 60)], [(2, 190)], [(2, 70), (3, 70)], [(2, 40), (3, 40), (5, 40)], [(7, 60)], [(97, 30)]]
def menu2 : List (List Rule) := [[(2, 6), (3, 4), (5, 2), (7, 2), (11, 1), (13, 1), (17, 1), (19, 1)], [(2, 4), (3, 2)], [(10, 60)]]
theorem menus_ok : ∀ ks ∈ menu1 ++ menu2, KindsG ks := by unfold KindsG; decide +kernel
theorem ok_law_kinds {f : Addr} {fd : FuncData} (F : Fun K "_law_kinds" "_law_kinds" s_law_kinds f fd) (nb : NB mg bnames) (F_law_pick : Fd P w K mg base "_law_pick" 2 ["deck", "items"] (sp_law_pick K))    : FnOk P w K mg base CX0 3 f fd ["deck"] (sp_law_kinds K) := by
  refine F.ok sc_law_kinds (fun vs H Q E h => ?_) (fun cdv A outer s H vs Q E hr h => ?_)
  · obtain ⟨d, l, Γ, Δ, rfl, _⟩ := h
    rfl
  · obtain ⟨d, l, Γ, Δ, rfl, hS, q⟩ := h
    refine ⟨_, (pss_cons (ps_set (i := 1) sc_law_kinds.nd rfl (.inl rfl) (pe_lst (pa_cons (pe_lst (pa_cons (pe_tup (pa_cons pe_int (pa_cons pe_int pa_nil))) (pa_cons (pe_tup (pa_cons pe_int (pa_cons pe_int pa_nil))) pa_nil))) (pa_cons (pe_lst (pa_cons (pe_tup (pa_cons pe_int (pa_cons pe_int pa_nil))) pa_nil)) (pa_cons (pe_lst (pa_cons (pe_tup (pa_cons pe_int (pa_cons pe_int pa_nil))) (pa_cons (pe_tup (pa_cons pe_int (pa_cons pe_int pa_nil))) pa_nil))) (pa_cons (pe_lst (pa_cons (pe_tup (pa_cons pe_int (pa_cons pe_int pa_nil))) (pa_cons (pe_tup (pa_cons pe_int (pa_cons pe_int pa_nil))) (pa_cons (pe_tup (pa_cons pe_int (pa_cons pe_int pa_nil))) pa_nil)))) (pa_cons (pe_lst (pa_cons (pe_tup (pa_cons pe_int (pa_cons pe_int pa_nil))) pa_nil)) (pa_cons (pe_lst (pa_cons (pe_tup (pa_cons pe_int (pa_cons pe_int pa_nil))) pa_nil)) pa_nil))))))))
        (pss_cons (ps_set (i := 1) sc_law_kinds.nd rfl (.inl rfl) (pe_op op_cat (pv 1) (pe_lst (pa_cons (pe_lst (pa_cons (pe_tup (pa_cons pe_int (pa_cons pe_int pa_nil))) (pa_cons (pe_tup (pa_cons pe_int (pa_cons pe_int pa_nil))) (pa_cons (pe_tup (pa_cons pe_int (pa_cons pe_int pa_nil))) (pa_cons (pe_tup (pa_cons pe_int (pa_cons pe_int pa_nil))) (pa_cons (pe_tup (pa_cons pe_int (pa_cons pe_int pa_nil))) (pa_cons (pe_tup (pa_cons pe_int (pa_cons pe_int pa_nil))) (pa_cons (pe_tup (pa_cons pe_int (pa_cons pe_int pa_nil))) (pa_cons (pe_tup (pa_cons pe_int (pa_cons pe_int pa_nil))) pa_nil))))))))) (pa_cons (pe_lst (pa_cons (pe_tup (pa_cons pe_int (pa_cons pe_int pa_nil))) (pa_cons (pe_tup (pa_cons pe_int (pa_cons pe_int pa_nil))) pa_nil))) (pa_cons (pe_lst (pa_cons (pe_tup (pa_cons pe_int (pa_cons pe_int pa_nil))) pa_nil)) pa_nil))))))
        (pss_one (ps_ret (pe_fd F_law_pick (hr.mono (by decide)) (by rfl) (pa_cons (pv 0) (pa_cons (pv 1) pa_nil))))))), ?_⟩
    refine go_set (EvDs.make (B := Δ) (ds := menu1.map kindsD) ?_ .rfl' hS (by decide) (fun p H1 hS1 => ?_))
    · unfold menu1
      walk_at "evd"
    refine go_set (go_op ⟨_, rfl, EvDs.make (B := Δ) (ds := menu2.map kindsD) ?_ .rfl' hS1 (by decide) (fun r H2 hS2 => ?_)⟩)
    · unfold menu2
      walk_at "evd"
    obtain ⟨xs, zs, h1, h2, h3, h4, h5⟩ := hS2.swap.cat
    refine ⟨p, r, xs, zs, rfl, rfl, h1, h2, ?_, fun t ht => ?_⟩
    · rw [h3, h4]
      decide
    have hS3 := (h5 t ht).freeze.drop.drop
    refine go_ret (go_pick rfl (ed_var rfl (.of (List.mem_cons_self ..))) .rfl' hS3 (by decide) (by decide) (fun H' v x hx hS4 => ?_))
    rw [← List.map_append] at hx
    obtain ⟨ks, hk, rfl⟩ := List.mem_map.mp hx
    exact q H' v ks (menus_ok ks hk) (hS4.weaken fun y hy => by
      rcases List.mem_cons.mp hy with rfl | hy
      · exact List.mem_cons_self ..
      · exact List.mem_cons_of_mem _ (List.mem_cons_of_mem _ hy))

theorem prodK_pos : ∀ {ks : List Rule}, (∀ k ∈ ks, 2 ≤ k.1 ∧ k.1 < 128 ∧ 0 ≤ k.2 ∧ k.2 ≤ 190) → 1 ≤ prodK ks
  | [], _ => Int.le_refl _
  | k :: ks, h => by
    have h1 := prodK_pos fun x hx => h x (List.mem_cons_of_mem _ hx)
    have h2 : 0 < k.1 ^ (max 3 k.2.toNat) := Int.pow_pos (by have := (h k (List.mem_cons_self ..)).1; omega)
    show 1 ≤ k.1 ^ (max 3 k.2.toNat) * prodK ks
    have := Int.mul_pos h2 (show 0 < prodK ks by omega)
    omega
theorem ok_law_great {f : Addr} {fd : FuncData} (F : Fun K "_law_great" "_law_great" s_law_great f fd) (nb : NB mg bnames) (F_law_draw : Fd P w K mg base "_law_draw" 1 ["deck", "many"] (sp_law_draw K)) (F_law_kinds : Fd P w K mg base "_law_kinds" 3 ["deck"] (sp_law_kinds K)) (F_law_mixed : Fd P w K mg base "_law_mixed" 2 ["deck", "items"] (sp_law_mixed K)) (F_law_pick : Fd P w K mg base "_law_pick" 2 ["deck", "items"] (sp_law_pick K)) (F_law_step : Fd P w K mg base "_law_step" 3 ["deck", "kinds"] (sp_law_step K))    : FnOk P w K mg base CX0 4 f fd ["deck", "most"] (sp_law_great K) := by
  refine F.ok sc_law_great (fun vs H Q E h => ?_) (fun cdv A outer s H vs Q E hr h => ?_)
  · obtain ⟨d, l, m, Γ, Δ, rfl, _⟩ := h
    rfl
  · obtain ⟨d, l, most, Γ, Δ, rfl, hS, hm1, hm2, q⟩ := h
    refine ⟨_, (pss_cons (ps_par3 (by rfl) (i := 2) (j := 3) (l := 4) sc_law_great.nd rfl rfl rfl (by decide) (by decide) (by decide) rfl rfl rfl (pa_cons (pe_fd F_law_kinds (hr.mono (by decide)) (by rfl) (pa_cons (pv 0) pa_nil)) (pa_cons (pe_lst pa_nil) (pa_cons (pe_fd F_law_pick (hr.mono (by decide)) (by rfl) (pa_cons (pv 0) (pa_cons (pe_lst (pa_cons (pe_op op_powW pe_int pe_int) (pa_cons (pe_op op_powW pe_int pe_int) (pa_cons (pe_op op_powW pe_int pe_int) (pa_cons (pe_op op_powW pe_int pe_int) pa_nil))))) pa_nil))) pa_nil))) (by rfl))
        (pss_cons (ps_set (i := 5) sc_law_great.nd rfl (.inl rfl) (pe_callB (call_max2 rfl) (by rfl) (nb "max" rfl) (by decide +kernel) (pa_cons pe_int (pa_cons (pe_fd F_law_pick (hr.mono (by decide)) (by rfl) (pa_cons (pv 0) (pa_cons (pe_lst (pa_cons (pv 1) (pa_cons (pv 1) (pa_cons (pe_op op_fdiv (pv 1) pe_int) (pa_cons (pe_callB (call_min2 rfl) (by rfl) (nb "min" rfl) (by decide +kernel) (pa_cons pe_int (pa_cons (pv 1) pa_nil))) (pa_cons pe_int pa_nil)))))) pa_nil))) pa_nil))))
        (pss_cons (ps_for PassesOwn.never rfl (pi_range1 (by rfl) (nb "range" rfl) (pa_cons (pv 5) pa_nil)) (pg_name (i := 6) sc_law_great.nd rfl (.inl rfl))
        (pss_cons (ps_set (i := 7) sc_law_great.nd rfl (.inl rfl) (pe_fd F_law_step (hr.mono (by decide)) (by rfl) (pa_cons (pv 0) (pa_cons (pv 2) pa_nil))))
        (pss_cons (ps_set (i := 8) sc_law_great.nd rfl (.inl rfl) (pe_ifExp (pt_cmpR op_eq (pe_fd F_law_draw (hr.mono (by decide)) (by rfl) (pa_cons (pv 0) (pa_cons pe_int pa_nil))) pe_int (nomark _)) (pe_fd F_law_draw (hr.mono (by decide)) (by rfl) (pa_cons (pv 0) (pa_cons (pe_callB (call_max2 rfl) (by rfl) (nb "max" rfl) (by decide +kernel) (pa_cons pe_int (pa_cons (pe_op op_fdivW (pv 4) (pv 7)) pa_nil))) pa_nil))) (pe_fd F_law_draw (hr.mono (by decide)) (by rfl) (pa_cons (pv 0) (pa_cons pe_int pa_nil)))))
        (pss_cons (ps_set (i := 9) sc_law_great.nd rfl (.inl rfl) (pe_op op_add (pe_op op_mulX (pv 7) (pv 8)) (pe_fd F_law_pick (hr.mono (by decide)) (by rfl) (pa_cons (pv 0) (pa_cons (pe_lst (pa_cons pe_int (pa_cons pe_int (pa_cons (pe_un un_neg pe_int) (pa_cons pe_int (pa_cons (pe_fd F_law_draw (hr.mono (by decide)) (by rfl) (pa_cons (pv 0) (pa_cons (pv 7) pa_nil))) pa_nil)))))) pa_nil)))))
        (Evl.pss_cut (ps_if (PW.pt (pw_and (pt_cmpR (op_neD hr.units) (pv 3) (pe_lst pa_nil) (nomark _)) (pw_and1 (pt_cmpR op_eq (pe_fd F_law_draw (hr.mono (by decide)) (by rfl) (pa_cons (pv 0) (pa_cons pe_int pa_nil))) pe_int (nomark _))))) (pss_one (ps_set (i := 9) sc_law_great.nd rfl (.inl rfl) (pe_ix ix_tup (pe_ix ix_list (pv 3) (pe_un un_neg pe_int) (fun _ _ => rfl)) pe_int (fun _ _ => rfl)))) pss_nil)
        (pss_one (ps_expr (pe_bm PySem.F.plainAttrs_list PySem.F.slot_list_append PySem.F.type_list_append mt_append (pv 3) (pa_cons (pe_tup (pa_cons (pe_callB (call_min2 rfl) (by rfl) (nb "min" rfl) (by decide +kernel) (pa_cons (pe_op op_powW pe_int pe_int) (pa_cons (pe_callB (call_max2 rfl) (by rfl) (nb "max" rfl) (by decide +kernel) (pa_cons pe_int (pa_cons (pv 9) pa_nil))) pa_nil))) (pa_cons (pv 7) pa_nil))) pa_nil)))))))))
        (Evl.pss_cut (ps_if (pt_cmpR op_eq (pe_fd F_law_draw (hr.mono (by decide)) (by rfl) (pa_cons (pv 0) (pa_cons pe_int pa_nil))) pe_int (nomark _)) (pss_one (ps_asg (pe_tup (pa_cons (pe_fd F_law_pick (hr.mono (by decide)) (by rfl) (pa_cons (pv 0) (pa_cons (pe_lst (pa_cons (pv 4) (pa_cons (pe_op op_sub (pv 4) pe_int) (pa_cons (pe_fd F_law_draw (hr.mono (by decide)) (by rfl) (pa_cons (pv 0) (pa_cons (pv 4) pa_nil))) (pa_cons pe_int (pa_cons (pe_op op_powW pe_int pe_int) pa_nil)))))) pa_nil))) (pa_cons pe_int pa_nil))) (pg_sub (pv 3) (pe_fd F_law_draw (hr.mono (by decide)) (by rfl) (pa_cons (pv 0) (pa_cons (pe_callB call_len_seq (by rfl) (nb "len" rfl) PySem.boot_len (pa_cons (pv 3) pa_nil)) pa_nil))) set_list))) pss_nil)
        (Evl.pss_cut (ps_if (pt_cmpR op_eq (pe_fd F_law_draw (hr.mono (by decide)) (by rfl) (pa_cons (pv 0) (pa_cons pe_int pa_nil))) pe_int (nomark _)) (pss_one (ps_asg (pe_tup (pa_cons (pe_fd F_law_pick (hr.mono (by decide)) (by rfl) (pa_cons (pv 0) (pa_cons (pe_lst (pa_cons (pv 4) (pa_cons (pe_fd F_law_draw (hr.mono (by decide)) (by rfl) (pa_cons (pv 0) (pa_cons (pv 4) pa_nil))) (pa_cons (pe_ix ix_tup (pe_ix ix_list (pv 3) pe_int (fun _ _ => rfl)) pe_int (fun _ _ => rfl)) pa_nil)))) pa_nil))) (pa_cons pe_int pa_nil))) (pg_sub (pv 3) (pe_fd F_law_draw (hr.mono (by decide)) (by rfl) (pa_cons (pv 0) (pa_cons (pe_callB call_len_seq (by rfl) (nb "len" rfl) PySem.boot_len (pa_cons (pv 3) pa_nil)) pa_nil))) set_list))) pss_nil)
        (pss_one (ps_ret (pe_callTy call_tuple_of (by rfl) (nb "tuple" rfl) (by decide +kernel) (pa_cons (pe_fd F_law_mixed (hr.mono (by decide)) (by rfl) (pa_cons (pv 0) (pa_cons (pv 3) pa_nil))) pa_nil))))))))), ?_⟩
    have e60 : (10 : Int) ^ (60 : Int).toNat = 10 ^ 60 := rfl
    have c60 : CPowW 10 60 := ⟨by decide, by decide⟩
    -- kinds, found, top
    refine ⟨_, rfl, d, l, Γ, Δ, rfl, hS, fun H1 vk ks hks hS1 => ⟨Nat.zero_le _, fun f hf => ?_⟩⟩
    obtain ⟨ak, rfl⟩ := hS1.lref_of (List.mem_cons_self ..)
    have hS2 := hS1.make (ds := []) hf .nil
    refine go_pick (B := []) (ds := [.int (10 ^ (6 : Int).toNat), .int (10 ^ (18 : Int).toNat), .int (10 ^ (60 : Int).toNat), .int (10 ^ (60 : Int).toNat)]) rfl ?_ sub_nil hS2 (by simp) (by show 4 ≤ 10000; decide) (fun H2 v x hx hS3 => ?_)
    · exact ed_lst (eds_cons (ed_I ed_int ed_int ⟨by decide, by decide⟩) (eds_cons (ed_I ed_int ed_int ⟨by decide, by decide⟩) (eds_cons (ed_I ed_int ed_int c60) (eds_cons (ed_I ed_int ed_int c60) eds_nil)))) (by show 4 ≤ 10000; decide)
    obtain ⟨top, rfl, t1, t2⟩ : ∃ c : Int, x = .int c ∧ 10 ^ 6 ≤ c ∧ c ≤ 10 ^ 60 := by
      simp only [List.mem_cons, List.not_mem_nil, or_false] at hx
      rcases hx with rfl | rfl | rfl | rfl
      · exact ⟨_, rfl, by decide, by decide⟩
      · exact ⟨_, rfl, by decide, by decide⟩
      · exact ⟨_, rfl, by decide, by decide⟩
      · exact ⟨_, rfl, by decide, by decide⟩
    obtain rfl := hS3.int_of (List.mem_cons_self ..)
    replace hS3 := hS3.weaken (Δ' := (.ref ak, kindsD ks) :: Δ) fun _ => List.mem_cons_of_mem _
    refine ⟨_, _, _, rfl, ?_⟩
    -- many
    dsimp only
    refine go_set (go_cb (go_cons (go_c (go_cons ?_))))
    refine go_pick (B := []) (ds := [.int most, .int most, .int (most / 2), .int (if most < 3 then most else 3), .int 1]) rfl ?_ sub_nil hS3 (by simp) (by show 5 ≤ 10000; decide) (fun H3 v x hx hS4 => ?_)
    · exact ed_lst (eds_cons (ed_varI rfl) (eds_cons (ed_varI rfl) (eds_cons (ed_I (ed_varI rfl) ed_int ⟨by decide, by decide⟩) (eds_cons (ed_min2 ed_int (ed_varI rfl)) (eds_cons ed_int eds_nil))))) (by show 5 ≤ 10000; decide)
    obtain ⟨c, rfl, c2⟩ : ∃ c : Int, x = .int c ∧ c ≤ 40 := by
      simp only [List.mem_cons, List.not_mem_nil, or_false] at hx
      rcases hx with rfl | rfl | rfl | rfl | rfl
      · exact ⟨_, rfl, hm2⟩
      · exact ⟨_, rfl, hm2⟩
      · exact ⟨_, rfl, by omega⟩
      · exact ⟨_, rfl, by split <;> omega⟩
      · exact ⟨_, rfl, by decide⟩
    obtain rfl := hS4.int_of (List.mem_cons_self ..)
    replace hS4 := hS4.weaken (Δ' := (.ref ak, kindsD ks) :: Δ) fun _ => List.mem_cons_of_mem _
    refine ⟨_, _, rfl, ?_⟩
    obtain ⟨many, hmany, y1, y2⟩ : ∃ many : Int, (if c > 1 then c else 1) = many ∧ 1 ≤ many ∧ many ≤ 40 := ⟨_, rfl, by split <;> omega, by split <;> omega⟩
    rw [hmany]
    have top0 : 0 < top := by omega
    -- the loop
    refine ⟨_, rfl, many, rfl, by omega, by omega, for_range (lo := 0) (n := many.toNat) (fun i σ H => ∃ (rs : List Rule) (y6 y7 y8 y9 : Option V), σ = [some (.ref d), some (.int most), some (.ref ak), some (.ref f), some (.int top), some (.int many), y6, y7, y8, y9] ∧
        St K H (some (d, l)) ((f, rs.map ruleD) :: Γ) ((.ref ak, kindsD ks) :: Δ) ∧ rs.length = i ∧ ∀ r ∈ rs, (RuleG r ∧ (r.2 = 0 ∨ r.2 ∣ prodK ks)))
      ⟨[], _, _, _, _, rfl, hS4, rfl, fun r hr => (nomatch hr)⟩ (fun i σ H hi hP => ?_) (fun σ H hP => ?_)⟩
    · obtain ⟨rs, y6, y7, y8, y9, rfl, hS, hlen, hok⟩ := hP
      -- step
      refine go_set ⟨_, rfl, _, rfl, d, l, ak, ks, _, _, rfl, hS, List.mem_cons_self .., hks, fun H1 step hS1 s1 s2 s4 => ?_⟩
      have s3 : step.natAbs < 2 ^ 1400 := Nat.lt_of_le_of_lt (show step.natAbs ≤ 10 ^ 60 by omega) (by decide +kernel)
      -- times
      refine go_set (cps (fun v H' => ∃ t : Int, v = .int t ∧ St K H' (some (d, l)) ((f, rs.map ruleD) :: Γ) ((.ref ak, kindsD ks) :: Δ) ∧ 0 ≤ t ∧ t ≤ 10 ^ 60) (fun Q' q' => ?_) (fun v H2 hv => ?_))
      · refine go_ite (go_test (go_op (go_draw (B := []) rfl ed_int sub_nil hS1 (by decide +kernel) (fun H2 r hS2 r0 r1 => ⟨rfl, _, rfl, ite2 (fun e => ?_) (fun e => ?_)⟩))))
        · have hdv : CDivW top step := wide_div (by omega) s3 (by decide) (by decide)
          have hle : (if top / step > 1 then top / step else 1) ≤ 10 ^ 60 := by
            have : top / step ≤ top := Int.ediv_le_self _ (by omega)
            split <;> omega
          have hge : 1 ≤ (if top / step > 1 then top / step else 1) := by split <;> omega
          refine go_draw (B := []) rfl (ed_max2 ed_int (ed_I (ed_varI rfl) (ed_varI rfl) hdv)) sub_nil hS2 (small8000 (by omega) (Int.le_trans hle (by decide))) (fun H3 r hS3 r0 r1 => q' _ _ ⟨r, rfl, hS3, r0, by omega⟩)
        · exact go_draw (B := []) rfl ed_int sub_nil hS2 (by decide +kernel) (fun H3 r hS3 r0 r1 => q' _ _ ⟨r, rfl, hS3, r0, by omega⟩)
      obtain ⟨t, rfl, hS2, u1, u2⟩ := hv
      have u3 : t.natAbs < 2 ^ 200 := by
        have e : (10 : Int) ^ 60 < 2 ^ 200 := by decide +kernel
        omega
      -- bound
      refine go_set ⟨_, rfl, _, rfl, _, _, rfl, rfl, mulx_ok s3 u3 (by decide), _, rfl, _, rfl, ?_⟩
      refine go_cons (go_draw (B := []) rfl (ed_varI rfl) sub_nil hS2 (Nat.lt_trans s3 (by decide +kernel)) (fun H3 r hS3 r0 r1 => ⟨(by show 5 ≤ sizeLine; decide), fun p hp => ?_⟩))
      have hS4 := hS3.lst (vs := [.int 0, .int 0, .int (-1), .int 1, .int r]) (ds := [.int 0, .int 0, .int (-1), .int 1, .int r]) hp (.cons (.int _) (.cons (.int _) (.cons (.int _) (.cons (.int _) (.cons (.int _) .nil)))))
      refine ⟨d, l, p, _, _, _, rfl, hS4, List.mem_cons_self .., by simp, by show 5 ≤ 10000; decide, fun H4 v x hx hS5 => ?_⟩
      obtain ⟨c, rfl⟩ : ∃ c : Int, x = .int c := by
        simp only [List.mem_cons, List.not_mem_nil, or_false] at hx
        rcases hx with rfl | rfl | rfl | rfl | rfl
        · exact ⟨_, rfl⟩
        · exact ⟨_, rfl⟩
        · exact ⟨_, rfl⟩
        · exact ⟨_, rfl⟩
        · exact ⟨_, rfl⟩
      obtain rfl := hS5.int_of (List.mem_cons_self ..)
      replace hS5 := hS5.weaken (Δ' := (.ref ak, kindsD ks) :: Δ) fun _ h => List.mem_cons_of_mem _ (List.mem_cons_of_mem _ h)
      refine ⟨_, _, rfl, rfl, ?_⟩
      -- if found != [] and ..
      refine go_cut (fun σ H' => ∃ b : Int, σ = [some (.ref d), some (.int most), some (.ref ak), some (.ref f), some (.int top), some (.int many), some (.int (0 + (i : Int))), some (.int step), some (.int t), some (.int b)] ∧
        St K H' (some (d, l)) ((f, rs.map ruleD) :: Γ) ((.ref ak, kindsD ks) :: Δ)) ?_ (fun σ H5 hM => ?_)
      · refine ⟨_, rfl, Nat.zero_le _, fun u hu => ?_⟩
        have hS6 := hS5.lst (ds := []) hu .nil
        have hlay : Lay 60 (rs.map ruleD) := lay_rules rs
        refine ne_nil_list (ds := rs.map ruleD) ((hS6.weaken (Δ' := []) fun _ h => nomatch h).freeze.dp (.of (List.mem_cons_self ..))) (.lst (SqL.of upd_same) .nil) hlay ⟨_, rfl, ?_⟩
        replace hS6 := hS6.weaken (Δ' := (.ref ak, kindsD ks) :: Δ) fun _ => List.mem_cons_of_mem _
        revert hS6
        generalize upd H4 u (.lst []) = H6
        intro hS6
        by_cases hrs : rs = []
        · subst hrs
          refine iteF (iteF ⟨_, rfl, hS6⟩)
        · have e0 : (!(rs.map ruleD).isEmpty) = true := by
            cases rs with
            | nil => exact absurd rfl hrs
            | cons r rs => rfl
          rw [e0]
          refine iteT (go_test (go_op (go_draw (B := []) rfl ed_int sub_nil hS6 (by decide +kernel) (fun H7 r hS7 r0 r1 => ⟨rfl, _, rfl, ite2 (fun e => ?_) (fun e => ?_)⟩))))
          · obtain ⟨rl, hrl⟩ : ∃ rl, rs[rs.length - 1]? = some rl := ⟨_, List.getElem?_eq_getElem (by have := List.length_pos_iff.mpr hrs; omega)⟩
            have hrl2 : (rs.map ruleD)[(rs.map ruleD).length - 1]? = some (ruleD rl) := by
              rw [List.length_map, List.getElem?_map, hrl]
              rfl
            obtain ⟨vs, v, k1, k2, k3⟩ := hS7.last hrl2
            obtain ⟨av, rfl⟩ := k3.ref_of (List.mem_cons_self ..)
            have hT := k3.pair (List.mem_cons_self ..)
            exact ⟨_, rfl, _, rfl, f, vs, -1, _, rfl, rfl, SqL.of k1, k2, av, _, 0, _, rfl, rfl, hT, atI_nat (j := 0) rfl, _, rfl, hS7⟩
          · exact ⟨_, rfl, hS7⟩
      · obtain ⟨b, rfl, hS6⟩ := hM
        obtain ⟨vf, hf1, hf2, _, _⟩ := hS6.look
        refine ⟨_, rfl, .inl ⟨rfl, _, SqL.of hf1⟩, _, _, rfl, rfl, c60, _, rfl, _, _, rfl, _, _, rfl, _, rfl, (by show 2 ≤ sizeLine; decide), fun p hp => ?_⟩
        rw [e60]
        obtain ⟨b', hb', w1, w2⟩ : ∃ b' : Int, (if (if b > 0 then b else 0) < 10 ^ 60 then (if b > 0 then b else 0) else 10 ^ 60) = b' ∧ 0 ≤ b' ∧ b' ≤ 10 ^ 60 := by
          have hb0 : 0 ≤ (if b > 0 then b else 0) := by split <;> omega
          generalize (if b > 0 then b else 0) = bb at hb0
          refine ⟨_, rfl, ?_, ?_⟩
          · split
            · exact hb0
            · decide
          · split
            · omega
            · exact Int.le_refl _
        rw [hb']
        have hS7 := hS6.tup (vs := [.int b', .int step]) (ds := [.int b', .int step]) hp (.cons (.int _) (.cons (.int _) .nil))
        obtain ⟨vf2, g1, g2, g3⟩ := hS7.push (.of (List.mem_cons_self ..))
        refine ⟨f, vf2, _, rfl, rfl, g1, small1000 (by rw [g2, List.length_map]; omega), ?_⟩
        refine ⟨rs ++ [(b', step)], _, _, _, _, rfl, ?_, ?_, ?_⟩
        · rw [List.map_append]
          exact g3.weaken fun _ h => List.mem_cons_of_mem _ h
        · rw [List.length_append, List.length_singleton, hlen]
        · intro r hr
          rcases List.mem_append.mp hr with hr | hr
          · exact hok r hr
          · rw [List.mem_singleton.mp hr]
            exact ⟨⟨w1, w2, Or.inr ⟨s1, s2⟩⟩, Or.inr s4⟩
    · obtain ⟨rs, y6, y7, y8, y9, rfl, hS, hlen, hok⟩ := hP
      have hl1 : 1 ≤ rs.length := by omega
      have hl2 : rs.length ≤ 40 := by omega
      -- if _law_draw(deck, 2) == 0
      refine go_cut (fun σ H' => ∃ rs : List Rule, σ = [some (.ref d), some (.int most), some (.ref ak), some (.ref f), some (.int top), some (.int many), y6, y7, y8, y9] ∧
        St K H' (some (d, l)) ((f, rs.map ruleD) :: Γ) ((.ref ak, kindsD ks) :: Δ) ∧ 1 ≤ rs.length ∧ rs.length ≤ 40 ∧ ∀ r ∈ rs, (RuleG r ∧ (r.2 = 0 ∨ r.2 ∣ prodK ks))) ?_ (fun σ H5 hM => ?_)
      · refine go_if (go_test (go_op (go_draw (B := []) rfl ed_int sub_nil hS (by decide +kernel) (fun H2 r hS2 r0 r1 => ⟨rfl, _, rfl, ite2 (fun e => ?_) (fun e => ?_)⟩))))
        · -- found[..] = (.., 0)
          refine go_asgL (go_tup (go_cons ⟨_, rfl, ?_⟩))
          refine go_lst ⟨_, rfl, _, rfl, _, _, rfl, rfl, ?_⟩
          refine go_draw (B := []) rfl (ed_varI rfl) sub_nil hS2 (small8000 (by omega) (Int.le_trans t2 (by decide))) (fun H3 r hS3 r0 r1 => ⟨_, _, rfl, rfl, c60, (by show 5 ≤ sizeLine; decide), fun p hp => ?_⟩)
          have hS4 := hS3.lst (vs := [.int top, .int (top - 1), .int r, .int 0, .int (10 ^ (60 : Int).toNat)]) (ds := [.int top, .int (top - 1), .int r, .int 0, .int (10 ^ (60 : Int).toNat)]) hp (.cons (.int _) (.cons (.int _) (.cons (.int _) (.cons (.int _) (.cons (.int _) .nil)))))
          refine ⟨d, l, p, _, _, _, rfl, hS4, List.mem_cons_self .., by simp, by show 5 ≤ 10000; decide, fun H4 v x hx hS5 => ?_⟩
          obtain ⟨c, rfl, c1, c2⟩ : ∃ c : Int, x = .int c ∧ 0 ≤ c ∧ c ≤ 10 ^ 60 := by
            simp only [List.mem_cons, List.not_mem_nil, or_false] at hx
            rcases hx with rfl | rfl | rfl | rfl | rfl
            · exact ⟨_, rfl, by omega, by omega⟩
            · exact ⟨_, rfl, by omega, by omega⟩
            · exact ⟨_, rfl, by omega, by omega⟩
            · exact ⟨_, rfl, by decide, by decide⟩
            · exact ⟨_, rfl, by decide, by decide⟩
          obtain rfl := hS5.int_of (List.mem_cons_self ..)
          replace hS5 := hS5.weaken (Δ' := (.ref ak, kindsD ks) :: Δ) fun _ h => List.mem_cons_of_mem _ (List.mem_cons_of_mem _ h)
          refine ⟨(by show 2 ≤ sizeLine; decide), fun u hu => ⟨_, rfl, ?_⟩⟩
          have hS6 := hS5.tup (vs := [.int c, .int 0]) (ds := [.int c, .int 0]) hu (.cons (.int _) (.cons (.int _) .nil))
          obtain ⟨vf, f1, f2, _, _⟩ := hS6.look
          refine ⟨_, rfl, _, rfl, f, vf, rfl, .inl (SqL.of f1), d, l, _, _, _, rfl, hS6, ?_, fun H7 r hS7 r0 r1 => ?_⟩
          · rw [f2, List.length_map]
            exact small8000 (by omega) (by omega)
          rw [f2, List.length_map] at r1
          obtain ⟨vf2, g1, g2, g3⟩ := hS7.setAt (.of (List.mem_cons_self ..)) r.toNat
          refine ⟨f, vf2, r, r.toNat, rfl, rfl, g1, ixN_of r0 (by rw [g2, List.length_map]; omega), rs.set r.toNat (c, 0), rfl, ?_, ?_, ?_, ?_⟩
          · rw [List.map_set]
            exact g3.weaken fun _ h => List.mem_cons_of_mem _ h
          · rw [List.length_set]
            exact hl1
          · rw [List.length_set]
            exact hl2
          · intro r' hr'
            rcases List.mem_or_eq_of_mem_set hr' with h | h
            · exact hok _ h
            · rw [h]
              exact ⟨⟨c1, c2, Or.inl rfl⟩, Or.inl rfl⟩
        · exact ⟨rs, rfl, hS2, hl1, hl2, hok⟩
      · obtain ⟨rs, rfl, hS, hl1, hl2, hok⟩ := hM
        -- if _law_draw(deck, 4) == 0
        refine go_cut (fun σ H' => ∃ rs : List Rule, σ = [some (.ref d), some (.int most), some (.ref ak), some (.ref f), some (.int top), some (.int many), y6, y7, y8, y9] ∧
          St K H' (some (d, l)) ((f, rs.map ruleD) :: Γ) ((.ref ak, kindsD ks) :: Δ) ∧ 1 ≤ rs.length ∧ rs.length ≤ 40 ∧ ∀ r ∈ rs, (RuleG r ∧ (r.2 = 0 ∨ r.2 ∣ prodK ks))) ?_ (fun σ H5 hM => ?_)
        · refine go_if (go_test (go_op (go_draw (B := []) rfl ed_int sub_nil hS (by decide +kernel) (fun H2 r hS2 r0 r1 => ⟨rfl, _, rfl, ite2 (fun e => ?_) (fun e => ?_)⟩))))
          · -- found[..] = (.., 0)
            refine go_asgL (go_tup (go_cons ⟨_, rfl, ?_⟩))
            refine go_lst ⟨_, rfl, ?_⟩
            refine go_draw (B := []) rfl (ed_varI rfl) sub_nil hS2 (small8000 (by omega) (Int.le_trans t2 (by decide))) (fun H3 r hS3 r0 r1 => ?_)
            obtain ⟨k0, hk0⟩ : ∃ k0, rs[0]? = some k0 := ⟨_, List.getElem?_eq_getElem (by omega)⟩
            obtain ⟨⟨kb1, kb2, _⟩, _⟩ := hok k0 (List.mem_of_getElem? hk0)
            obtain ⟨ws, w1, w2, w3, _⟩ := hS3.look
            obtain ⟨v0, v1, v2⟩ := w3 0 (ruleD k0) (by rw [List.getElem?_map, hk0]; rfl)
            obtain ⟨a0, rfl⟩ := v2.ref_of (List.mem_cons_self ..)
            have hT0 := v2.pair (List.mem_cons_self ..)
            refine ⟨_, rfl, f, ws, 0, _, rfl, rfl, SqL.of w1, atI_nat (j := 0) v1, a0, _, 0, _, rfl, rfl, hT0, atI_nat (j := 0) rfl, (by show 3 ≤ sizeLine; decide), fun p hp => ?_⟩
            have hS4 := hS3.lst (vs := [.int top, .int r, .int k0.1]) (ds := [.int top, .int r, .int k0.1]) hp (.cons (.int _) (.cons (.int _) (.cons (.int _) .nil)))
            refine ⟨d, l, p, _, _, _, rfl, hS4, List.mem_cons_self .., by simp, by show 3 ≤ 10000; decide, fun H4 v x hx hS5 => ?_⟩
            obtain ⟨c, rfl, c1, c2⟩ : ∃ c : Int, x = .int c ∧ 0 ≤ c ∧ c ≤ 10 ^ 60 := by
              simp only [List.mem_cons, List.not_mem_nil, or_false] at hx
              rcases hx with rfl | rfl | rfl
              · exact ⟨_, rfl, by omega, by omega⟩
              · exact ⟨_, rfl, by omega, by omega⟩
              · exact ⟨_, rfl, kb1, kb2⟩
            obtain rfl := hS5.int_of (List.mem_cons_self ..)
            replace hS5 := hS5.weaken (Δ' := (.ref ak, kindsD ks) :: Δ) fun _ h => List.mem_cons_of_mem _ (List.mem_cons_of_mem _ h)
            refine ⟨(by show 2 ≤ sizeLine; decide), fun u hu => ⟨_, rfl, ?_⟩⟩
            have hS6 := hS5.tup (vs := [.int c, .int 0]) (ds := [.int c, .int 0]) hu (.cons (.int _) (.cons (.int _) .nil))
            obtain ⟨vf, f1, f2, _, _⟩ := hS6.look
            refine ⟨_, rfl, _, rfl, f, vf, rfl, .inl (SqL.of f1), d, l, _, _, _, rfl, hS6, ?_, fun H7 r hS7 r0 r1 => ?_⟩
            · rw [f2, List.length_map]
              exact small8000 (by omega) (by omega)
            rw [f2, List.length_map] at r1
            obtain ⟨vf2, g1, g2, g3⟩ := hS7.setAt (.of (List.mem_cons_self ..)) r.toNat
            refine ⟨f, vf2, r, r.toNat, rfl, rfl, g1, ixN_of r0 (by rw [g2, List.length_map]; omega), rs.set r.toNat (c, 0), rfl, ?_, ?_, ?_, ?_⟩
            · rw [List.map_set]
              exact g3.weaken fun _ h => List.mem_cons_of_mem _ h
            · rw [List.length_set]
              exact hl1
            · rw [List.length_set]
              exact hl2
            · intro r' hr'
              rcases List.mem_or_eq_of_mem_set hr' with h | h
              · exact hok _ h
              · rw [h]
                exact ⟨⟨c1, c2, Or.inl rfl⟩, Or.inl rfl⟩
          · exact ⟨rs, rfl, hS2, hl1, hl2, hok⟩
        · obtain ⟨rs, rfl, hS6, hl1, hl2, hok⟩ := hM
          have hS7 := hS6.freeze
          refine go_ret (go_cb (go_cons ⟨_, rfl, _, rfl, d, l, f, rs.map ruleD, _, _, rfl, hS7, List.mem_cons_self .., lay_rules rs, by rw [List.length_map]; omega, fun H7 p es hperm hS8 => ?_⟩))
          obtain ⟨rs', rfl, hp2⟩ := perm_rules hperm
          have hS9 := hS8.freeze
          obtain ⟨vs, hL, hlen2, Δ2, rfl, hS10, hv2⟩ := hS9.lstAt (List.mem_cons_self ..)
          refine ⟨p, vs, rfl, .inl ⟨hL, fun u hu => ?_⟩⟩
          have hS11 := hS10.tup hu hv2
          refine q _ (.ref u) rs' ⟨?_, fun r hr => (hok r (hp2.subset hr)).1⟩ ⟨prodK ks, prodK_pos hks.2.1, hks.2.2.2, fun r hr => (hok r (hp2.subset hr)).2⟩ ?_ (hS11.weaken fun y hy => ?_)
          · rw [hp2.length_eq]
            exact hl2
          · intro z
            subst z
            have := hp2.length_eq
            simp at this
            omega
          · rcases List.mem_cons.mp hy with rfl | hy
            · exact List.mem_cons_self ..
            · exact List.mem_cons_of_mem _ (List.mem_append_right _ (List.mem_cons_of_mem _ (List.mem_cons_of_mem _ (List.mem_cons_of_mem _ hy))))

theorem ok_law_parts {f : Addr} {fd : FuncData} (F : Fun K "_law_parts" "_law_parts" s_law_parts f fd) (nb : NB mg bnames) (F_law_multiple : Fd P w K mg base "_law_multiple" 2 ["steps"] (sp_law_multiple K))    : FnOk P w K mg base CX0 3 f fd ["scale"] (sp_law_parts K) := by
  refine F.ok sc_law_parts (fun vs H Q E h => ?_) (fun cdv A outer s H vs Q E hr h => ?_)
  · obtain ⟨dk, Γ, Δ, a, rs, rfl, _⟩ := h
    rfl
  · obtain ⟨dk, Γ, Δ, a, rs, rfl, hS, hm, hG, q⟩ := h
    refine ⟨_, (pss_cons (ps_par (by rfl) (i := 1) (j := 2) sc_law_parts.nd rfl rfl (by decide) rfl rfl (pa_cons (pe_callB (cr_sortedSet rfl) (by rfl) (nb "sorted" rfl) (by decide +kernel) (pa_cons (pe_callTy (cr_setL1 rfl) (by rfl) (nb "set" rfl) (by decide +kernel) (pa_cons (pe_lc (own := [("bound", 3), ("step", 4)]) (by rfl) sc_law_parts.nd (g := gTup K 2 (gCons (gName 3) (gCons (gName 4) gNil))) (pi_tup (pv 0)) (blkOk_by (own := [("bound", 3), ("step", 4)]) (N := ["scale", "bounds", "found", "bound", "step", "low", "own"]) (sc := defScope s_law_parts) (by decide +kernel)) (fun _ _ _ _ _ => by exact (pg_tup (by rfl) (pgs_cons (pg_name (i := 3) sc_law_parts.nd rfl (.inl rfl)) (pgs_cons (pg_name (i := 4) sc_law_parts.nd rfl (.inl rfl)) pgs_nil)))) (fun _ _ _ _ _ => by exact pts_nil) (fun _ _ _ _ _ => by exact (pv 3))) pa_nil)) pa_nil)) (pa_cons (pe_lst pa_nil) pa_nil)) (by rfl))
        (pss_cons (ps_set (i := 5) sc_law_parts.nd rfl (.inr rfl) pe_int)
        (pss_cons (ps_for PassesOwn.never rfl (pi_list (pv 1)) (pg_name (i := 3) sc_law_parts.nd rfl (.inl rfl))
        (pss_cons (ps_expr (pe_bm PySem.F.plainAttrs_list PySem.F.slot_list_append PySem.F.type_list_append mt_append (pv 2) (pa_cons (pe_tup (pa_cons (pv 5) (pa_cons (pv 3) (pa_cons (pe_fd F_law_multiple (hr.mono (by decide)) (by rfl) (pa_cons (pe_lc (own := [("own", 6), ("step", 4)]) (by rfl) sc_law_parts.nd (g := gTup K 2 (gCons (gName 6) (gCons (gName 4) gNil))) (pi_tup (pv 0)) (blkOk_by (own := [("own", 6), ("step", 4)]) (N := ["scale", "bounds", "found", "bound", "step", "low", "own"]) (sc := defScope s_law_parts) (by decide +kernel)) (fun _ _ _ _ _ => by exact (pg_tup (by rfl) (pgs_cons (pg_name (i := 6) sc_law_parts.nd rfl (.inl rfl)) (pgs_cons (pg_name (i := 4) sc_law_parts.nd rfl (.inl rfl)) pgs_nil)))) (fun _ _ _ _ _ => by exact (pts_one (pt_cmpR op_lt (pv 6) (pv 5) (nomark _)))) (fun _ _ _ _ _ => by exact (pv 4))) pa_nil)) pa_nil)))) pa_nil)))
        (pss_one (ps_set (i := 5) sc_law_parts.nd rfl (.inr rfl) (pe_op op_add (pv 3) pe_int)))))
        (pss_cons (ps_expr (pe_bm PySem.F.plainAttrs_list PySem.F.slot_list_append PySem.F.type_list_append mt_append (pv 2) (pa_cons (pe_tup (pa_cons (pv 5) (pa_cons (pe_un un_neg pe_int) (pa_cons (pe_fd F_law_multiple (hr.mono (by decide)) (by rfl) (pa_cons (pe_lc (own := [("own", 6), ("step", 4)]) (by rfl) sc_law_parts.nd (g := gTup K 2 (gCons (gName 6) (gCons (gName 4) gNil))) (pi_tup (pv 0)) (blkOk_by (own := [("own", 6), ("step", 4)]) (N := ["scale", "bounds", "found", "bound", "step", "low", "own"]) (sc := defScope s_law_parts) (by decide +kernel)) (fun _ _ _ _ _ => by exact (pg_tup (by rfl) (pgs_cons (pg_name (i := 6) sc_law_parts.nd rfl (.inl rfl)) (pgs_cons (pg_name (i := 4) sc_law_parts.nd rfl (.inl rfl)) pgs_nil)))) (fun _ _ _ _ _ => by exact (pts_one (pt_cmpR op_lt (pv 6) (pv 5) (nomark _)))) (fun _ _ _ _ _ => by exact (pv 4))) pa_nil)) pa_nil)))) pa_nil)))
        (pss_one (ps_ret (pe_lc (own := [("own", 6)]) (by rfl) sc_law_parts.nd (pi_list (pv 2)) (blkOk_by (own := [("own", 6)]) (N := ["scale", "bounds", "found", "bound", "step", "low", "own"]) (sc := defScope s_law_parts) (by decide +kernel)) (fun _ _ _ _ _ => by exact (pg_name (i := 6) sc_law_parts.nd rfl (.inl rfl))) (fun _ _ _ _ _ => by exact (pts_one (PW.pt (pw_or (pt_cmpR op_eq (pe_ix (show IxR _ (rIxT K) from ix_tup) (pv 6) pe_int (fun _ _ => rfl)) (pe_un un_neg pe_int) (nomark _)) (pw_or1 (pt_cmpR op_le (pe_ix (show IxR _ (rIxT K) from ix_tup) (pv 6) pe_int (fun _ _ => rfl)) (pe_ix (show IxR _ (rIxT K) from ix_tup) (pv 6) pe_int (fun _ _ => rfl)) (nomark _))))))) (fun _ _ _ _ _ => by exact (pv 6))))))))), ?_⟩
    have hOk := hG.ok
    have hl : rs.length ≤ 40 := hOk.1
    -- bounds, found
    refine go_seq (go_cons (go_cb (go_cons (go_cb (go_cons (lc_col hS hm hl 3 Prod.fst (Or.inl ⟨rfl, rfl⟩) fun D H1 hS1 => ?_))))))
    have hS2 := hS1.freeze
    obtain ⟨vs, hL, hlen, Δ2, rfl, hS3, hv⟩ := hS2.lstAt (List.mem_cons_self ..)
    obtain rfl := hS3.ints_of hv
    replace hS2 := hS2.weaken (Δ' := Δ) fun _ h => List.mem_cons_of_mem _ h
    refine ⟨D, _, rfl, hL, by rw [List.length_map]; omega, fun p c hp hc => ?_⟩
    rw [List.length_map] at hc
    refine ⟨p, _, c, rfl, upd_same, by omega, fun bs p2 hb1 hb2 hb3 hp2 => ?_⟩
    have hS4 := (hS2.junk hp).lst (vs := bs.map V.int) (ds := bs.map PyData.int) hp2 (dv_ints bs)
    refine ⟨Nat.zero_le _, fun p3 hp3 => ⟨_, _, rfl, ?_⟩⟩
    have hS5 := hS4.make (ds := []) hp3 .nil
    have hbr : ∀ b, b ∈ bs ↔ ∃ r ∈ rs, r.1 = b := fun b => by
      rw [hb2 b, decide_eq_true_eq, List.mem_map]
    have hbs : ∀ b ∈ bs, 0 ≤ b ∧ b ≤ 10 ^ 60 := fun b hb => by
      obtain ⟨r, hr, rfl⟩ := (hbr b).mp hb
      obtain ⟨x1, x2, _⟩ := hOk.2 r hr
      exact ⟨x1, x2⟩
    have hbl : bs.length ≤ 40 := by omega
    clear hS hS1 hS2 hS3 hS4 hL hv hlen
    dsimp only [L2.start, gName, List.set_cons_succ, List.set_cons_zero]
    -- low = 1; for bound in bounds
    obtain ⟨zs, hL, hzl⟩ := hS5.lenL (List.mem_cons_self ..)
    refine ⟨_, rfl, p2, rfl, ⟨zs, hL⟩, for_it (n := bs.length) walkL (fun i σ H => ∃ (F : List Part) (low : Int) (y3 y4 y6 : Option V), σ = [some (.ref a), some (.ref p2), some (.ref p3), y3, y4, some (.int low), y6] ∧
        St K H dk ((p3, F.map partD) :: Γ) ((.ref p2, .list (bs.map PyData.int)) :: Δ) ∧ F.length = i ∧ 1 ≤ low ∧ low ≤ 10 ^ 60 + 1 ∧ (∀ b ∈ bs.take i, b < low) ∧ (∀ b ∈ bs.drop i, low ≤ b + 1) ∧ (∀ ps, PartsFrom rs low ps → PartsFrom rs 1 (F.filter keepP ++ ps)))
      ⟨[], 1, none, none, none, rfl, hS5, rfl, by decide, by decide, fun b hb => (by rw [List.take_zero] at hb; exact nomatch hb), fun b hb => (by have := (hbs b (List.mem_of_mem_drop hb)).1; omega), fun ps h => h⟩ (fun i σ H _ hP => ?_) (fun i x σ H H' hi hP hy => ?_) (fun σ H hP => ?_)⟩
    · obtain ⟨_, _, _, _, _, _, hS, _⟩ := hP
      obtain ⟨xs, h1, h3⟩ := hS.lenL (List.mem_cons_self ..)
      exact ⟨xs, h1, by rw [h3, List.length_map]⟩
    · obtain ⟨F, low, y3, y4, y6, rfl, hS, hF, hl1, hl2, hlt, hge, hrel⟩ := hP
      obtain ⟨rfl, f⟩ := hy
      obtain ⟨d, e4, hS5⟩ := hS.turnL (List.mem_cons_self ..) f
      rw [List.getElem?_map, List.getElem?_eq_getElem hi] at e4
      cases Option.some.inj e4
      obtain rfl := hS5.int_of (List.mem_cons_self ..)
      obtain ⟨b1, b2⟩ := hbs _ (List.getElem_mem hi)
      have hdrop := List.drop_eq_getElem_cons hi
      have hbge : low ≤ bs[i] + 1 := hge _ (by rw [hdrop]; exact List.mem_cons_self ..)
      have hnext : ∀ b ∈ bs.drop (i + 1), bs[i] < b := fun b hb => by
        have hpw : (bs.drop i).Pairwise (· < ·) := hb1.sublist (List.drop_sublist _ _)
        rw [hdrop] at hpw
        exact (List.pairwise_cons.mp hpw).1 b hb
      have htake : ∀ b ∈ bs.take (i + 1), b < bs[i] + 1 := fun b hb => by
        rw [List.take_add_one, List.getElem?_eq_getElem hi] at hb
        rcases List.mem_append.mp hb with hb | hb
        · have := hlt b hb
          omega
        · rw [List.mem_singleton.mp hb]
          omega
      have hsplit : ∀ r ∈ rs, r.1 < low ∨ bs[i] ≤ r.1 := fun r hr => by
        have hb := (hbr r.1).mpr ⟨r, hr, rfl⟩
        rw [← List.take_append_drop i bs] at hb
        rcases List.mem_append.mp hb with hb | hb
        · exact Or.inl (hlt _ hb)
        · rw [hdrop] at hb
          rcases List.mem_cons.mp hb with hb | hb
          · exact Or.inr (by omega)
          · have := hnext _ hb
            exact Or.inr (by omega)
      generalize bs[i] = b at b1 b2 hbge hnext htake hsplit
      obtain ⟨ms1, ms2⟩ := m_small hOk low
      have hS0 := hS5.weaken (Δ' := (.ref p2, .list (bs.map PyData.int)) :: Δ) fun _ h => List.mem_cons_of_mem _ h
      obtain ⟨vf, hf1, hf2, _, _⟩ := hS0.look
      dsimp only [gName, List.set_cons_succ, List.set_cons_zero]
      refine go_seq ⟨_, rfl, .inl ⟨rfl, _, SqL.of hf1⟩, _, rfl, _, rfl, ?_⟩
      show tCons _ _ _ _ _
      refine go_cons ?_
      show tCons _ _ _ _ _
      refine go_cons (lc_steps hS0 (List.mem_cons_of_mem _ hm) hl rfl fun D2 H6 hS6 => ?_)
      have hS7 := hS6.freeze
      refine ⟨_, _, _, D2, _, rfl, hS7, List.mem_cons_self .., ms2, Nat.le_trans (stepsB_len rs low) hl, fun H7 hS8 => ⟨by show 3 ≤ sizeLine; decide, fun t ht => ?_⟩⟩
      have hS9 := (hS8.tup (vs := [.int low, .int b, .int (lcmI 1 (stepsB rs low) : Nat)]) (ds := [.int low, .int b, .int (lcmI 1 (stepsB rs low) : Nat)]) ht (.cons (.int _) (.cons (.int _) (.cons (.int _) .nil))))
      obtain ⟨vf2, k1, k2, k3⟩ := hS9.push (.of (List.mem_cons_self ..))
      refine ⟨p3, vf2, _, rfl, rfl, k1, small1000 (by rw [k2, List.length_map]; omega), ?_⟩
      refine ⟨_, rfl, _, _, rfl, rfl, ?_⟩
      refine ⟨F ++ [(low, b, lcmI 1 (stepsB rs low))], b + 1, _, _, _, rfl, ?_, ?_, by omega, by omega, htake, fun x hx => ?_, fun ps hps => ?_⟩
      · rw [List.map_append]
        exact k3.weaken fun y hy => by
          rcases List.mem_cons.mp hy with rfl | hy
          · exact List.mem_cons_of_mem _ (List.mem_cons_of_mem _ (List.mem_cons_self ..))
          · exact List.mem_cons_of_mem _ (List.mem_cons_of_mem _ (List.mem_cons_of_mem _ hy))
      · rw [List.length_append, hF]
        rfl
      · have := hnext x hx
        omega
      · rw [List.filter_append, List.append_assoc]
        by_cases c : low ≤ b
        · have ek : [((low, b, lcmI 1 (stepsB rs low)) : Part)].filter keepP = [(low, b, lcmI 1 (stepsB rs low))] := by
            have : keepP (low, b, lcmI 1 (stepsB rs low)) = true := by
              unfold keepP
              rw [decide_eq_true c]
              exact Bool.or_true _
            rw [List.filter_cons_of_pos this]
            rfl
          rw [ek]
          refine hrel _ (.cons hl1 ms1 c b2 (fun n n1 n2 => m_at hOk hl1 n1 fun r hr => ?_) hps)
          rcases hsplit r hr with h | h
          · exact Or.inl h
          · exact Or.inr (by omega)
        · have ek : [((low, b, lcmI 1 (stepsB rs low)) : Part)].filter keepP = [] := by
            have : ¬ keepP (low, b, lcmI 1 (stepsB rs low)) = true := by
              unfold keepP
              rw [decide_eq_false c, decide_eq_false (by show ¬ b = -1; omega)]
              decide
            rw [List.filter_cons_of_neg this]
            rfl
          rw [ek]
          have : low = b + 1 := by omega
          rw [this] at hrel
          exact hrel _ hps
    · obtain ⟨F, low, y3, y4, y6, rfl, hS, hF, hl1, hl2, hlt, hge, hrel⟩ := hP
      rw [List.take_length] at hlt
      obtain ⟨ms1, ms2⟩ := m_small hOk low
      obtain ⟨vf, hf1, hf2, _, _⟩ := hS.look
      refine go_seq ⟨_, rfl, .inl ⟨rfl, _, SqL.of hf1⟩, _, rfl, _, rfl, ?_⟩
      show tCons _ _ _ _ _
      refine go_cons ?_
      show tCons _ _ _ _ _
      refine go_cons (lc_steps hS (List.mem_cons_of_mem _ hm) hl rfl fun D2 H6 hS6 => ?_)
      have hS7 := hS6.freeze
      refine ⟨_, _, _, D2, _, rfl, hS7, List.mem_cons_self .., ms2, Nat.le_trans (stepsB_len rs low) hl, fun H7 hS8 => ⟨by show 3 ≤ sizeLine; decide, fun t ht => ?_⟩⟩
      have hS9 := (hS8.tup (vs := [.int low, .int (-1), .int (lcmI 1 (stepsB rs low) : Nat)]) (ds := [.int low, .int (-1), .int (lcmI 1 (stepsB rs low) : Nat)]) ht (.cons (.int _) (.cons (.int _) (.cons (.int _) .nil))))
      obtain ⟨vf2, k1, k2, k3⟩ := hS9.push (.of (List.mem_cons_self ..))
      refine ⟨p3, vf2, _, rfl, rfl, k1, small1000 (by rw [k2, List.length_map]; omega), ?_⟩
      have eF : F.map partD ++ [PyData.tuple [.int low, .int (-1), .int (lcmI 1 (stepsB rs low) : Nat)]] = (F ++ [((low, -1, lcmI 1 (stepsB rs low)) : Part)]).map partD := by
        rw [List.map_append]
        rfl
      rw [eF] at k3
      have hfin : PartsFrom rs 1 ((F ++ [((low, -1, lcmI 1 (stepsB rs low)) : Part)]).filter keepP) := by
        rw [List.filter_append]
        exact hrel _ (.last hl1 ms1 hl2 fun n hn => m_at hOk hl1 hn fun r hr => Or.inl (hlt _ ((hbr r.1).mpr ⟨r, hr, rfl⟩)))
      have hGl : (F ++ [((low, -1, lcmI 1 (stepsB rs low)) : Part)]).length ≤ 41 := by
        rw [List.length_append, hF]
        exact Nat.succ_le_succ hbl
      generalize F ++ [((low, -1, lcmI 1 (stepsB rs low)) : Part)] = G at k3 hfin hGl
      have hSf := (k3.weaken (Δ' := Δ) fun y hy => List.mem_cons_of_mem _ (List.mem_cons_of_mem _ (List.mem_cons_of_mem _ hy))).freeze
      obtain ⟨us, hU, hul⟩ := hSf.lenL (List.mem_cons_self ..)
      refine ⟨_, rfl, p3, rfl, ⟨us, hU⟩, fun D hD => lc_it (n := G.length) walkL (fun k H => St K H dk ((D, ((G.take k).filter keepP).map partD) :: Γ) ((.ref p3, .list (G.map partD)) :: Δ))
        (hSf.make (ds := []) hD .nil) (fun k H _ hP => ?_) (fun k x H H' hk hP hy => ?_) (fun H hP => ?_)⟩
      · obtain ⟨xs, h1, h3⟩ := hP.lenL (List.mem_cons_self ..)
        exact ⟨xs, h1, by rw [h3, List.length_map]⟩
      · obtain ⟨rfl, ff⟩ := hy
        obtain ⟨dd, e1, hS1⟩ := hP.turnL (List.mem_cons_self ..) ff
        rw [List.getElem?_map, List.getElem?_eq_getElem hk] at e1
        cases Option.some.inj e1
        obtain ⟨ax, rfl⟩ := hS1.ref_of (List.mem_cons_self ..)
        have hT1 := St.part hS1 (List.mem_cons_self ..)
        have ext : (G.take (k + 1)).filter keepP = (G.take k).filter keepP ++ if keepP G[k] = true then [G[k]] else [] := by
          rw [List.take_add_one, List.getElem?_eq_getElem hk, List.filter_append]
          by_cases c : keepP G[k] = true
          · rw [if_pos c]
            simp [c]
          · rw [if_neg c]
            simp [c]
        have yes : keepP G[k] = true → ∃ acc, H' D = some (.lst acc) ∧ acc.length < sizeLine ∧ St K (upd H' D (.lst (acc ++ [V.ref ax]))) dk ((D, ((G.take (k + 1)).filter keepP).map partD) :: Γ) ((.ref p3, .list (G.map partD)) :: Δ) := fun c => by
          rw [if_pos c] at ext
          obtain ⟨vd, g1, g2, g3⟩ := hS1.push (.of (List.mem_cons_self ..))
          have hl3 := List.length_filter_le keepP (G.take k)
          rw [List.length_take] at hl3
          refine ⟨vd, g1, small1000 (by rw [g2, List.length_map]; omega), ?_⟩
          rw [ext, List.map_append]
          exact g3.weaken fun _ h => List.mem_cons_of_mem _ h
        have no : ¬ keepP G[k] = true → St K H' dk ((D, ((G.take (k + 1)).filter keepP).map partD) :: Γ) ((.ref p3, .list (G.map partD)) :: Δ) := fun c => by
          rw [if_neg c, List.append_nil] at ext
          rw [ext]
          exact hP
        generalize G[k] = r at hT1 yes no
        refine ⟨rfl, ?_⟩
        refine ⟨_, rfl, ax, _, 1, _, rfl, rfl, hT1, atI_nat (j := 1) rfl, _, rfl, rfl, _, rfl, ?_⟩
        rw [dec_vI]
        refine ite2 (fun e => ?_) (fun e => ?_)
        · exact iteT ⟨_, rfl, yes (by unfold keepP; rw [e]; rfl)⟩
        · refine ⟨_, rfl, ax, _, 0, _, rfl, rfl, hT1, atI_nat (j := 0) rfl, _, rfl, ax, _, 1, _, rfl, rfl, hT1, atI_nat (j := 1) rfl, _, _, rfl, rfl, _, rfl, ite2 (fun e2 => ?_) (fun e2 => ?_)⟩
          · exact ⟨_, rfl, yes (by unfold keepP; rw [e2]; exact Bool.or_true _)⟩
          · exact no (by unfold keepP; rw [Bool.eq_false_iff.mpr e, Bool.eq_false_iff.mpr e2]; decide)
      · rw [List.take_length] at hP
        exact q _ D (G.filter keepP) (Nat.le_trans (List.length_filter_le _ _) hGl) hfin (hP.weaken fun _ h => List.mem_cons_of_mem _ h)

theorem ok_law_above {f : Addr} {fd : FuncData} (F : Fun K "_law_above" "_law_above" s_law_above f fd) (nb : NB mg bnames)     : FnOk P w K mg base CX0 1 f fd ["parts", "low", "high"] (sp_law_above K) := by
  refine F.ok sc_law_above (fun vs H Q E h => ?_) (fun cdv A outer s H vs Q E hr h => ?_)
  · obtain ⟨dk, Γ, Δ, a, rs, ps, l, h, rfl, _⟩ := h
    rfl
  · obtain ⟨dk, Γ, Δ, a, rs, ps, l, h, rfl, hS, hm, hp, hl1, q⟩ := h
    refine ⟨_, (pss_cons (ps_set (i := 3) sc_law_above.nd rfl (.inl rfl) pe_int)
        (pss_cons (ps_for PassesOwn.never rfl (pi_list (pv 0)) (pg_tup (by rfl) (pgs_cons (pg_name (i := 4) sc_law_above.nd rfl (.inl rfl)) (pgs_cons (pg_name (i := 5) sc_law_above.nd rfl (.inl rfl)) (pgs_cons (pg_name (i := 6) sc_law_above.nd rfl (.inl rfl)) pgs_nil))))
        (pss_cons (ps_par (by rfl) (i := 7) (j := 8) sc_law_above.nd rfl rfl (by decide) rfl rfl (pa_cons (pe_callB (call_max2 rfl) (by rfl) (nb "max" rfl) (by decide +kernel) (pa_cons (pv 4) (pa_cons (pv 1) pa_nil))) (pa_cons (pe_ifExp (pt_cmpR op_eq (pv 5) (pe_un un_neg pe_int) (nomark _)) (pv 2) (pe_callB (call_min2 rfl) (by rfl) (nb "min" rfl) (by decide +kernel) (pa_cons (pv 5) (pa_cons (pv 2) pa_nil)))) pa_nil)) (by rfl))
        (pss_one (ps_if (PW.pt (pw_and (pt_cmpR op_gt (pv 6) pe_int (nomark _)) (pw_and1 (pt_cmpR op_le (pv 7) (pv 8) (nomark _))))) (pss_one (ps_set (i := 3) sc_law_above.nd rfl (.inl rfl) (pe_op op_sub (pe_op op_add (pv 3) (pe_op op_fdivW (pv 8) (pv 6))) (pe_op op_fdivW (pe_op op_sub (pv 7) pe_int) (pv 6))))) pss_nil))))
        (pss_one (ps_ret (pv 3))))), ?_⟩
    have hb := parts_small hp
    have hc := above_rows (l := l) (h := h) hp
    rw [show maxI 1 l = l by unfold maxI; split <;> omega] at hc
    obtain ⟨zs, hL, hzl⟩ := hS.lenL hm
    refine ⟨_, rfl, a, rfl, ⟨zs, hL⟩, for_it (n := ps.length) walkL (fun i σ H => ∃ (m : Int) (y4 y5 y6 y7 y8 : Option V), σ = [some (.ref a), some (.int l), some (.int h), some (.int m), y4, y5, y6, y7, y8] ∧ St K H dk Γ Δ ∧ m + aboveR l h (ps.drop i) = aboveR l h ps)
      ⟨0, none, none, none, none, none, rfl, hS, by rw [List.drop_zero, Int.zero_add]⟩ (fun i σ H _ hP => ?_) (fun i x σ H H' hi hP hy => ?_) (fun σ H hP => ?_)⟩
    · obtain ⟨_, _, _, _, _, _, _, hS, _⟩ := hP
      obtain ⟨xs, h1, h3⟩ := hS.lenL hm
      exact ⟨xs, h1, by rw [h3, List.length_map]⟩
    · obtain ⟨m, y4, y5, y6, y7, y8, rfl, hS, hM⟩ := hP
      obtain ⟨rfl, f⟩ := hy
      obtain ⟨d, e4, hS5⟩ := hS.turnL hm f
      rw [List.getElem?_map, List.getElem?_eq_getElem hi] at e4
      cases Option.some.inj e4
      obtain ⟨ax, rfl⟩ := hS5.ref_of (List.mem_cons_self ..)
      have hT := St.part hS5 (List.mem_cons_self ..)
      rw [List.drop_eq_getElem_cons hi] at hM
      obtain ⟨b1, b2, b3, b4, b5⟩ := hb _ (List.getElem_mem hi)
      generalize ps[i] = r at hM b1 b2 b3 b4 b5 hT
      have hM2 : m + ((if 0 < r.2.2 ∧ maxI r.1 l ≤ stopI h r.2.1 then stopI h r.2.1 / (r.2.2 : Int) - (maxI r.1 l - 1) / (r.2.2 : Int) else 0) + aboveR l h (ps.drop (i + 1))) = aboveR l h ps := hM
      refine ⟨ax, _, rfl, hT, rfl, _, _, rfl, _, _, rfl, _, _, rfl, rfl, ?_⟩
      -- start, stop
      refine go_seq ⟨_, rfl, _, rfl, _, _, rfl, ?_⟩
      refine cps (fun v H2 => v = .int (stopI h r.2.1) ∧ H2 = H') (fun Q' q' => ?_) (fun v H2 hv => ?_)
      · refine go_ite ⟨_, rfl, _, rfl, rfl, _, rfl, ?_⟩
        rw [dec_vI]
        refine ite2 (fun e => ?_) (fun e => ?_)
        · refine ⟨_, rfl, q' _ _ ⟨?_, rfl⟩⟩
          unfold stopI
          rw [if_pos (of_decide_eq_true e)]
        · refine ⟨_, rfl, _, rfl, _, _, rfl, q' _ _ ⟨?_, rfl⟩⟩
          unfold stopI
          rw [if_neg fun z => e (decide_eq_true z)]
      obtain ⟨rfl, rfl⟩ := hv
      refine ⟨_, _, rfl, ?_⟩
      dsimp only [gName, List.set_cons_succ, List.set_cons_zero]
      have hdv : 0 < r.2.2 → ∀ z : Int, CDivW z (r.2.2 : Int) := fun h0 z => wide_div (by omega) (show ((r.2.2 : Int)).natAbs < 2 ^ 8001 from b1) (by decide) (by decide)
      have em : (if l > r.1 then l else r.1) = maxI r.1 l := rfl
      rw [em]
      generalize maxI r.1 l = st at hM2
      generalize stopI h r.2.1 = sp at hM2
      refine go_if (go_and ⟨_, rfl, _, _, rfl, rfl, _, rfl, ite2 (fun e => ?_) (fun e => ?_)⟩)
      · have e' : 0 < r.2.2 := by
          have : (0 : Int) < (r.2.2 : Int) := of_decide_eq_true e
          omega
        refine ⟨_, rfl, _, rfl, _, _, rfl, rfl, _, rfl, ite2 (fun e2 => ?_) (fun e2 => ?_)⟩
        · rw [if_pos ⟨e', of_decide_eq_true e2⟩] at hM2
          refine ⟨_, rfl, _, rfl, _, rfl, _, _, rfl, rfl, hdv e' _, _, _, rfl, rfl, _, rfl, _, _, rfl, rfl, _, rfl, _, _, rfl, rfl, hdv e' _, _, _, rfl, rfl, ?_⟩
          exact ⟨m + sp / (r.2.2 : Int) - (st - 1) / (r.2.2 : Int), _, _, _, _, _, rfl, hS, by omega⟩
        · rw [if_neg fun z => e2 (decide_eq_true z.2)] at hM2
          exact ⟨m, _, _, _, _, _, rfl, hS, by omega⟩
      · rw [if_neg fun z => e (decide_eq_true (show (0 : Int) < (r.2.2 : Int) by have := z.1; omega))] at hM2
        exact iteF ⟨m, _, _, _, _, _, rfl, hS, by omega⟩
    · obtain ⟨m, y4, y5, y6, y7, y8, rfl, hS, hM⟩ := hP
      rw [List.drop_length] at hM
      have g := q H hS
      rw [← hc, ← hM, show aboveR l h [] = 0 from rfl, Int.add_zero] at g
      exact ⟨_, rfl, g⟩

theorem ok_law_many {f : Addr} {fd : FuncData} (F : Fun K "_law_many" "_law_many" s_law_many f fd) (nb : NB mg bnames) (F_law_above : Fd P w K mg base "_law_above" 1 ["parts", "low", "high"] (sp_law_above K))    : FnOk P w K mg base CX0 2 f fd ["parts", "low", "high"] (sp_law_many K) := by
  refine F.ok sc_law_many (fun vs H Q E h => ?_) (fun cdv A outer s H vs Q E hr h => ?_)
  · obtain ⟨dk, Γ, Δ, a, rs, ps, l, h, rfl, _⟩ := h
    rfl
  · obtain ⟨dk, Γ, Δ, a, rs, ps, l, h, rfl, hS, hm, hp, f0, hlh, q⟩ := h
    refine ⟨_, (pss_cons (ps_set (i := 3) sc_law_many.nd rfl (.inl rfl) (pe_callTy call_int1 (by rfl) (nb "int" rfl) (by decide +kernel) (pa_cons (pe_chain op_le op_le (pv 1) pe_int (pv 2)) pa_nil)))
        (Evl.pss_cut (ps_if (pt_cmpR op_gt (pv 2) pe_int (nomark _)) (pss_one (ps_set (i := 3) sc_law_many.nd rfl (.inl rfl) (pe_op op_add (pv 3) (pe_fd F_law_above (hr.mono (by decide)) (by rfl) (pa_cons (pv 0) (pa_cons (pe_callB (call_max2 rfl) (by rfl) (nb "max" rfl) (by decide +kernel) (pa_cons pe_int (pa_cons (pv 1) pa_nil))) (pa_cons (pv 2) pa_nil))))))) pss_nil)
        (Evl.pss_cut (ps_if (pt_cmpR op_lt (pv 1) pe_int (nomark _)) (pss_one (ps_set (i := 3) sc_law_many.nd rfl (.inl rfl) (pe_op op_add (pv 3) (pe_fd F_law_above (hr.mono (by decide)) (by rfl) (pa_cons (pv 0) (pa_cons (pe_callB (call_max2 rfl) (by rfl) (nb "max" rfl) (by decide +kernel) (pa_cons pe_int (pa_cons (pe_un un_neg (pv 2)) pa_nil))) (pa_cons (pe_un un_neg (pv 1)) pa_nil))))))) pss_nil)
        (pss_one (ps_ret (pv 3)))))), ?_⟩
    have me := many_eq (P := fitsAll rs) fits_even f0 hlh
    have g1 : ∀ x, 1 ≤ maxI 1 x := fun x => by unfold maxI; split <;> omega
    -- found
    refine go_set (go_cb (go_cons (cps (fun v H2 => v = .bl (decide (l ≤ 0) && decide (0 ≤ h)) ∧ H2 = H) (fun Q' q' => ?_) (fun v H2 hv => ?_))))
    · refine ⟨_, rfl, _, _, rfl, rfl, _, rfl, ite2 (fun e => ?_) (fun e => ?_)⟩
      · refine ⟨_, rfl, _, _, rfl, rfl, q' _ _ ⟨?_, rfl⟩⟩
        rw [e, Bool.true_and]
      · refine q' _ _ ⟨?_, rfl⟩
        rw [Bool.eq_false_iff.mpr e]
        rfl
    obtain ⟨rfl, rfl⟩ := hv
    refine .inr ⟨_, rfl, ?_⟩
    have ei : (if (decide (l ≤ 0) && decide (0 ≤ h)) = true then (1 : Int) else 0) = if l ≤ 0 ∧ 0 ≤ h then 1 else 0 := by
      by_cases c1 : l ≤ 0
      · by_cases c2 : 0 ≤ h
        · rw [decide_eq_true c1, decide_eq_true c2, if_pos (by rfl), if_pos ⟨c1, c2⟩]
        · rw [decide_eq_false c2, Bool.and_false, if_neg Bool.false_ne_true, if_neg fun x => c2 x.2]
      · rw [decide_eq_false c1, Bool.false_and, if_neg Bool.false_ne_true, if_neg fun x => c1 x.1]
    rw [ei]
    generalize (if l ≤ 0 ∧ 0 ≤ h then (1 : Int) else 0) = u0 at me
    dsimp only [L2.start, gName, List.set_cons_succ, List.set_cons_zero]
    refine go_cut (fun σ H' => σ = [some (.ref a), some (.int l), some (.int h), some (.int (u0 + (if 0 < h then (cntP (fitsAll rs) (maxI 1 l) (h - maxI 1 l + 1).toNat : Int) else 0)))] ∧ St K H' dk Γ Δ) ?_ (fun σ H5 hM => ?_)
    · refine go_if ⟨_, rfl, _, _, rfl, rfl, _, rfl, ite2 (fun e => ?_) (fun e => ?_)⟩
      · rw [if_pos (of_decide_eq_true e)]
        exact ⟨_, rfl, _, rfl, _, rfl, _, _, rfl, _, rfl, dk, Γ, Δ, a, rs, ps, maxI 1 l, h, rfl, hS, hm, hp, g1 l, fun H3 hS3 => ⟨_, _, rfl, rfl, rfl, hS3⟩⟩
      · rw [if_neg fun z => e (decide_eq_true z), Int.add_zero]
        exact ⟨rfl, hS⟩
    obtain ⟨rfl, hS5⟩ := hM
    generalize (u0 + (if 0 < h then (cntP (fitsAll rs) (maxI 1 l) (h - maxI 1 l + 1).toNat : Int) else 0)) = u1 at me
    refine go_cut (fun σ H' => σ = [some (.ref a), some (.int l), some (.int h), some (.int (u1 + (if l < 0 then (cntP (fitsAll rs) (maxI 1 (-h)) (-l - maxI 1 (-h) + 1).toNat : Int) else 0)))] ∧ St K H' dk Γ Δ) ?_ (fun σ H5 hM => ?_)
    · refine go_if ⟨_, rfl, _, _, rfl, rfl, _, rfl, ite2 (fun e => ?_) (fun e => ?_)⟩
      · rw [if_pos (of_decide_eq_true e)]
        exact ⟨_, rfl, _, rfl, _, rfl, _, rfl, _, _, rfl, _, rfl, _, rfl, dk, Γ, Δ, a, rs, ps, maxI 1 (-h), -l, rfl, hS5, hm, hp, g1 _, fun H3 hS3 => ⟨_, _, rfl, rfl, rfl, hS3⟩⟩
      · rw [if_neg fun z => e (decide_eq_true z), Int.add_zero]
        exact ⟨rfl, hS5⟩
    obtain ⟨rfl, hS6⟩ := hM
    have g := q _ hS6
    rw [me] at g
    exact ⟨_, rfl, g⟩

theorem ok_law_next {f : Addr} {fd : FuncData} (F : Fun K "_law_next" "_law_next" s_law_next f fd) (nb : NB mg bnames)     : FnOk P w K mg base CX0 1 f fd ["parts", "number"] (sp_law_next K) := by
  refine F.ok sc_law_next (fun vs H Q E h => ?_) (fun cdv A outer s H vs Q E hr h => ?_)
  · obtain ⟨dk, Γ, Δ, a, rs, ps, t, rfl, _⟩ := h
    rfl
  · obtain ⟨dk, Γ, Δ, a, rs, ps, t, rfl, hS, hm, hp, f0, hl41, htb, q⟩ := h
    refine ⟨_, (pss_cons (ps_if (pt_cmpR op_le (pv 1) pe_int (nomark _)) (pss_cons (ps_set (i := 2) sc_law_next.nd rfl (.inl rfl) (pe_lst (pa_cons pe_int pa_nil)))
        (pss_cons (ps_for PassesOwn.never rfl (pi_list (pv 0)) (pg_tup (by rfl) (pgs_cons (pg_name (i := 3) sc_law_next.nd rfl (.inl rfl)) (pgs_cons (pg_name (i := 4) sc_law_next.nd rfl (.inl rfl)) (pgs_cons (pg_name (i := 5) sc_law_next.nd rfl (.inl rfl)) pgs_nil))))
        (pss_cons (ps_set (i := 6) sc_law_next.nd rfl (.inl rfl) (pe_ifExp (pt_cmpR op_eq (pv 4) (pe_un un_neg pe_int) (nomark _)) (pe_un un_neg (pv 1)) (pe_callB (call_min2 rfl) (by rfl) (nb "min" rfl) (by decide +kernel) (pa_cons (pv 4) (pa_cons (pe_un un_neg (pv 1)) pa_nil)))))
        (pss_one (ps_if (PW.pt (pw_and (pt_cmpR op_gt (pv 5) pe_int (nomark _)) (pw_and1 (pt_cmpR op_ge (pe_op op_mulX (pe_op op_fdivW (pv 6) (pv 5)) (pv 5)) (pv 3) (nomark _))))) (pss_one (ps_expr (pe_bm PySem.F.plainAttrs_list PySem.F.slot_list_append PySem.F.type_list_append mt_append (pv 2) (pa_cons (pe_op op_mulX (pe_op op_fdivW (pv 6) (pv 5)) (pv 5)) pa_nil)))) pss_nil))))
        (pss_one (ps_ret (pe_un un_neg (pe_callB (cr_max rfl) (by rfl) (nb "max" rfl) (by decide +kernel) (pa_cons (pv 2) pa_nil))))))) pss_nil)
        (pss_cons (ps_for PassesOwn.never rfl (pi_list (pv 0)) (pg_tup (by rfl) (pgs_cons (pg_name (i := 3) sc_law_next.nd rfl (.inl rfl)) (pgs_cons (pg_name (i := 4) sc_law_next.nd rfl (.inl rfl)) (pgs_cons (pg_name (i := 5) sc_law_next.nd rfl (.inl rfl)) pgs_nil))))
        (pss_cons (ps_set (i := 7) sc_law_next.nd rfl (.inl rfl) (pe_callB (call_max2 rfl) (by rfl) (nb "max" rfl) (by decide +kernel) (pa_cons (pv 3) (pa_cons (pv 1) pa_nil))))
        (pss_one (ps_if (PW.pt (pw_and (pt_cmpR op_gt (pv 5) pe_int (nomark _)) (pw_and1 (PW.pt (pw_or (pt_cmpR op_eq (pv 4) (pe_un un_neg pe_int) (nomark _)) (pw_or1 (pt_cmpR op_le (pe_op op_mulX (pe_un un_neg (pe_op op_fdivW (pe_un un_neg (pv 7)) (pv 5))) (pv 5)) (pv 4) (nomark _)))))))) (pss_one (ps_ret (pe_op op_mulX (pe_un un_neg (pe_op op_fdivW (pe_un un_neg (pv 7)) (pv 5))) (pv 5)))) pss_nil))))
        (pss_one (ps_ret pe_non)))), ?_⟩
    have hsm := parts_small hp
    have hft := parts_fit hp
    have e60' : (10 : Nat) ^ 60 + 1 < 2 ^ 8000 := by decide +kernel
    refine ⟨_, rfl, _, _, rfl, rfl, _, rfl, ite2 (fun e => ?_) (fun e => ?_)⟩
    · have ht : t ≤ 0 := of_decide_eq_true e
      refine ⟨by show 1 ≤ sizeLine; decide, fun p hp1 => ?_⟩
      have hS1 := hS.make (vs := ([0] : List Int).map V.int) (ds := ([0] : List Int).map PyData.int) hp1 (dv_ints [0])
      obtain ⟨zs, hL, hzl⟩ := hS1.lenL hm
      refine ⟨_, rfl, a, rfl, ⟨zs, hL⟩, for_it (n := ps.length) walkL (fun i σ H => ∃ (B : List Int) (y3 y4 y5 y6 : Option V), σ = [some (.ref a), some (.int t), some (.ref p), y3, y4, y5, y6, none] ∧ St K H dk ((p, B.map PyData.int) :: Γ) Δ ∧ B.length ≤ i + 1 ∧ (0 : Int) ∈ B ∧
          (∀ x ∈ B, 0 ≤ x ∧ x ≤ -t ∧ fitsAll rs x = true) ∧ (∀ r ∈ ps.take i, ∀ n, r.1 ≤ n → n ≤ stopI (-t) r.2.1 → fitsAll rs n = true → ∃ x ∈ B, n ≤ x))
        ⟨[0], none, none, none, none, rfl, hS1, Nat.le_refl _, List.mem_singleton_self _, fun x hx => by rw [List.mem_singleton.mp hx]; exact ⟨Int.le_refl 0, by omega, f0⟩, fun r hr => (by rw [List.take_zero] at hr; exact nomatch hr)⟩ (fun i σ H _ hP => ?_) (fun i x σ H H' hi hP hy => ?_) (fun σ H hP => ?_)⟩
      · obtain ⟨_, _, _, _, _, _, hS, _⟩ := hP
        obtain ⟨xs, h1, h3⟩ := hS.lenL hm
        exact ⟨xs, h1, by rw [h3, List.length_map]⟩
      · obtain ⟨B, y3, y4, y5, y6, rfl, hS, hBl, hB0, hB, hC⟩ := hP
        obtain ⟨rfl, f⟩ := hy
        obtain ⟨d, e4, hS5⟩ := hS.turnL hm f
        rw [List.getElem?_map, List.getElem?_eq_getElem hi] at e4
        cases Option.some.inj e4
        obtain ⟨ax, rfl⟩ := hS5.ref_of (List.mem_cons_self ..)
        have hT := St.part hS5 (List.mem_cons_self ..)
        obtain ⟨b1, b2, b3, b4, b5⟩ := hsm _ (List.getElem_mem hi)
        obtain ⟨_, w2, w3, w4⟩ := hft _ (List.getElem_mem hi)
        have htk : ps.take (i + 1) = ps.take i ++ [ps[i]] := by
          rw [List.take_add_one, List.getElem?_eq_getElem hi]
          rfl
        rw [htk]
        generalize ps[i] = r at b1 b2 b3 b4 b5 w2 w3 w4 hT
        refine ⟨ax, _, rfl, hT, rfl, _, _, rfl, _, _, rfl, _, _, rfl, rfl, ?_⟩
        -- stop
        refine go_set (cps (fun v H2 => v = .int (stopI (-t) r.2.1) ∧ H2 = H') (fun Q' q' => ?_) (fun v H2 hv => ?_))
        · refine go_ite ⟨_, rfl, _, rfl, rfl, _, rfl, ?_⟩
          rw [dec_vI]
          refine ite2 (fun e => ?_) (fun e => ?_)
          · refine ⟨_, rfl, _, rfl, q' _ _ ⟨?_, rfl⟩⟩
            unfold stopI
            rw [if_pos (of_decide_eq_true e)]
          · refine ⟨_, rfl, _, rfl, _, rfl, _, _, rfl, q' _ _ ⟨?_, rfl⟩⟩
            unfold stopI
            rw [if_neg fun z => e (decide_eq_true z)]
        obtain ⟨rfl, rfl⟩ := hv
        dsimp only [gName, List.set_cons_succ, List.set_cons_zero]
        have hst : stopI (-t) r.2.1 ≤ -t ∧ (r.2.1 = -1 ∨ stopI (-t) r.2.1 ≤ r.2.1) ∧ -1 ≤ stopI (-t) r.2.1 := by
          unfold stopI
          split
          · exact ⟨Int.le_refl _, Or.inl (by assumption), by omega⟩
          · split <;> exact ⟨by omega, Or.inr (by omega), by omega⟩
        have hcov : ∀ B' : List Int, (∀ x ∈ B, x ∈ B') → (∀ n, r.1 ≤ n → n ≤ stopI (-t) r.2.1 → fitsAll rs n = true → ∃ x ∈ B', n ≤ x) → ∀ r' ∈ ps.take i ++ [r], ∀ n, r'.1 ≤ n → n ≤ stopI (-t) r'.2.1 → fitsAll rs n = true → ∃ x ∈ B', n ≤ x := fun B' hsub hr r' hr' n n1 n2 n3 => by
          rcases List.mem_append.mp hr' with h | h
          · obtain ⟨x, x1, x2⟩ := hC r' h n n1 n2 n3
            exact ⟨x, hsub x x1, x2⟩
          · rw [List.mem_singleton.mp h] at n1 n2
            exact hr n n1 n2 n3
        have hnatb : (stopI (-t) r.2.1).natAbs < 2 ^ 8000 := by omega
        obtain ⟨vf, vf1, vf2, _, _⟩ := hS.look
        generalize stopI (-t) r.2.1 = sp at hst hcov hnatb
        obtain ⟨t1, t2, t3⟩ := hst
        have hdv : 0 < r.2.2 → ∀ z : Int, CDivW z (r.2.2 : Int) := fun h0 z => wide_div (by omega) (show ((r.2.2 : Int)).natAbs < 2 ^ 8001 from b1) (by decide) (by decide)
        have hmx : CMulX (sp / (r.2.2 : Int)) (r.2.2 : Int) := mulx_ok (a := 8000) (b := 8001) (Nat.lt_of_le_of_lt (Int.natAbs_ediv_le_natAbs _ _) hnatb) b1 (by decide)
        refine go_if (go_and ⟨_, rfl, _, _, rfl, rfl, _, rfl, ite2 (fun e => ?_) (fun e => ?_)⟩)
        · have e' : 0 < r.2.2 := by
            have : (0 : Int) < (r.2.2 : Int) := of_decide_eq_true e
            omega
          obtain ⟨f1, f2, f3⟩ := last_mul e' sp
          refine ⟨_, rfl, _, rfl, _, _, rfl, rfl, hdv e' _, _, rfl, _, _, rfl, rfl, hmx, _, rfl, _, _, rfl, rfl, _, rfl, ite2 (fun e2 => ?_) (fun e2 => ?_)⟩
          · have e2' : r.1 ≤ sp / (r.2.2 : Int) * (r.2.2 : Int) := of_decide_eq_true e2
            refine ⟨_, rfl, .inl ⟨rfl, _, SqL.of vf1⟩, _, rfl, _, rfl, _, _, rfl, rfl, hdv e' _, _, rfl, _, _, rfl, rfl, hmx, ?_⟩
            obtain ⟨vg, g1, g2, g3⟩ := hS.push (y := .int (sp / (r.2.2 : Int) * (r.2.2 : Int))) (x := .int (sp / (r.2.2 : Int) * (r.2.2 : Int))) (.int _)
            refine ⟨p, vg, _, rfl, rfl, g1, small1000 (by rw [g2, List.length_map]; omega), ?_⟩
            refine ⟨B ++ [sp / (r.2.2 : Int) * (r.2.2 : Int)], _, _, _, _, rfl, ?_, ?_, List.mem_append_left _ hB0, fun x hx => ?_, hcov _ (fun x hx => List.mem_append_left _ hx) fun n n1 n2 n3 => ?_⟩
            · rw [List.map_append]
              exact g3
            · rw [List.length_append, List.length_singleton]
              omega
            · rcases List.mem_append.mp hx with hx | hx
              · exact hB x hx
              · rw [List.mem_singleton.mp hx]
                exact ⟨by omega, by omega, (w4 _ e2' (by omega)).mpr ⟨e', f2⟩⟩
            · refine ⟨_, List.mem_append_right _ (List.mem_singleton_self _), Decidable.byContradiction fun c => ?_⟩
              have := ((w4 n n1 (by omega)).mp n3).2
              rw [f3 n (by omega) n2] at this
              cases this
          · refine ⟨B, _, _, _, _, rfl, hS, by omega, hB0, hB, hcov _ (fun x hx => hx) fun n n1 n2 n3 => ?_⟩
            have e2' : ¬ r.1 ≤ sp / (r.2.2 : Int) * (r.2.2 : Int) := fun z => e2 (decide_eq_true z)
            have := ((w4 n n1 (by omega)).mp n3).2
            rw [f3 n (by omega) n2] at this
            cases this
        · refine iteF ⟨B, _, _, _, _, rfl, hS, by omega, hB0, hB, hcov _ (fun x hx => hx) fun n n1 n2 n3 => ?_⟩
          have := ((w4 n n1 (by omega)).mp n3).1
          exact absurd (decide_eq_true (show (0 : Int) < (r.2.2 : Int) by omega)) e
      · obtain ⟨B, y3, y4, y5, y6, rfl, hS, hBl, hB0, hB, hC⟩ := hP
        rw [List.take_length] at hC
        have hSf := hS.freeze
        obtain ⟨us, hU, hul, Δ2, rfl, hS3, hv⟩ := hSf.lstAt (List.mem_cons_self ..)
        obtain rfl := hS3.ints_of hv
        refine ⟨_, rfl, p, B, rfl, hU, List.length_pos_of_mem hB0, fun g hg hmx => ⟨_, rfl, ?_⟩⟩
        exact q _ (some (-g)) (below_least hp ht hB hC hg hmx) (hSf.weaken fun _ h => List.mem_cons_of_mem _ h)
    · have ht : 0 < t := by
        have : ¬ t ≤ 0 := fun z => e (decide_eq_true z)
        omega
      have hc := next_rows (t := t) hp
      rw [show maxI 1 t = t by unfold maxI; split <;> omega] at hc
      obtain ⟨zs, hL, hzl⟩ := hS.lenL hm
      refine ⟨_, rfl, a, rfl, ⟨zs, hL⟩, for_it (n := ps.length) walkL (fun i σ H => ∃ (y3 y4 y5 y7 : Option V), σ = [some (.ref a), some (.int t), none, y3, y4, y5, none, y7] ∧ St K H dk Γ Δ ∧ nextR t (ps.drop i) = nextR t ps)
        ⟨none, none, none, none, rfl, hS, by rw [List.drop_zero]⟩ (fun i σ H _ hP => ?_) (fun i x σ H H' hi hP hy => ?_) (fun σ H hP => ?_)⟩
      · obtain ⟨_, _, _, _, _, hS, _⟩ := hP
        obtain ⟨xs, h1, h3⟩ := hS.lenL hm
        exact ⟨xs, h1, by rw [h3, List.length_map]⟩
      · obtain ⟨y3, y4, y5, y7, rfl, hS, hM⟩ := hP
        obtain ⟨rfl, f⟩ := hy
        obtain ⟨d, e4, hS5⟩ := hS.turnL hm f
        rw [List.getElem?_map, List.getElem?_eq_getElem hi] at e4
        cases Option.some.inj e4
        obtain ⟨ax, rfl⟩ := hS5.ref_of (List.mem_cons_self ..)
        have hT := St.part hS5 (List.mem_cons_self ..)
        rw [List.drop_eq_getElem_cons hi] at hM
        obtain ⟨b1, b2, b3, b4, b5⟩ := hsm _ (List.getElem_mem hi)
        generalize ps[i] = r at hM b1 b2 b3 b4 b5 hT
        have hM2 : (if 0 < r.2.2 ∧ (r.2.1 = -1 ∨ firstMul r.2.2 (maxI r.1 t) ≤ r.2.1) then some (firstMul r.2.2 (maxI r.1 t)) else nextR t (ps.drop (i + 1))) = nextR t ps := hM
        have hmx : (maxI r.1 t).natAbs < 2 ^ 8000 := by
          unfold maxI
          split <;> omega
        refine ⟨ax, _, rfl, hT, rfl, _, _, rfl, _, _, rfl, _, _, rfl, rfl, ?_⟩
        refine go_set ⟨_, rfl, _, rfl, _, _, rfl, ?_⟩
        dsimp only [gName, List.set_cons_succ, List.set_cons_zero]
        rw [show (if t > r.1 then t else r.1) = maxI r.1 t from rfl]
        generalize maxI r.1 t = st at hM2 hmx
        have hdv : 0 < r.2.2 → ∀ z : Int, CDivW z (r.2.2 : Int) := fun h0 z => wide_div (by omega) (show ((r.2.2 : Int)).natAbs < 2 ^ 8001 from b1) (by decide) (by decide)
        have hml : CMulX (-(-st / (r.2.2 : Int))) (r.2.2 : Int) := mulx_ok (a := 8000) (b := 8001) (by rw [Int.natAbs_neg]; exact Nat.lt_of_le_of_lt (Int.natAbs_ediv_le_natAbs _ _) (by rw [Int.natAbs_neg]; exact hmx)) b1 (by decide)
        refine go_if (go_and ⟨_, rfl, _, _, rfl, rfl, _, rfl, ite2 (fun e => ?_) (fun e => ?_)⟩)
        · have e' : 0 < r.2.2 := by
            have : (0 : Int) < (r.2.2 : Int) := of_decide_eq_true e
            omega
          have ce := ceil_eq e' st
          have ret : (r.2.1 = -1 ∨ firstMul r.2.2 st ≤ r.2.1) → Q (.int (-(-st / (r.2.2 : Int)) * (r.2.2 : Int))) H' := fun c => by
            rw [if_pos ⟨e', c⟩] at hM2
            rw [← hM2] at hc
            rw [ce]
            exact q H' _ hc hS
          refine go_or ⟨_, rfl, _, rfl, rfl, _, rfl, ?_⟩
          rw [dec_vI]
          refine ite2 (fun e2 => ?_) (fun e2 => ?_)
          · exact ⟨_, rfl, _, rfl, _, rfl, _, _, rfl, rfl, hdv e' _, _, rfl, _, rfl, _, _, rfl, rfl, hml, ret (Or.inl (of_decide_eq_true e2))⟩
          · refine ⟨_, rfl, _, rfl, _, rfl, _, _, rfl, rfl, hdv e' _, _, rfl, _, rfl, _, _, rfl, rfl, hml, _, rfl, _, _, rfl, rfl, _, rfl, ite2 (fun e3 => ?_) (fun e3 => ?_)⟩
            · exact ⟨_, rfl, _, rfl, _, rfl, _, _, rfl, rfl, hdv e' _, _, rfl, _, rfl, _, _, rfl, rfl, hml, ret (Or.inr (by rw [← ce]; exact of_decide_eq_true e3))⟩
            · rw [if_neg fun z => by
                rcases z.2 with h | h
                · exact e2 (decide_eq_true h)
                · exact e3 (decide_eq_true (by rw [ce]; exact h))] at hM2
              exact ⟨_, _, _, _, rfl, hS, hM2⟩
        · rw [if_neg fun z => e (decide_eq_true (show (0 : Int) < (r.2.2 : Int) by have := z.1; omega))] at hM2
          exact iteF ⟨_, _, _, _, rfl, hS, hM2⟩
      · obtain ⟨y3, y4, y5, y7, rfl, hS, hM⟩ := hP
        rw [List.drop_length] at hM
        rw [← hM] at hc
        exact q _ none hc hS

theorem ok_law_spots {f : Addr} {fd : FuncData} (F : Fun K "_law_spots" "_law_spots" s_law_spots f fd) (nb : NB mg bnames) (F_law_draw : Fd P w K mg base "_law_draw" 1 ["deck", "many"] (sp_law_draw K)) (F_law_pick : Fd P w K mg base "_law_pick" 2 ["deck", "items"] (sp_law_pick K))    : FnOk P w K mg base CX0 3 f fd ["deck", "scale"] (sp_law_spots K) := by
  refine F.ok sc_law_spots (fun vs H Q E h => ?_) (fun cdv A outer s H vs Q E hr h => ?_)
  · obtain ⟨d, l, a, rs, Γ, Δ, rfl, _⟩ := h
    rfl
  · obtain ⟨d, l, a, rs, Γ, Δ, rfl, hS, hm, hG, hne, q⟩ := h
    refine ⟨_, (pss_cons (ps_set (i := 2) sc_law_spots.nd rfl (.inl rfl) (pe_lst (pa_cons pe_int (pa_cons pe_int (pa_cons (pe_un un_neg pe_int) (pa_cons (pe_op op_powW pe_int pe_int) (pa_cons (pe_un un_neg (pe_op op_powW pe_int pe_int)) (pa_cons (pe_fd F_law_draw (hr.mono (by decide)) (by rfl) (pa_cons (pv 0) (pa_cons (pe_op op_powW pe_int pe_int) pa_nil))) pa_nil))))))))
        (pss_cons (ps_for PassesOwn.never rfl (pi_range1 (by rfl) (nb "range" rfl) (pa_cons (pe_ifExp (pt_cmpR (op_neD hr.units) (pv 1) (pe_tup pa_nil) (nomark _)) pe_int pe_int) pa_nil)) (pg_name (i := 3) sc_law_spots.nd rfl (.inl rfl))
        (pss_cons (ps_asg (pe_fd F_law_pick (hr.mono (by decide)) (by rfl) (pa_cons (pv 0) (pa_cons (pe_callTy call_list_of (by rfl) (nb "list" rfl) (by decide +kernel) (pa_cons (pv 1) pa_nil)) pa_nil))) (pg_tup (by rfl) (pgs_cons (pg_name (i := 4) sc_law_spots.nd rfl (.inl rfl)) (pgs_cons (pg_name (i := 5) sc_law_spots.nd rfl (.inl rfl)) pgs_nil))))
        (pss_cons (ps_set (i := 6) sc_law_spots.nd rfl (.inl rfl) (pe_op op_add (pv 4) (pe_fd F_law_pick (hr.mono (by decide)) (by rfl) (pa_cons (pv 0) (pa_cons (pe_lst (pa_cons pe_int (pa_cons pe_int (pa_cons (pe_un un_neg pe_int) (pa_cons (pv 5) (pa_cons (pe_un un_neg (pv 5)) (pa_cons (pe_fd F_law_draw (hr.mono (by decide)) (by rfl) (pa_cons (pv 0) (pa_cons (pe_op op_add (pe_op op_mul pe_int (pv 5)) pe_int) pa_nil))) pa_nil))))))) pa_nil)))))
        (pss_one (ps_expr (pe_bm PySem.F.plainAttrs_list PySem.F.slot_list_append PySem.F.type_list_append mt_append (pv 2) (pa_cons (pe_op op_mulX (pe_fd F_law_pick (hr.mono (by decide)) (by rfl) (pa_cons (pv 0) (pa_cons (pe_lst (pa_cons pe_int (pa_cons (pe_un un_neg pe_int) pa_nil))) pa_nil))) (pe_callB (call_min2 rfl) (by rfl) (nb "min" rfl) (by decide +kernel) (pa_cons (pe_op op_powW pe_int pe_int) (pa_cons (pe_callB (call_max2 rfl) (by rfl) (nb "max" rfl) (by decide +kernel) (pa_cons pe_int (pa_cons (pv 6) pa_nil))) pa_nil)))) pa_nil)))))))
        (pss_one (ps_ret (pv 2))))), ?_⟩
    have hc60 : (10 : Int) ^ (60 : Int).toNat = 10 ^ 60 := rfl
    have hone : (1 : Int) ≤ 10 ^ 60 := by decide
    refine ⟨_, rfl, _, _, rfl, rfl, ⟨by decide, by decide⟩, _, _, rfl, rfl, ⟨by decide, by decide⟩, _, rfl, _, rfl, _, _, rfl, rfl, ⟨by decide, by decide⟩, d, l, _, Γ, Δ, rfl, hS, (by decide +kernel), fun H1 r hS1 r0 r1 => ⟨by show 6 ≤ sizeLine; decide, fun p hp => ?_⟩⟩
    have hr : r ≤ 10 ^ 60 := by
      rw [hc60] at r1
      omega
    have hS2 : EE.St K _ (some (d, l)) ((p, ([0, 1, -1, 10 ^ 60, -(10 ^ 60), r] : List Int).map PyData.int) :: Γ) Δ := hS1.make hp (.cons (.int _) (.cons (.int _) (.cons (.int _) (.cons (.int _) (.cons (.int _) (.cons (.int _) .nil))))))
    refine ⟨_, rfl, Nat.zero_le _, fun u hu => ?_⟩
    have hS3 := hS2.tup (ds := []) hu .nil
    refine ne_nil_tup (ds := rs.map ruleD) ((hS3.weaken (Δ' := (.ref a, scaleD rs) :: []) fun y hy => by rw [List.mem_singleton.mp hy]; exact List.mem_cons_of_mem _ hm).dp (.of (List.mem_cons_self ..))) (.tup (SqT.of upd_same) .nil) (lay_rules rs) ⟨_, rfl, ?_⟩
    rw [List.isEmpty_map]
    replace hS3 := hS3.weaken (Δ' := Δ) fun _ => List.mem_cons_of_mem _
    have he : (!rs.isEmpty) = true := by
      cases rs with
      | nil => exact absurd rfl hne
      | cons _ _ => rfl
    rw [he]
    refine iteT ⟨5, rfl, by decide, by decide, for_range (lo := 0) (n := (5 : Int).toNat) (fun i σ H => ∃ (ns : List Int) (y3 y4 y5 y6 : Option V), σ = [some (.ref d), some (.ref a), some (.ref p), y3, y4, y5, y6] ∧
        St K H (some (d, l)) ((p, ns.map PyData.int) :: Γ) Δ ∧ ns.length = 6 + i ∧ ∀ n ∈ ns, -(10 ^ 60) ≤ n ∧ n ≤ 10 ^ 60)
      ⟨_, none, none, none, none, rfl, hS3, rfl, fun n hn => ?_⟩ (fun i σ H hi hP => ?_) (fun σ H hP => ?_)⟩
    · simp only [List.mem_cons, List.not_mem_nil, or_false] at hn
      rcases hn with rfl | rfl | rfl | rfl | rfl | rfl <;> omega
    · obtain ⟨ns, y3, y4, y5, y6, rfl, hS, hlen, hns⟩ := hP
      have hi5 : i < 5 := hi
      obtain ⟨vs, hT, hvl, Δ', rfl, hS4, hv⟩ := hS.tupAt hm
      refine ⟨_, rfl, _, rfl, a, vs, rfl, .inr hT, fun p2 hp2 => ?_⟩
      have hS5 := hS4.lst hp2 hv
      refine ⟨d, l, p2, rs.map ruleD, _, _, rfl, hS5, List.mem_cons_self .., by simpa using hne, by rw [List.length_map]; have := hG.1; omega, fun H3 v x hx hS6 => ?_⟩
      obtain ⟨r, hr, rfl⟩ := List.mem_map.mp hx
      obtain ⟨g1, g2, g3⟩ := hG.2 r hr
      obtain ⟨av, rfl⟩ := hS6.ref_of (List.mem_cons_self ..)
      have hTr := hS6.pair (List.mem_cons_self ..)
      replace hS6 := hS6.weaken (Δ' := Δ) fun y hy => List.mem_cons_of_mem _ (List.mem_cons_of_mem _ (List.mem_append_right _ hy))
      refine ⟨av, _, rfl, hTr, rfl, _, _, rfl, _, _, rfl, rfl, ?_⟩
      have s0 : 0 ≤ r.2 ∧ r.2 ≤ 10 ^ 60 := by omega
      -- near
      refine ⟨_, rfl, _, rfl, _, rfl, _, rfl, _, rfl, _, rfl, _, rfl, _, rfl, _, _, rfl, rfl, .inl (by decide), _, _, rfl, rfl, d, l, _, _, _, rfl, hS6, ?_, fun H4 c hS7 c0 c1 => ⟨by show 6 ≤ sizeLine; decide, fun p3 hp3 => ?_⟩⟩
      · have e : (10 : Nat) ^ 60 * 3 + 1 < 2 ^ 8000 := by decide +kernel
        omega
      have hS8 := hS7.lst (vs := [.int 0, .int 1, .int (-1), .int r.2, .int (-r.2), .int c]) (ds := [.int 0, .int 1, .int (-1), .int r.2, .int (-r.2), .int c]) hp3 (.cons (.int _) (.cons (.int _) (.cons (.int _) (.cons (.int _) (.cons (.int _) (.cons (.int _) .nil))))))
      refine ⟨d, l, p3, _, _, _, rfl, hS8, List.mem_cons_self .., by simp, by show 6 ≤ 10000; decide, fun H5 v x hx hS9 => ?_⟩
      obtain ⟨z, rfl⟩ : ∃ z : Int, x = .int z := by
        simp only [List.mem_cons, List.not_mem_nil, or_false] at hx
        rcases hx with rfl | rfl | rfl | rfl | rfl | rfl <;> exact ⟨_, rfl⟩
      obtain rfl := hS9.int_of (List.mem_cons_self ..)
      replace hS9 := hS9.weaken (Δ' := Δ) fun _ h => List.mem_cons_of_mem _ (List.mem_cons_of_mem _ h)
      refine ⟨_, _, rfl, rfl, ?_⟩
      obtain ⟨vf, f1, f2, _, _⟩ := hS9.look
      refine ⟨_, rfl, .inl ⟨rfl, _, SqL.of f1⟩, _, rfl, _, rfl, by show 2 ≤ sizeLine; decide, fun p4 hp4 => ?_⟩
      have hS10 := hS9.lst (vs := [.int 1, .int (-1)]) (ds := [.int 1, .int (-1)]) hp4 (.cons (.int _) (.cons (.int _) .nil))
      refine ⟨d, l, p4, _, _, _, rfl, hS10, List.mem_cons_self .., by simp, by show 2 ≤ 10000; decide, fun H6 v x hx hS11 => ?_⟩
      obtain ⟨s, rfl, hs⟩ : ∃ s : Int, x = .int s ∧ (s = 1 ∨ s = -1) := by
        simp only [List.mem_cons, List.not_mem_nil, or_false] at hx
        rcases hx with rfl | rfl
        · exact ⟨_, rfl, Or.inl rfl⟩
        · exact ⟨_, rfl, Or.inr rfl⟩
      obtain rfl := hS11.int_of (List.mem_cons_self ..)
      replace hS11 := hS11.weaken (Δ' := Δ) fun _ h => List.mem_cons_of_mem _ (List.mem_cons_of_mem _ h)
      refine ⟨_, _, rfl, rfl, ⟨by decide, by decide⟩, _, rfl, _, _, rfl, _, _, rfl, ?_⟩
      have hw : ∃ w : Int, (if (if r.1 + z > 0 then r.1 + z else 0) < (10 : Int) ^ (60 : Int).toNat then (if r.1 + z > 0 then r.1 + z else 0) else (10 : Int) ^ (60 : Int).toNat) = w ∧ 0 ≤ w ∧ w ≤ 10 ^ 60 := by
        rw [hc60]
        refine ⟨_, rfl, ?_, ?_⟩
        · split
          · split <;> omega
          · omega
        · split <;> omega
      obtain ⟨w, ew, w0, w1⟩ := hw
      rw [ew]
      have hmx : CMulX s w := mulx_ok (a := 2) (b := 200) (by rcases hs with rfl | rfl <;> decide) (by have e : (10 : Nat) ^ 60 < 2 ^ 200 := by decide +kernel
                                                                                                       omega) (by decide)
      refine ⟨_, _, rfl, rfl, hmx, ?_⟩
      obtain ⟨vf2, k1, k2, k3⟩ := hS11.push (Dv.int (s * w))
      refine ⟨p, vf2, _, rfl, rfl, k1, small1000 (by rw [k2, List.length_map]; omega), ?_⟩
      refine ⟨ns ++ [s * w], _, _, _, _, rfl, ?_, ?_, fun n hn => ?_⟩
      · rw [List.map_append]
        exact k3
      · rw [List.length_append, List.length_singleton, hlen]
        omega
      · rcases List.mem_append.mp hn with hn | hn
        · exact hns n hn
        · rw [List.mem_singleton.mp hn]
          rcases hs with rfl | rfl
          · omega
          · omega
    · obtain ⟨ns, y3, y4, y5, y6, rfl, hS, hlen, hns⟩ := hP
      have h5 : (5 : Int).toNat = 5 := rfl
      exact ⟨_, rfl, q _ p ns (by omega) hns hS⟩

theorem oklaw {f : Addr} {fd : FuncData} (F : Fun K "law" "law" slaw f fd) (nb : NB mg bnames) (F_law_deck : Fd P w K mg base "_law_deck" 1 ["script"] (sp_law_deck K)) (F_law_fits : Fd P w K mg base "_law_fits" 1 ["scale", "number"] (sp_law_fits K)) (F_law_great : Fd P w K mg base "_law_great" 4 ["deck", "most"] (sp_law_great K)) (F_law_many : Fd P w K mg base "_law_many" 2 ["parts", "low", "high"] (sp_law_many K)) (F_law_next : Fd P w K mg base "_law_next" 1 ["parts", "number"] (sp_law_next K)) (F_law_parts : Fd P w K mg base "_law_parts" 3 ["scale"] (sp_law_parts K)) (F_law_pick : Fd P w K mg base "_law_pick" 2 ["deck", "items"] (sp_law_pick K)) (F_law_spots : Fd P w K mg base "_law_spots" 3 ["deck", "scale"] (sp_law_spots K)) (Ffits : Fd P w K mg base "fits" 3 ["scale", "number"] (spfits K)) (Ffitting_from : Fd P w K mg base "fitting_from" 3 ["scale", "number"] (spfitting_from K)) (Ffitting_many : Fd P w K mg base "fitting_many" 3 ["scale", "low", "high"] (spfitting_many K)) (Kfitting_many : Fk P w K mg base "fitting_many" 3 ["scale", "low", "high"] ["high", "low", "scale"] (fun zs => zs.reverse) (spfitting_many K)) (Kfitting_from : Fk P w K mg base "fitting_from" 3 ["scale", "number"] ["number", "scale"] (fun zs => zs.reverse) (spfitting_from K))   : FnG P w K mg base 5 f fd ["script"] (splaw K) := by
  refine okG F sclaw (fun vs H Q E h => ?_) (fun cdv A outer s H vs Q E hg hr h => ?_)
  · obtain ⟨a, ns, rfl, _⟩ := h
    rfl
  · obtain ⟨a0, ns0, rfl, hS, hlen, q⟩ := h
    refine ⟨_, (pss_cons (ps_set (i := 1) sclaw.nd rfl (.inl rfl) (pe_fd F_law_deck (hr.mono (by decide)) (by rfl) (pa_cons (pv 0) pa_nil)))
        (pss_cons (ps_for PassesOwn.never rfl (pi_range1 (by rfl) (nb "range" rfl) (pa_cons pe_int pa_nil)) (pg_name (i := 2) sclaw.nd rfl (.inl rfl))
        (pss_cons (ps_set (i := 3) sclaw.nd rfl (.inl rfl) (pe_fd F_law_great (hr.mono (by decide)) (by rfl) (pa_cons (pv 1) (pa_cons (pe_ix ix_list (pe_lst (pa_cons pe_int (pa_cons pe_int (pa_cons pe_int (pa_cons pe_int pa_nil))))) (pv 2) (fun _ _ => rfl)) pa_nil))))
        (pss_cons (ps_par3 (by rfl) (i := 4) (j := 5) (l := 6) sclaw.nd rfl rfl rfl (by decide) (by decide) (by decide) rfl rfl rfl (pa_cons (pe_fd F_law_parts (hr.mono (by decide)) (by rfl) (pa_cons (pv 3) pa_nil)) (pa_cons (pe_fd F_law_spots (hr.mono (by decide)) (by rfl) (pa_cons (pv 1) (pa_cons (pv 3) pa_nil))) (pa_cons (pe_callB (call_repr hg (by have := hr.units; exact this)) (by rfl) (nb "repr" rfl) (by decide +kernel) (pa_cons (pv 3) pa_nil)) pa_nil))) (by rfl))
        (pss_cons (ps_for PassesOwn.never rfl (pi_range1 (by rfl) (nb "range" rfl) (pa_cons pe_int pa_nil)) (pg_name (i := 7) sclaw.nd rfl (.inl rfl))
        (pss_cons (ps_asg (pe_callB cr_sortedI (by rfl) (nb "sorted" rfl) (by decide +kernel) (pa_cons (pe_lst (pa_cons (pe_fd F_law_pick (hr.mono (by decide)) (by rfl) (pa_cons (pv 1) (pa_cons (pv 5) pa_nil))) (pa_cons (pe_fd F_law_pick (hr.mono (by decide)) (by rfl) (pa_cons (pv 1) (pa_cons (pv 5) pa_nil))) (pa_cons (pe_fd F_law_pick (hr.mono (by decide)) (by rfl) (pa_cons (pv 1) (pa_cons (pv 5) pa_nil))) pa_nil)))) pa_nil)) (pg_lst rfl (pgs_cons (pg_name (i := 8) sclaw.nd rfl (.inl rfl)) (pgs_cons (pg_name (i := 9) sclaw.nd rfl (.inl rfl)) (pgs_cons (pg_name (i := 10) sclaw.nd rfl (.inl rfl)) pgs_nil)))))
        (pss_cons (ps_set (i := 11) sclaw.nd rfl (.inl rfl) (pe_fd F_law_many (hr.mono (by decide)) (by rfl) (pa_cons (pv 4) (pa_cons (pv 8) (pa_cons (pv 10) pa_nil)))))
        (pss_cons (ps_set (i := 12) sclaw.nd rfl (.inl rfl) (pe_ifExp (pt_cmpR op_eq (pv 7) (pv 2) (nomark _)) (pe_fk Kfitting_many (hr.mono (by decide)) (by rfl) (pk_cons (pv 10) (pk_cons (pv 8) (pk_cons (pv 3) pk_nil)))) (pe_fd Ffitting_many (hr.mono (by decide)) (by rfl) (pa_cons (pv 3) (pa_cons (pv 8) (pa_cons (pv 10) pa_nil))))))
        (pss_cons (ps_if (pt_cmpR op_ne (pe_callB (call_repr hg (by have := hr.units; exact this)) (by rfl) (nb "repr" rfl) (by decide +kernel) (pa_cons (pe_lst (pa_cons (pv 12) (pa_cons (pe_fd Ffitting_many (hr.mono (by decide)) (by rfl) (pa_cons (pv 3) (pa_cons (pv 8) (pa_cons (pv 10) pa_nil)))) pa_nil))) pa_nil)) (pe_callB (call_repr hg (by have := hr.units; exact this)) (by rfl) (nb "repr" rfl) (by decide +kernel) (pa_cons (pe_lst (pa_cons (pv 11) (pa_cons (pv 11) pa_nil))) pa_nil)) (nomark _)) (pss_one (ps_ret pe_bl)) pss_nil)
        (pss_cons (ps_set (i := 13) sclaw.nd rfl (.inl rfl) (pe_ifExp (pt_cmpR op_lt (pv 9) (pv 10) (nomark _)) (pe_fd Ffitting_many (hr.mono (by decide)) (by rfl) (pa_cons (pv 3) (pa_cons (pe_op op_add (pv 9) pe_int) (pa_cons (pv 10) pa_nil)))) pe_int))
        (pss_one (ps_if (pt_cmpR op_ne (pe_op op_add (pe_fd Ffitting_many (hr.mono (by decide)) (by rfl) (pa_cons (pv 3) (pa_cons (pv 8) (pa_cons (pv 9) pa_nil)))) (pv 13)) (pv 11) (nomark _)) (pss_one (ps_ret pe_bl)) pss_nil))))))))
        (pss_cons (ps_for PassesOwn.never rfl (pi_enum (by rfl) (nb "enumerate" rfl) (pa_cons (pv 5) pa_nil)) (pg_tup (by rfl) (pgs_cons (pg_name (i := 7) sclaw.nd rfl (.inl rfl)) (pgs_cons (pg_name (i := 14) sclaw.nd rfl (.inl rfl)) pgs_nil)))
        (pss_cons (ps_set (i := 11) sclaw.nd rfl (.inl rfl) (pe_fd F_law_next (hr.mono (by decide)) (by rfl) (pa_cons (pv 4) (pa_cons (pv 14) pa_nil))))
        (pss_cons (ps_set (i := 12) sclaw.nd rfl (.inl rfl) (pe_ifExp (pt_cmpR op_eq (pv 7) (pv 2) (nomark _)) (pe_fk Kfitting_from (hr.mono (by decide)) (by rfl) (pk_cons (pv 14) (pk_cons (pv 3) pk_nil))) (pe_fd Ffitting_from (hr.mono (by decide)) (by rfl) (pa_cons (pv 3) (pa_cons (pv 14) pa_nil)))))
        (pss_cons (ps_if (pt_cmpR op_ne (pe_callB (call_repr hg (by have := hr.units; exact this)) (by rfl) (nb "repr" rfl) (by decide +kernel) (pa_cons (pe_lst (pa_cons (pv 12) (pa_cons (pe_fd Ffitting_from (hr.mono (by decide)) (by rfl) (pa_cons (pv 3) (pa_cons (pv 14) pa_nil))) pa_nil))) pa_nil)) (pe_callB (call_repr hg (by have := hr.units; exact this)) (by rfl) (nb "repr" rfl) (by decide +kernel) (pa_cons (pe_lst (pa_cons (pv 11) (pa_cons (pv 11) pa_nil))) pa_nil)) (nomark _)) (pss_one (ps_ret pe_bl)) pss_nil)
        (pss_cons (ps_if (PW.pt (pw_and (pt_cmpR op_notN (pv 12) pe_non (nomark _)) (pw_and1 (PW.pt (pw_or (pt_cmpR op_lt (pv 12) (pv 14) (nomark _)) (pw_or (pt_not (pt_val (pe_fd F_law_fits (hr.mono (by decide)) (by rfl) (pa_cons (pv 3) (pa_cons (pv 12) pa_nil))))) (pw_or1 (pt_cmpR op_notBl (pe_fd Ffits (hr.mono (by decide)) (by rfl) (pa_cons (pv 3) (pa_cons (pv 12) pa_nil))) pe_bl (nomark _))))))))) (pss_one (ps_ret pe_bl)) pss_nil)
        (pss_one (ps_if (PW.pt (pw_and (pt_cmpR op_notN (pv 12) pe_non (nomark _)) (pw_and (pt_chain op_lt op_le (pv 14) (pv 12) (pe_op op_powW pe_int pe_int)) (pw_and1 (pt_cmpR op_ne (pe_fd Ffitting_many (hr.mono (by decide)) (by rfl) (pa_cons (pv 3) (pa_cons (pv 14) (pa_cons (pv 12) pa_nil)))) pe_int (nomark _)))))) (pss_one (ps_ret pe_bl)) pss_nil)))))))
        (pss_one (ps_if (pt_cmpR op_ne (pe_callB (call_repr hg (by have := hr.units; exact this)) (by rfl) (nb "repr" rfl) (by decide +kernel) (pa_cons (pv 3) pa_nil)) (pv 6) (nomark _)) (pss_one (ps_ret pe_bl)) pss_nil)))))))
        (pss_one (ps_ret pe_bl)))), ?_⟩
    refine go_set ⟨_, rfl, a0, ns0, rfl, hS, hlen, fun H1 d l hS1 => ?_⟩
    dsimp only [L2.start]
    refine ⟨4, rfl, by decide, by decide, for_range (lo := 0) (n := 4) (fun i σ H => ∃ y2 y3 y4 y5 y6 y7 y8 y9 y10 y11 y12 y13 y14 : Option V, σ = [some (.ref a0), some (.ref d), y2, y3, y4, y5, y6, y7, y8, y9, y10, y11, y12, y13, y14] ∧ St K H (some (d, l)) [] [])
      ⟨_, _, _, _, _, _, _, _, _, _, _, _, _, rfl, hS1⟩ (fun i σ H hi hP => ?_) (fun σ H hP => q H)⟩
    obtain ⟨y2, y3, y4, y5, y6, y7, y8, y9, y10, y11, y12, y13, y14, rfl, hS⟩ := hP
    dsimp only [gName, List.set_cons_succ, List.set_cons_zero]
    -- scale
    have htop : 1 ≤ ([40, 3, 12, 6] : List Int).getD i 0 ∧ ([40, 3, 12, 6] : List Int).getD i 0 ≤ 40 := by
      have : i = 0 ∨ i = 1 ∨ i = 2 ∨ i = 3 := by omega
      rcases this with rfl | rfl | rfl | rfl <;> decide
    refine go_set ⟨_, rfl, (by show 4 ≤ sizeLine; decide), fun p hp => ⟨_, rfl, p, _, _, .int (([40, 3, 12, 6] : List Int).getD i 0), rfl, rfl, SqL.of upd_same, ?_, ?_⟩⟩
    · have : i = 0 ∨ i = 1 ∨ i = 2 ∨ i = 3 := by omega
      rcases this with rfl | rfl | rfl | rfl <;> rfl
    have hS2 := (hS.lst (vs := [.int 40, .int 3, .int 12, .int 6]) (ds := [.int 40, .int 3, .int 12, .int 6]) hp (.cons (.int _) (.cons (.int _) (.cons (.int _) (.cons (.int _) .nil))))).weaken (Δ' := []) fun _ h => nomatch h
    refine ⟨d, l, _, [], [], rfl, hS2, htop.1, htop.2, fun H2 v rs hG hSt hne hS3 => ?_⟩
    have hOk := hG.ok
    have h2 : ∀ r ∈ rs, 0 ≤ r.2 := fun r hr => (hOk.2 r hr).2.2.1
    have h3 : ∀ r ∈ rs, 0 ≤ r.2 ∧ 0 ≤ r.1 ∧ r.1 ≤ 10 ^ 60 := fun r hr => ⟨h2 r hr, (hOk.2 r hr).1, (hOk.2 r hr).2.1⟩
    have f0 : fitsAll rs 0 = true := fits_low (b := 0) (Int.le_refl 0) (Int.le_refl 0) fun r hr => (hOk.2 r hr).1
    obtain ⟨av, rfl⟩ := hS3.ref_of (List.mem_cons_self ..)
    dsimp only [gName, List.set_cons_succ, List.set_cons_zero]
    -- parts, spots, kept
    refine go_seq ⟨_, rfl, _, _, _, av, rs, rfl, hS3, List.mem_cons_self .., hG, fun H3 pp ps hpl hpp hS4 => ?_⟩
    refine ⟨_, rfl, _, rfl, d, l, av, rs, _, _, rfl, hS4, List.mem_cons_self .., hG, hne, fun H4 sp ns hnl hnb hS5 => ?_⟩
    refine (ed_repr (B := [(.ref av, scaleD rs)]) (ed_var rfl (.of (List.mem_cons_self ..))) trivial (sm_scale hOk) (by decide) (by decide)) _ _ _ _ _ .rfl' hS5 (fun v H5 Δ5 s5 hS6 dv => ?_)
    obtain rfl := dv.isStr hS6
    replace hS6 := (hS6.weaken s5).freeze.freeze
    refine ⟨_, _, _, rfl, ?_⟩
    dsimp only [gName, List.set_cons_succ, List.set_cons_zero]
    clear hS hS1 hS2 hS3 hS4 hS5
    have Bp : Dv [(V.ref pp, PyData.list (ps.map partD)), (.ref sp, .list (ns.map PyData.int)), (.ref av, scaleD rs)] (.ref pp) (.list (ps.map partD)) := .of (List.mem_cons_self ..)
    have Bs : Dv [(V.ref pp, PyData.list (ps.map partD)), (.ref sp, .list (ns.map PyData.int)), (.ref av, scaleD rs)] (.ref av) (scaleD rs) := .of (List.mem_cons_of_mem _ (List.mem_cons_of_mem _ (List.mem_cons_self ..)))
    have mN : (V.ref sp, PyData.list (ns.map PyData.int)) ∈ [(V.ref pp, PyData.list (ps.map partD)), (.ref sp, .list (ns.map PyData.int)), (.ref av, scaleD rs)] := List.mem_cons_of_mem _ (List.mem_cons_self ..)
    have hnne : ns.map PyData.int ≠ [] := fun z => by
      have := congrArg List.length z
      rw [List.length_map] at this
      simp only [List.length_nil] at this
      omega
    have hnl2 : (ns.map PyData.int).length ≤ 10000 := by rw [List.length_map]; omega
    have e569 : 3 * (10 : Nat) ^ 60 + 5 < 10 ^ 569 := by decide +kernel
    have e8000 : (10 : Nat) ^ 60 + 5 < 2 ^ 8000 := by decide +kernel
    -- for again in range(6)
    refine go_for ⟨6, rfl, by decide, by decide, for_range (lo := 0) (n := 6) (fun k σ H => ∃ y7 y8 y9 y10 y11 y12 y13 y14 : Option V, σ = [some (.ref a0), some (.ref d), some (.int (0 + (i : Int))), some (.ref av), some (.ref pp), some (.ref sp), some (.str (scaleD rs).shown), y7, y8, y9, y10, y11, y12, y13, y14] ∧
        St K H (some (d, l)) [] [(V.ref pp, PyData.list (ps.map partD)), (.ref sp, .list (ns.map PyData.int)), (.ref av, scaleD rs)])
      ⟨_, _, _, _, _, _, _, _, rfl, hS6⟩ (fun k σ H hk hP => ?_) (fun σ H hP => ?_)⟩
    · obtain ⟨y7, y8, y9, y10, y11, y12, y13, y14, rfl, hS⟩ := hP
      dsimp only [gName, List.set_cons_succ, List.set_cons_zero]
      have pk : ∀ {H' : Hp} {Q' : VK} (hS' : St K H' (some (d, l)) [] [(V.ref pp, PyData.list (ps.map partD)), (.ref sp, .list (ns.map PyData.int)), (.ref av, scaleD rs)]),
          (∀ H2 (n : Int), n ∈ ns → St K H2 (some (d, l)) [] [(V.ref pp, PyData.list (ps.map partD)), (.ref sp, .list (ns.map PyData.int)), (.ref av, scaleD rs)] → Q' (.int n) H2) → sp_law_pick K [.ref d, .ref sp] H' Q' E0 := fun {H' Q'} hS' q' =>
        ⟨d, l, sp, _, _, _, rfl, hS', mN, hnne, hnl2, fun H2 v x hx hS2 => by
          obtain ⟨n, hn, rfl⟩ := List.mem_map.mp hx
          obtain rfl := hS2.int_of (List.mem_cons_self ..)
          exact q' H2 n hn (hS2.weaken fun _ => List.mem_cons_of_mem _)⟩
      refine go_asg ⟨_, rfl, _, rfl, pk hS fun H2 n1 m1 hS2 => ⟨_, rfl, _, rfl, pk hS2 fun H3 n2 m2 hS3 => ⟨_, rfl, _, rfl, pk hS3 fun H4 n3 m3 hS4 => ⟨by show 3 ≤ sizeLine; decide, fun p hp => ?_⟩⟩⟩⟩
      have hS5 := hS4.junk (o := .lst [V.int n1, .int n2, .int n3]) hp
      refine ⟨p, [n1, n2, n3], rfl, SqL.of upd_same, fun xs' p2 hperm hsort hp2 => ?_⟩
      have hS7 := hS5.junk (o := .lst (xs'.map V.int)) hp2
      have hx3 : xs'.length = 3 := hperm.length_eq
      obtain ⟨low, amid, high, rfl⟩ : ∃ x y z, xs' = [x, y, z] := by
        match xs', hx3 with
        | [x, y, z], _ => exact ⟨x, y, z, rfl⟩
      have z1 : low ≤ amid := (List.pairwise_cons.mp hsort).1 _ (List.mem_cons_self ..)
      have z2 : amid ≤ high := (List.pairwise_cons.mp (List.pairwise_cons.mp hsort).2).1 _ (List.mem_cons_self ..)
      have v1 : low ≤ high := by omega
      have hin : ∀ x ∈ [low, amid, high], -(10 ^ 60) ≤ x ∧ x ≤ 10 ^ 60 := fun x hx => by
        have := hperm.mem_iff.mp hx
        simp only [List.mem_cons, List.not_mem_nil, or_false] at this
        rcases this with rfl | rfl | rfl
        · exact hnb _ m1
        · exact hnb _ m2
        · exact hnb _ m3
      obtain ⟨l1, l2⟩ := hin low (List.mem_cons_self ..)
      obtain ⟨g1, g2⟩ := hin high (List.mem_cons_of_mem _ (List.mem_cons_of_mem _ (List.mem_cons_self ..)))
      refine ⟨p2, _, rfl, SqL.of upd_same, rfl, _, _, rfl, _, _, rfl, _, _, rfl, rfl, ?_⟩
      dsimp only [gName, List.set_cons_succ, List.set_cons_zero]
      clear hS hS2 hS3 hS4 hS5
      have hcl := cnt_le (P := fitsAll rs) (a := low) (high - low + 1).toNat
      refine go_set (EvD.go (d := .int (cntP (fitsAll rs) low (high - low + 1).toNat : Nat)) (ed_lmany (ed_var rfl Bp) (ed_varI rfl) (ed_varI rfl) hpp f0 v1) .rfl' hS7 (fun v H8 hS8 => ?_))
      obtain rfl := hS8.int_of (List.mem_cons_self ..)
      replace hS8 := hS8.weaken (Δ' := [(V.ref pp, PyData.list (ps.map partD)), (.ref sp, .list (ns.map PyData.int)), (.ref av, scaleD rs)]) fun _ => List.mem_cons_of_mem _
      dsimp only [gName, List.set_cons_succ, List.set_cons_zero]
      refine go_set (EvD.go (d := .int (cntP (fitsAll rs) low (high - low + 1).toNat : Nat)) (ed_ite (ed_eqI (ed_varI rfl) (ed_varI rfl)) (fun _ => ed_manyK (ed_var rfl Bs) (ed_varI rfl) (ed_varI rfl) hOk v1) (fun _ => ed_many (ed_var rfl Bs) (ed_varI rfl) (ed_varI rfl) hOk v1)) .rfl' hS8 (fun v H9 hS9 => ?_))
      obtain rfl := hS9.int_of (List.mem_cons_self ..)
      replace hS9 := hS9.weaken (Δ' := [(V.ref pp, PyData.list (ps.map partD)), (.ref sp, .list (ns.map PyData.int)), (.ref av, scaleD rs)]) fun _ => List.mem_cons_of_mem _
      dsimp only [gName, List.set_cons_succ, List.set_cons_zero]
      have sm2 : Sm 1147 1 (.list [PyData.int (cntP (fitsAll rs) low (high - low + 1).toNat : Nat), .int (cntP (fitsAll rs) low (high - low + 1).toNat : Nat)]) := (sm_list (n := 570) (k := 0) fun x hx => by
        simp only [List.mem_cons, List.not_mem_nil, or_false] at hx
        rcases hx with rfl | rfl <;> exact sm_intN (by omega)).mono (by show 2 * (570 + 2) + 3 ≤ 1147; decide) (Nat.le_refl _)
      refine go_if (EvD.test (b := !decide ((PyData.list [PyData.int (cntP (fitsAll rs) low (high - low + 1).toNat : Nat), .int (cntP (fitsAll rs) low (high - low + 1).toNat : Nat)]).shown = (PyData.list [PyData.int (cntP (fitsAll rs) low (high - low + 1).toNat : Nat), .int (cntP (fitsAll rs) low (high - low + 1).toNat : Nat)]).shown))
        (ed_neS (ed_repr (ed_lst (eds_cons (ed_varI rfl) (eds_cons (ed_many (ed_var rfl Bs) (ed_varI rfl) (ed_varI rfl) hOk v1) eds_nil)) (by show 2 ≤ 10000; decide)) trivial sm2 (by decide) (by decide))
          (ed_repr (ed_lst (eds_cons (ed_varI rfl) (eds_cons (ed_varI rfl) eds_nil)) (by show 2 ≤ 10000; decide)) trivial sm2 (by decide) (by decide))) .rfl' hS9 (fun H9 hS10 => ?_))
      rw [decide_eq_true rfl]
      refine iteF ?_
      refine go_next ?_
      dsimp only [gName, List.set_cons_succ, List.set_cons_zero]
      have hz : ¬ amid < high → (high - (amid + 1) + 1).toNat = 0 := fun h => by omega
      refine go_set (EvD.go (B := [(V.ref pp, PyData.list (ps.map partD)), (.ref sp, .list (ns.map PyData.int)), (.ref av, scaleD rs)]) (d := .int (cntP (fitsAll rs) (amid + 1) (high - (amid + 1) + 1).toNat : Nat)) (ed_ite (b := decide (amid < high)) (ed_ltI (ed_varI rfl) (ed_varI rfl)) (fun h => ed_many (ed_var rfl Bs) (ed_I0 (ed_varI rfl) ed_int) (ed_varI rfl) hOk (by have := of_decide_eq_true h; omega)) (fun h => ?_)) .rfl' hS10 (fun v H11 hS14 => ?_))
      · rw [hz (of_decide_eq_false h)]
        exact ed_int
      obtain rfl := hS14.int_of (List.mem_cons_self ..)
      replace hS14 := hS14.weaken (Δ' := [(V.ref pp, PyData.list (ps.map partD)), (.ref sp, .list (ns.map PyData.int)), (.ref av, scaleD rs)]) fun _ => List.mem_cons_of_mem _
      dsimp only [gName, List.set_cons_succ, List.set_cons_zero]
      have esum : ((cntP (fitsAll rs) low (amid - low + 1).toNat : Nat) : Int) + ((cntP (fitsAll rs) (amid + 1) (high - (amid + 1) + 1).toNat : Nat) : Int) = (cntP (fitsAll rs) low (high - low + 1).toNat : Nat) := by
        rw [show (high - low + 1).toNat = (amid - low + 1).toNat + (high - (amid + 1) + 1).toNat by omega, cnt_add, Int.natCast_add, show low + ((amid - low + 1).toNat : Int) = amid + 1 by omega]
      refine go_if (EvD.test (b := !decide (((cntP (fitsAll rs) low (amid - low + 1).toNat : Nat) : Int) + ((cntP (fitsAll rs) (amid + 1) (high - (amid + 1) + 1).toNat : Nat) : Int) = (cntP (fitsAll rs) low (high - low + 1).toNat : Nat)))
        (ed_neI (ed_I0 (ed_many (ed_var rfl Bs) (ed_varI rfl) (ed_varI rfl) hOk z1) (ed_varI rfl)) (ed_varI rfl)) .rfl' hS14 (fun H12 hS15 => ?_))
      rw [decide_eq_true esum]
      exact iteF ⟨_, _, _, _, _, _, _, _, rfl, hS15⟩
    obtain ⟨y7, y8, y9, y10, y11, y12, y13, y14, rfl, hS⟩ := hP
    dsimp only [gName, List.set_cons_succ, List.set_cons_zero]
    obtain ⟨xs0, hL0, hx0⟩ := hS.lenL mN
    refine go_for (go_walkEL ⟨_, rfl, sp, xs0, rfl, hL0, for_it (n := ns.length) walkEL (fun k σ H => ∃ y7 y8 y9 y10 y11 y12 y13 y14 : Option V, σ = [some (.ref a0), some (.ref d), some (.int (0 + (i : Int))), some (.ref av), some (.ref pp), some (.ref sp), some (.str (scaleD rs).shown), y7, y8, y9, y10, y11, y12, y13, y14] ∧
        St K H (some (d, l)) [] [(V.ref pp, PyData.list (ps.map partD)), (.ref sp, .list (ns.map PyData.int)), (.ref av, scaleD rs)])
      ⟨_, _, _, _, _, _, _, _, rfl, hS⟩ (fun k σ H _ hP => ?_) (fun k x σ H H' hk hP hy => ?_) (fun σ H hP => ?_)⟩)
    · obtain ⟨_, _, _, _, _, _, _, _, _, hS⟩ := hP
      obtain ⟨xs, h1, h3⟩ := hS.lenL mN
      exact ⟨xs, h1, by rw [h3, List.length_map]⟩
    · obtain ⟨y7, y8, y9, y10, y11, y12, y13, y14, rfl, hS⟩ := hP
      obtain ⟨T, x, rfl, hT, rfl, ff⟩ := hy
      obtain ⟨dd, e1, hS1⟩ := hS.turnL mN ff
      rw [List.getElem?_map, List.getElem?_eq_getElem hk] at e1
      cases Option.some.inj e1
      obtain rfl := hS1.int_of (List.mem_cons_self ..)
      obtain ⟨n1, n2⟩ := hnb _ (List.getElem_mem hk)
      have hS2 := (hS1.enumd (i := k) hT).weaken (Δ' := [(V.ref pp, PyData.list (ps.map partD)), (.ref sp, .list (ns.map PyData.int)), (.ref av, scaleD rs)]) fun _ => List.mem_cons_of_mem _
      refine ⟨T, _, rfl, SqT.of upd_same, rfl, _, _, rfl, _, _, rfl, rfl, ?_⟩
      revert hS2
      generalize upd H T (.tup [.int (k : Nat), .int ns[k]]) = H7
      generalize ns[k] = n at n1 n2
      intro hS2
      dsimp only [gName, List.set_cons_succ, List.set_cons_zero]
      obtain ⟨o, ho⟩ := least_ex (fitsAll rs) n
      have hn : n.natAbs < 2 ^ 8000 := by omega
      refine go_set (EvD.go (d := optD o) (ed_lnext (ed_var rfl Bp) (ed_varI rfl) hpp f0 hpl hn ho) .rfl' hS2 (fun v H8 hS8 => ?_))
      obtain rfl := is_opt hS8 (.of (List.mem_cons_self ..))
      replace hS8 := hS8.weaken (Δ' := [(V.ref pp, PyData.list (ps.map partD)), (.ref sp, .list (ns.map PyData.int)), (.ref av, scaleD rs)]) fun _ => List.mem_cons_of_mem _
      dsimp only [gName, List.set_cons_succ, List.set_cons_zero]
      refine go_set (EvD.go (d := optD o) (ed_ite (ed_eqI (ed_varI rfl) (ed_varI rfl)) (fun _ => ed_fromK (ed_var rfl Bs) (ed_varI rfl) hOk hn ho) (fun _ => ed_from (ed_var rfl Bs) (ed_varI rfl) hOk hn ho)) .rfl' hS8 (fun v H9 hS9 => ?_))
      obtain rfl := is_opt hS9 (.of (List.mem_cons_self ..))
      replace hS9 := hS9.weaken (Δ' := [(V.ref pp, PyData.list (ps.map partD)), (.ref sp, .list (ns.map PyData.int)), (.ref av, scaleD rs)]) fun _ => List.mem_cons_of_mem _
      dsimp only [gName, List.set_cons_succ, List.set_cons_zero]
      have smo : Sm 570 0 (optD o) := by
        cases o with
        | none => exact sm_non.mono (by decide) (Nat.le_refl _)
        | some m =>
          have g1 := least_high hSt h3 n2 ho
          have g2 := ho.1
          exact sm_intN (by omega)
      have sm2 : Sm 1147 1 (.list [optD o, optD o]) := (sm_list (n := 570) (k := 0) fun x hx => by
        simp only [List.mem_cons, List.not_mem_nil, or_false] at hx
        rcases hx with rfl | rfl <;> exact smo).mono (by show 2 * (570 + 2) + 3 ≤ 1147; decide) (Nat.le_refl _)
      refine go_if (EvD.test (b := !decide ((PyData.list [optD o, optD o]).shown = (PyData.list [optD o, optD o]).shown)) (B := [(V.ref pp, PyData.list (ps.map partD)), (.ref sp, .list (ns.map PyData.int)), (.ref av, scaleD rs)])
        (ed_neS (ed_repr (ed_lst (eds_cons (ed_var rfl dv_opt) (eds_cons (ed_from (ed_var rfl Bs) (ed_varI rfl) hOk hn ho) eds_nil)) (by show 2 ≤ 10000; decide)) trivial sm2 (by decide) (by decide))
          (ed_repr (ed_lst (eds_cons (ed_var rfl dv_opt) (eds_cons (ed_var rfl dv_opt) eds_nil)) (by show 2 ≤ 10000; decide)) trivial sm2 (by decide) (by decide))) .rfl' hS9 (fun H9 hS10 => ?_))
      rw [decide_eq_true rfl]
      refine iteF ?_
      refine go_next ?_
      dsimp only [gName, List.set_cons_succ, List.set_cons_zero]
      cases o with
      | none =>
        refine go_if (go_and ⟨_, rfl, rfl, _, rfl, iteF (iteF ?_)⟩)
        refine go_next ?_
        dsimp only [gName, List.set_cons_succ, List.set_cons_zero]
        refine go_if (go_and ⟨_, rfl, rfl, _, rfl, iteF (iteF ?_)⟩)
        exact ⟨_, _, _, _, _, _, _, _, rfl, hS10⟩
      | some m =>
        have ho' := ho
        obtain ⟨o1, o2, o3⟩ := ho'
        refine go_if (go_and ⟨_, rfl, rfl, _, rfl, iteT ?_⟩)
        refine go_or ⟨_, rfl, _, rfl, _, _, rfl, rfl, _, rfl, ifn (by rw [decide_eq_true_eq]; omega) ?_⟩
        refine go_or (go_not (EvD.test (b := fitsAll rs m) (B := [(V.ref pp, PyData.list (ps.map partD)), (.ref sp, .list (ns.map PyData.int)), (.ref av, scaleD rs)]) (ed_lfits (ed_var rfl Bs) (ed_varI rfl) h2) .rfl' hS10 (fun H10 hS11 => ?_)))
        rw [o2]
        refine iteF (EvD.test (b := !decide (fitsAll rs m = true)) (B := [(V.ref pp, PyData.list (ps.map partD)), (.ref sp, .list (ns.map PyData.int)), (.ref av, scaleD rs)]) (ed_notB (ed_fits (ed_var rfl Bs) (ed_varI rfl) h2) ed_bl) .rfl' hS11 (fun H11 hS12 => ?_))
        rw [decide_eq_true o2]
        refine iteF ?_
        refine go_next ?_
        dsimp only [gName, List.set_cons_succ, List.set_cons_zero]
        refine go_if (go_and ⟨_, rfl, rfl, _, rfl, iteT ?_⟩)
        refine go_and (go_test ⟨_, rfl, _, rfl, _, _, rfl, rfl, _, rfl, ite2 (fun e => ?_) (fun e => ?_)⟩)
        · refine ⟨_, _, rfl, rfl, ⟨by decide, by decide⟩, _, _, rfl, rfl, _, rfl, ite2 (fun e2 => ?_) (fun e2 => ?_)⟩
          · refine EvD.test (b := !decide (((cntP (fitsAll rs) n (m - n + 1).toNat : Nat) : Int) = 1)) (B := [(V.ref pp, PyData.list (ps.map partD)), (.ref sp, .list (ns.map PyData.int)), (.ref av, scaleD rs)]) (ed_neI (ed_many (ed_var rfl Bs) (ed_varI rfl) (ed_varI rfl) hOk o1) ed_int) .rfl' hS12 (fun H12 hS13 => ?_)
            rw [count_one ho]
            exact iteF ⟨_, _, _, _, _, _, _, _, rfl, hS13⟩
          · exact iteF ⟨_, _, _, _, _, _, _, _, rfl, hS12⟩
        · exact ⟨_, rfl, iteF (iteF ⟨_, _, _, _, _, _, _, _, rfl, hS12⟩)⟩
    · obtain ⟨y7, y8, y9, y10, y11, y12, y13, y14, rfl, hS⟩ := hP
      refine go_if (EvD.test (b := !decide ((scaleD rs).shown = (scaleD rs).shown)) (B := [(V.ref pp, PyData.list (ps.map partD)), (.ref sp, .list (ns.map PyData.int)), (.ref av, scaleD rs)])
        (ed_neS (ed_repr (ed_var rfl Bs) trivial (sm_scale hOk) (by decide) (by decide)) (ed_var rfl (.str _))) .rfl' hS (fun H9 hS12 => ?_))
      rw [decide_eq_true rfl]
      refine iteF ?_
      exact ⟨_, _, _, _, _, _, _, _, _, _, _, _, _, rfl, hS12.weaken fun _ h => nomatch h⟩

end
theorem all_mk {l : PySem.W.OpenLaw} {w : World} {K : PySem.W.Frag} {h : Heap} {mg : Str → Option Value} {fa : Addr} (X : K.In h) (G : h.Ns mainGlobals mg) (hfa : mg "law" = some (.ref fa))
    {f0 : Addr} {od0 an0 : Option Addr} {sl0 : Array (Option Value)} {oc0 kV0 dc0 pm0 cd0 ct0 : Value}
    {f1 : Addr} {od1 an1 : Option Addr} {sl1 : Array (Option Value)} {oc1 kV1 dc1 pm1 cd1 ct1 : Value}
    {f2 : Addr} {od2 an2 : Option Addr} {sl2 : Array (Option Value)} {oc2 kV2 dc2 pm2 cd2 ct2 : Value}
    {f3 : Addr} {od3 an3 : Option Addr} {sl3 : Array (Option Value)} {oc3 kV3 dc3 pm3 cd3 ct3 : Value}
    {f4 : Addr} {od4 an4 : Option Addr} {sl4 : Array (Option Value)} {oc4 kV4 dc4 pm4 cd4 ct4 : Value}
    {f5 : Addr} {od5 an5 : Option Addr} {sl5 : Array (Option Value)} {oc5 kV5 dc5 pm5 cd5 ct5 : Value}
    {f6 : Addr} {od6 an6 : Option Addr} {sl6 : Array (Option Value)} {oc6 kV6 dc6 pm6 cd6 ct6 : Value}
    {f7 : Addr} {od7 an7 : Option Addr} {sl7 : Array (Option Value)} {oc7 kV7 dc7 pm7 cd7 ct7 : Value}
    {f8 : Addr} {od8 an8 : Option Addr} {sl8 : Array (Option Value)} {oc8 kV8 dc8 pm8 cd8 ct8 : Value}
    {f9 : Addr} {od9 an9 : Option Addr} {sl9 : Array (Option Value)} {oc9 kV9 dc9 pm9 cd9 ct9 : Value}
    {f10 : Addr} {od10 an10 : Option Addr} {sl10 : Array (Option Value)} {oc10 kV10 dc10 pm10 cd10 ct10 : Value}
    {f11 : Addr} {od11 an11 : Option Addr} {sl11 : Array (Option Value)} {oc11 kV11 dc11 pm11 cd11 ct11 : Value}
    {f12 : Addr} {od12 an12 : Option Addr} {sl12 : Array (Option Value)} {oc12 kV12 dc12 pm12 cd12 ct12 : Value}
    {f13 : Addr} {od13 an13 : Option Addr} {sl13 : Array (Option Value)} {oc13 kV13 dc13 pm13 cd13 ct13 : Value}
    {f14 : Addr} {od14 an14 : Option Addr} {sl14 : Array (Option Value)} {oc14 kV14 dc14 pm14 cd14 ct14 : Value}
    {f15 : Addr} {od15 an15 : Option Addr} {sl15 : Array (Option Value)} {oc15 kV15 dc15 pm15 cd15 ct15 : Value}
    {f16 : Addr} {od16 an16 : Option Addr} {sl16 : Array (Option Value)} {oc16 kV16 dc16 pm16 cd16 ct16 : Value}
    {f17 : Addr} {od17 an17 : Option Addr} {sl17 : Array (Option Value)} {oc17 kV17 dc17 pm17 cd17 ct17 : Value}
    {f18 : Addr} {od18 an18 : Option Addr} {sl18 : Array (Option Value)} {oc18 kV18 dc18 pm18 cd18 ct18 : Value}
    {f19 : Addr} {od19 an19 : Option Addr} {sl19 : Array (Option Value)} {oc19 kV19 dc19 pm19 cd19 ct19 : Value}
    {f20 : Addr} {od20 an20 : Option Addr} {sl20 : Array (Option Value)} {oc20 kV20 dc20 pm20 cd20 ct20 : Value}
    {f21 : Addr} {od21 an21 : Option Addr} {sl21 : Array (Option Value)} {oc21 kV21 dc21 pm21 cd21 ct21 : Value}
    {f22 : Addr} {od22 an22 : Option Addr} {sl22 : Array (Option Value)} {oc22 kV22 dc22 pm22 cd22 ct22 : Value}
    {f23 : Addr} {od23 an23 : Option Addr} {sl23 : Array (Option Value)} {oc23 kV23 dc23 pm23 cd23 ct23 : Value}
    {f24 : Addr} {od24 an24 : Option Addr} {sl24 : Array (Option Value)} {oc24 kV24 dc24 pm24 cd24 ct24 : Value}
    {f25 : Addr} {od25 an25 : Option Addr} {sl25 : Array (Option Value)} {oc25 kV25 dc25 pm25 cd25 ct25 : Value}
    {f26 : Addr} {od26 an26 : Option Addr} {sl26 : Array (Option Value)} {oc26 kV26 dc26 pm26 cd26 ct26 : Value}
    {f27 : Addr} {od27 an27 : Option Addr} {sl27 : Array (Option Value)} {oc27 kV27 dc27 pm27 cd27 ct27 : Value}
    (a0 : PySem.W.nsIn K mainGlobals "fits_rule" = some (some (.ref f0))) (l0 : K.lookup f0 = some ⟨oc0, od0, .func (PySem.W.fnOf "fits_rule" "fits_rule" (defArgs sfits_rule) (defBody sfits_rule) (defScope sfits_rule) .none kV0 dc0 pm0 an0 cd0 ct0), sl0⟩) (c0 : PySem.W.codeIn K cd0 "fits_rule" = true) (k0 : PySem.W.keepIn K (.ref f0) = true)
    (a1 : PySem.W.nsIn K mainGlobals "broken" = some (some (.ref f1))) (l1 : K.lookup f1 = some ⟨oc1, od1, .func (PySem.W.fnOf "broken" "broken" (defArgs sbroken) (defBody sbroken) (defScope sbroken) .none kV1 dc1 pm1 an1 cd1 ct1), sl1⟩) (c1 : PySem.W.codeIn K cd1 "broken" = true) (k1 : PySem.W.keepIn K (.ref f1) = true)
    (a2 : PySem.W.nsIn K mainGlobals "fits" = some (some (.ref f2))) (l2 : K.lookup f2 = some ⟨oc2, od2, .func (PySem.W.fnOf "fits" "fits" (defArgs sfits) (defBody sfits) (defScope sfits) .none kV2 dc2 pm2 an2 cd2 ct2), sl2⟩) (c2 : PySem.W.codeIn K cd2 "fits" = true) (k2 : PySem.W.keepIn K (.ref f2) = true)
    (a3 : PySem.W.nsIn K mainGlobals "stretches" = some (some (.ref f3))) (l3 : K.lookup f3 = some ⟨oc3, od3, .func (PySem.W.fnOf "stretches" "stretches" (defArgs sstretches) (defBody sstretches) (defScope sstretches) .none kV3 dc3 pm3 an3 cd3 ct3), sl3⟩) (c3 : PySem.W.codeIn K cd3 "stretches" = true) (k3 : PySem.W.keepIn K (.ref f3) = true)
    (a4 : PySem.W.nsIn K mainGlobals "first_multiple" = some (some (.ref f4))) (l4 : K.lookup f4 = some ⟨oc4, od4, .func (PySem.W.fnOf "first_multiple" "first_multiple" (defArgs sfirst_multiple) (defBody sfirst_multiple) (defScope sfirst_multiple) .none kV4 dc4 pm4 an4 cd4 ct4), sl4⟩) (c4 : PySem.W.codeIn K cd4 "first_multiple" = true) (k4 : PySem.W.keepIn K (.ref f4) = true)
    (a5 : PySem.W.nsIn K mainGlobals "lesser" = some (some (.ref f5))) (l5 : K.lookup f5 = some ⟨oc5, od5, .func (PySem.W.fnOf "lesser" "lesser" (defArgs slesser) (defBody slesser) (defScope slesser) .none kV5 dc5 pm5 an5 cd5 ct5), sl5⟩) (c5 : PySem.W.codeIn K cd5 "lesser" = true) (k5 : PySem.W.keepIn K (.ref f5) = true)
    (a6 : PySem.W.nsIn K mainGlobals "many_to" = some (some (.ref f6))) (l6 : K.lookup f6 = some ⟨oc6, od6, .func (PySem.W.fnOf "many_to" "many_to" (defArgs smany_to) (defBody smany_to) (defScope smany_to) .none kV6 dc6 pm6 an6 cd6 ct6), sl6⟩) (c6 : PySem.W.codeIn K cd6 "many_to" = true) (k6 : PySem.W.keepIn K (.ref f6) = true)
    (a7 : PySem.W.nsIn K mainGlobals "fitting_many" = some (some (.ref f7))) (l7 : K.lookup f7 = some ⟨oc7, od7, .func (PySem.W.fnOf "fitting_many" "fitting_many" (defArgs sfitting_many) (defBody sfitting_many) (defScope sfitting_many) .none kV7 dc7 pm7 an7 cd7 ct7), sl7⟩) (c7 : PySem.W.codeIn K cd7 "fitting_many" = true) (k7 : PySem.W.keepIn K (.ref f7) = true)
    (a8 : PySem.W.nsIn K mainGlobals "least_from" = some (some (.ref f8))) (l8 : K.lookup f8 = some ⟨oc8, od8, .func (PySem.W.fnOf "least_from" "least_from" (defArgs sleast_from) (defBody sleast_from) (defScope sleast_from) .none kV8 dc8 pm8 an8 cd8 ct8), sl8⟩) (c8 : PySem.W.codeIn K cd8 "least_from" = true) (k8 : PySem.W.keepIn K (.ref f8) = true)
    (a9 : PySem.W.nsIn K mainGlobals "greatest_to" = some (some (.ref f9))) (l9 : K.lookup f9 = some ⟨oc9, od9, .func (PySem.W.fnOf "greatest_to" "greatest_to" (defArgs sgreatest_to) (defBody sgreatest_to) (defScope sgreatest_to) .none kV9 dc9 pm9 an9 cd9 ct9), sl9⟩) (c9 : PySem.W.codeIn K cd9 "greatest_to" = true) (k9 : PySem.W.keepIn K (.ref f9) = true)
    (a10 : PySem.W.nsIn K mainGlobals "fitting_from" = some (some (.ref f10))) (l10 : K.lookup f10 = some ⟨oc10, od10, .func (PySem.W.fnOf "fitting_from" "fitting_from" (defArgs sfitting_from) (defBody sfitting_from) (defScope sfitting_from) .none kV10 dc10 pm10 an10 cd10 ct10), sl10⟩) (c10 : PySem.W.codeIn K cd10 "fitting_from" = true) (k10 : PySem.W.keepIn K (.ref f10) = true)
    (a11 : PySem.W.nsIn K mainGlobals "_law_mixed" = some (some (.ref f11))) (l11 : K.lookup f11 = some ⟨oc11, od11, .func (PySem.W.fnOf "_law_mixed" "_law_mixed" (defArgs s_law_mixed) (defBody s_law_mixed) (defScope s_law_mixed) .none kV11 dc11 pm11 an11 cd11 ct11), sl11⟩) (c11 : PySem.W.codeIn K cd11 "_law_mixed" = true) (k11 : PySem.W.keepIn K (.ref f11) = true)
    (a12 : PySem.W.nsIn K mainGlobals "_law_divisor" = some (some (.ref f12))) (l12 : K.lookup f12 = some ⟨oc12, od12, .func (PySem.W.fnOf "_law_divisor" "_law_divisor" (defArgs s_law_divisor) (defBody s_law_divisor) (defScope s_law_divisor) .none kV12 dc12 pm12 an12 cd12 ct12), sl12⟩) (c12 : PySem.W.codeIn K cd12 "_law_divisor" = true) (k12 : PySem.W.keepIn K (.ref f12) = true)
    (a13 : PySem.W.nsIn K mainGlobals "_law_multiple" = some (some (.ref f13))) (l13 : K.lookup f13 = some ⟨oc13, od13, .func (PySem.W.fnOf "_law_multiple" "_law_multiple" (defArgs s_law_multiple) (defBody s_law_multiple) (defScope s_law_multiple) .none kV13 dc13 pm13 an13 cd13 ct13), sl13⟩) (c13 : PySem.W.codeIn K cd13 "_law_multiple" = true) (k13 : PySem.W.keepIn K (.ref f13) = true)
    (a14 : PySem.W.nsIn K mainGlobals "_law_fits" = some (some (.ref f14))) (l14 : K.lookup f14 = some ⟨oc14, od14, .func (PySem.W.fnOf "_law_fits" "_law_fits" (defArgs s_law_fits) (defBody s_law_fits) (defScope s_law_fits) .none kV14 dc14 pm14 an14 cd14 ct14), sl14⟩) (c14 : PySem.W.codeIn K cd14 "_law_fits" = true) (k14 : PySem.W.keepIn K (.ref f14) = true)
    (a15 : PySem.W.nsIn K mainGlobals "_law_raised" = some (some (.ref f15))) (l15 : K.lookup f15 = some ⟨oc15, od15, .func (PySem.W.fnOf "_law_raised" "_law_raised" (defArgs s_law_raised) (defBody s_law_raised) (defScope s_law_raised) .none kV15 dc15 pm15 an15 cd15 ct15), sl15⟩) (c15 : PySem.W.codeIn K cd15 "_law_raised" = true) (k15 : PySem.W.keepIn K (.ref f15) = true)
    (a16 : PySem.W.nsIn K mainGlobals "_law_deck" = some (some (.ref f16))) (l16 : K.lookup f16 = some ⟨oc16, od16, .func (PySem.W.fnOf "_law_deck" "_law_deck" (defArgs s_law_deck) (defBody s_law_deck) (defScope s_law_deck) .none kV16 dc16 pm16 an16 cd16 ct16), sl16⟩) (c16 : PySem.W.codeIn K cd16 "_law_deck" = true) (k16 : PySem.W.keepIn K (.ref f16) = true)
    (a17 : PySem.W.nsIn K mainGlobals "_law_draw" = some (some (.ref f17))) (l17 : K.lookup f17 = some ⟨oc17, od17, .func (PySem.W.fnOf "_law_draw" "_law_draw" (defArgs s_law_draw) (defBody s_law_draw) (defScope s_law_draw) .none kV17 dc17 pm17 an17 cd17 ct17), sl17⟩) (c17 : PySem.W.codeIn K cd17 "_law_draw" = true) (k17 : PySem.W.keepIn K (.ref f17) = true)
    (a18 : PySem.W.nsIn K mainGlobals "_law_pick" = some (some (.ref f18))) (l18 : K.lookup f18 = some ⟨oc18, od18, .func (PySem.W.fnOf "_law_pick" "_law_pick" (defArgs s_law_pick) (defBody s_law_pick) (defScope s_law_pick) .none kV18 dc18 pm18 an18 cd18 ct18), sl18⟩) (c18 : PySem.W.codeIn K cd18 "_law_pick" = true) (k18 : PySem.W.keepIn K (.ref f18) = true)
    (a19 : PySem.W.nsIn K mainGlobals "_law_step" = some (some (.ref f19))) (l19 : K.lookup f19 = some ⟨oc19, od19, .func (PySem.W.fnOf "_law_step" "_law_step" (defArgs s_law_step) (defBody s_law_step) (defScope s_law_step) .none kV19 dc19 pm19 an19 cd19 ct19), sl19⟩) (c19 : PySem.W.codeIn K cd19 "_law_step" = true) (k19 : PySem.W.keepIn K (.ref f19) = true)
    (a20 : PySem.W.nsIn K mainGlobals "_law_kinds" = some (some (.ref f20))) (l20 : K.lookup f20 = some ⟨oc20, od20, .func (PySem.W.fnOf "_law_kinds" "_law_kinds" (defArgs s_law_kinds) (defBody s_law_kinds) (defScope s_law_kinds) .none kV20 dc20 pm20 an20 cd20 ct20), sl20⟩) (c20 : PySem.W.codeIn K cd20 "_law_kinds" = true) (k20 : PySem.W.keepIn K (.ref f20) = true)
    (a21 : PySem.W.nsIn K mainGlobals "_law_great" = some (some (.ref f21))) (l21 : K.lookup f21 = some ⟨oc21, od21, .func (PySem.W.fnOf "_law_great" "_law_great" (defArgs s_law_great) (defBody s_law_great) (defScope s_law_great) .none kV21 dc21 pm21 an21 cd21 ct21), sl21⟩) (c21 : PySem.W.codeIn K cd21 "_law_great" = true) (k21 : PySem.W.keepIn K (.ref f21) = true)
    (a22 : PySem.W.nsIn K mainGlobals "_law_parts" = some (some (.ref f22))) (l22 : K.lookup f22 = some ⟨oc22, od22, .func (PySem.W.fnOf "_law_parts" "_law_parts" (defArgs s_law_parts) (defBody s_law_parts) (defScope s_law_parts) .none kV22 dc22 pm22 an22 cd22 ct22), sl22⟩) (c22 : PySem.W.codeIn K cd22 "_law_parts" = true) (k22 : PySem.W.keepIn K (.ref f22) = true)
    (a23 : PySem.W.nsIn K mainGlobals "_law_above" = some (some (.ref f23))) (l23 : K.lookup f23 = some ⟨oc23, od23, .func (PySem.W.fnOf "_law_above" "_law_above" (defArgs s_law_above) (defBody s_law_above) (defScope s_law_above) .none kV23 dc23 pm23 an23 cd23 ct23), sl23⟩) (c23 : PySem.W.codeIn K cd23 "_law_above" = true) (k23 : PySem.W.keepIn K (.ref f23) = true)
    (a24 : PySem.W.nsIn K mainGlobals "_law_many" = some (some (.ref f24))) (l24 : K.lookup f24 = some ⟨oc24, od24, .func (PySem.W.fnOf "_law_many" "_law_many" (defArgs s_law_many) (defBody s_law_many) (defScope s_law_many) .none kV24 dc24 pm24 an24 cd24 ct24), sl24⟩) (c24 : PySem.W.codeIn K cd24 "_law_many" = true) (k24 : PySem.W.keepIn K (.ref f24) = true)
    (a25 : PySem.W.nsIn K mainGlobals "_law_next" = some (some (.ref f25))) (l25 : K.lookup f25 = some ⟨oc25, od25, .func (PySem.W.fnOf "_law_next" "_law_next" (defArgs s_law_next) (defBody s_law_next) (defScope s_law_next) .none kV25 dc25 pm25 an25 cd25 ct25), sl25⟩) (c25 : PySem.W.codeIn K cd25 "_law_next" = true) (k25 : PySem.W.keepIn K (.ref f25) = true)
    (a26 : PySem.W.nsIn K mainGlobals "_law_spots" = some (some (.ref f26))) (l26 : K.lookup f26 = some ⟨oc26, od26, .func (PySem.W.fnOf "_law_spots" "_law_spots" (defArgs s_law_spots) (defBody s_law_spots) (defScope s_law_spots) .none kV26 dc26 pm26 an26 cd26 ct26), sl26⟩) (c26 : PySem.W.codeIn K cd26 "_law_spots" = true) (k26 : PySem.W.keepIn K (.ref f26) = true)
    (a27 : PySem.W.nsIn K mainGlobals "law" = some (some (.ref f27))) (l27 : K.lookup f27 = some ⟨oc27, od27, .func (PySem.W.fnOf "law" "law" (defArgs slaw) (defBody slaw) (defScope slaw) .none kV27 dc27 pm27 an27 cd27 ct27), sl27⟩) (c27 : PySem.W.codeIn K cd27 "law" = true) (k27 : PySem.W.keepIn K (.ref f27) = true)
    (glcm : PySem.W.nsIn K mainGlobals "lcm" = some (some (.builtin "math.lcm")))
    (hz : ∀ x : Str, bnames.contains x = true → PySem.W.nsIn K mainGlobals x = some none) :
    ∃ fd : FuncData, (∀ (s : Shared) (v : Value), BindsTo s fd ⟨[v], []⟩ [("script", v)]) ∧ ∀ base : Heap, K.In base → base.Ns mainGlobals mg → FnG l.prog w K mg base 5 fa fd ["script"] (splaw K) := by
  have e := hfa.symm.trans (PySem.W.mg_of X G a27)
  cases e
  have nb : NB mg bnames := fun x hx => PySem.W.mg_none_of X G (hz x hx)
  have F0 := fun_mk (st := sfits_rule) l0 c0 k0
  have b0 := F0.binds (ps := ["rule", "number"]) fun _ _ _ _ _ _ us hl => match us, hl with | [_, _], _ => rfl
  have F1 := fun_mk (st := sbroken) l1 c1 k1
  have b1 := F1.binds (ps := ["scale", "number"]) fun _ _ _ _ _ _ us hl => match us, hl with | [_, _], _ => rfl
  have F2 := fun_mk (st := sfits) l2 c2 k2
  have b2 := F2.binds (ps := ["scale", "number"]) fun _ _ _ _ _ _ us hl => match us, hl with | [_, _], _ => rfl
  have F3 := fun_mk (st := sstretches) l3 c3 k3
  have b3 := F3.binds (ps := ["scale"]) fun _ _ _ _ _ _ us hl => match us, hl with | [_], _ => rfl
  have F4 := fun_mk (st := sfirst_multiple) l4 c4 k4
  have b4 := F4.binds (ps := ["step", "low"]) fun _ _ _ _ _ _ us hl => match us, hl with | [_, _], _ => rfl
  have F5 := fun_mk (st := slesser) l5 c5 k5
  have b5 := F5.binds (ps := ["top", "high"]) fun _ _ _ _ _ _ us hl => match us, hl with | [_, _], _ => rfl
  have F6 := fun_mk (st := smany_to) l6 c6 k6
  have b6 := F6.binds (ps := ["scale", "top"]) fun _ _ _ _ _ _ us hl => match us, hl with | [_, _], _ => rfl
  have F7 := fun_mk (st := sfitting_many) l7 c7 k7
  have b7 := F7.binds (ps := ["scale", "low", "high"]) fun _ _ _ _ _ _ us hl => match us, hl with | [_, _, _], _ => rfl
  have F8 := fun_mk (st := sleast_from) l8 c8 k8
  have b8 := F8.binds (ps := ["scale", "number"]) fun _ _ _ _ _ _ us hl => match us, hl with | [_, _], _ => rfl
  have F9 := fun_mk (st := sgreatest_to) l9 c9 k9
  have b9 := F9.binds (ps := ["scale", "number"]) fun _ _ _ _ _ _ us hl => match us, hl with | [_, _], _ => rfl
  have F10 := fun_mk (st := sfitting_from) l10 c10 k10
  have b10 := F10.binds (ps := ["scale", "number"]) fun _ _ _ _ _ _ us hl => match us, hl with | [_, _], _ => rfl
  have F11 := fun_mk (st := s_law_mixed) l11 c11 k11
  have b11 := F11.binds (ps := ["deck", "items"]) fun _ _ _ _ _ _ us hl => match us, hl with | [_, _], _ => rfl
  have F12 := fun_mk (st := s_law_divisor) l12 c12 k12
  have b12 := F12.binds (ps := ["one", "other"]) fun _ _ _ _ _ _ us hl => match us, hl with | [_, _], _ => rfl
  have F13 := fun_mk (st := s_law_multiple) l13 c13 k13
  have b13 := F13.binds (ps := ["steps"]) fun _ _ _ _ _ _ us hl => match us, hl with | [_], _ => rfl
  have F14 := fun_mk (st := s_law_fits) l14 c14 k14
  have b14 := F14.binds (ps := ["scale", "number"]) fun _ _ _ _ _ _ us hl => match us, hl with | [_, _], _ => rfl
  have F15 := fun_mk (st := s_law_raised) l15 c15 k15
  have b15 := F15.binds (ps := ["base", "times"]) fun _ _ _ _ _ _ us hl => match us, hl with | [_, _], _ => rfl
  have F16 := fun_mk (st := s_law_deck) l16 c16 k16
  have b16 := F16.binds (ps := ["script"]) fun _ _ _ _ _ _ us hl => match us, hl with | [_], _ => rfl
  have F17 := fun_mk (st := s_law_draw) l17 c17 k17
  have b17 := F17.binds (ps := ["deck", "many"]) fun _ _ _ _ _ _ us hl => match us, hl with | [_, _], _ => rfl
  have F18 := fun_mk (st := s_law_pick) l18 c18 k18
  have b18 := F18.binds (ps := ["deck", "items"]) fun _ _ _ _ _ _ us hl => match us, hl with | [_, _], _ => rfl
  have F19 := fun_mk (st := s_law_step) l19 c19 k19
  have b19 := F19.binds (ps := ["deck", "kinds"]) fun _ _ _ _ _ _ us hl => match us, hl with | [_, _], _ => rfl
  have F20 := fun_mk (st := s_law_kinds) l20 c20 k20
  have b20 := F20.binds (ps := ["deck"]) fun _ _ _ _ _ _ us hl => match us, hl with | [_], _ => rfl
  have F21 := fun_mk (st := s_law_great) l21 c21 k21
  have b21 := F21.binds (ps := ["deck", "most"]) fun _ _ _ _ _ _ us hl => match us, hl with | [_, _], _ => rfl
  have F22 := fun_mk (st := s_law_parts) l22 c22 k22
  have b22 := F22.binds (ps := ["scale"]) fun _ _ _ _ _ _ us hl => match us, hl with | [_], _ => rfl
  have F23 := fun_mk (st := s_law_above) l23 c23 k23
  have b23 := F23.binds (ps := ["parts", "low", "high"]) fun _ _ _ _ _ _ us hl => match us, hl with | [_, _, _], _ => rfl
  have F24 := fun_mk (st := s_law_many) l24 c24 k24
  have b24 := F24.binds (ps := ["parts", "low", "high"]) fun _ _ _ _ _ _ us hl => match us, hl with | [_, _, _], _ => rfl
  have F25 := fun_mk (st := s_law_next) l25 c25 k25
  have b25 := F25.binds (ps := ["parts", "number"]) fun _ _ _ _ _ _ us hl => match us, hl with | [_, _], _ => rfl
  have F26 := fun_mk (st := s_law_spots) l26 c26 k26
  have b26 := F26.binds (ps := ["deck", "scale"]) fun _ _ _ _ _ _ us hl => match us, hl with | [_, _], _ => rfl
  have F27 := fun_mk (st := slaw) l27 c27 k27
  refine ⟨PySem.W.fnOf "law" "law" (defArgs slaw) (defBody slaw) (defScope slaw) .none kV27 dc27 pm27 an27 cd27 ct27, fun s v => .of_eq rfl, fun base _ _ => ?_⟩
  have D_law_deck : Fd l.prog w K mg base "_law_deck" 1 ["script"] (sp_law_deck K) := .mk' F16 (ok_law_deck F16 nb    ) (PySem.W.mg_of X G a16) b16
  have D_law_fits : Fd l.prog w K mg base "_law_fits" 1 ["scale", "number"] (sp_law_fits K) := .mk' F14 (ok_law_fits F14 nb    ) (PySem.W.mg_of X G a14) b14
  have D_law_draw : Fd l.prog w K mg base "_law_draw" 1 ["deck", "many"] (sp_law_draw K) := .mk' F17 (ok_law_draw F17 nb    ) (PySem.W.mg_of X G a17) b17
  have D_law_pick : Fd l.prog w K mg base "_law_pick" 2 ["deck", "items"] (sp_law_pick K) := .mk' F18 (ok_law_pick F18 nb D_law_draw   ) (PySem.W.mg_of X G a18) b18
  have D_law_kinds : Fd l.prog w K mg base "_law_kinds" 3 ["deck"] (sp_law_kinds K) := .mk' F20 (ok_law_kinds F20 nb D_law_pick   ) (PySem.W.mg_of X G a20) b20
  have D_law_mixed : Fd l.prog w K mg base "_law_mixed" 2 ["deck", "items"] (sp_law_mixed K) := .mk' F11 (ok_law_mixed F11 nb D_law_draw   ) (PySem.W.mg_of X G a11) b11
  have D_law_raised : Fd l.prog w K mg base "_law_raised" 1 ["base", "times"] (sp_law_raised K) := .mk' F15 (ok_law_raised F15 nb    ) (PySem.W.mg_of X G a15) b15
  have D_law_step : Fd l.prog w K mg base "_law_step" 3 ["deck", "kinds"] (sp_law_step K) := .mk' F19 (ok_law_step F19 nb D_law_draw D_law_pick D_law_raised   ) (PySem.W.mg_of X G a19) b19
  have D_law_great : Fd l.prog w K mg base "_law_great" 4 ["deck", "most"] (sp_law_great K) := .mk' F21 (ok_law_great F21 nb D_law_draw D_law_kinds D_law_mixed D_law_pick D_law_step   ) (PySem.W.mg_of X G a21) b21
  have D_law_above : Fd l.prog w K mg base "_law_above" 1 ["parts", "low", "high"] (sp_law_above K) := .mk' F23 (ok_law_above F23 nb    ) (PySem.W.mg_of X G a23) b23
  have D_law_many : Fd l.prog w K mg base "_law_many" 2 ["parts", "low", "high"] (sp_law_many K) := .mk' F24 (ok_law_many F24 nb D_law_above   ) (PySem.W.mg_of X G a24) b24
  have D_law_next : Fd l.prog w K mg base "_law_next" 1 ["parts", "number"] (sp_law_next K) := .mk' F25 (ok_law_next F25 nb    ) (PySem.W.mg_of X G a25) b25
  have D_law_divisor : Fd l.prog w K mg base "_law_divisor" 1 ["one", "other"] (sp_law_divisor K) := .mk' F12 (ok_law_divisor F12 nb    ) (PySem.W.mg_of X G a12) b12
  have D_law_multiple : Fd l.prog w K mg base "_law_multiple" 2 ["steps"] (sp_law_multiple K) := .mk' F13 (ok_law_multiple F13 nb D_law_divisor   ) (PySem.W.mg_of X G a13) b13
  have D_law_parts : Fd l.prog w K mg base "_law_parts" 3 ["scale"] (sp_law_parts K) := .mk' F22 (ok_law_parts F22 nb D_law_multiple   ) (PySem.W.mg_of X G a22) b22
  have D_law_spots : Fd l.prog w K mg base "_law_spots" 3 ["deck", "scale"] (sp_law_spots K) := .mk' F26 (ok_law_spots F26 nb D_law_draw D_law_pick   ) (PySem.W.mg_of X G a26) b26
  have Dfits_rule : Fd l.prog w K mg base "fits_rule" 1 ["rule", "number"] (spfits_rule K) := .mk' F0 (okfits_rule F0 nb    ) (PySem.W.mg_of X G a0) b0
  have Dbroken : Fd l.prog w K mg base "broken" 2 ["scale", "number"] (spbroken K) := .mk' F1 (okbroken F1 nb Dfits_rule   ) (PySem.W.mg_of X G a1) b1
  have Dfits : Fd l.prog w K mg base "fits" 3 ["scale", "number"] (spfits K) := .mk' F2 (okfits F2 nb Dbroken   ) (PySem.W.mg_of X G a2) b2
  have Dlesser : Fd l.prog w K mg base "lesser" 1 ["top", "high"] (splesser K) := .mk' F5 (oklesser F5 nb    ) (PySem.W.mg_of X G a5) b5
  have Dstretches : Fd l.prog w K mg base "stretches" 1 ["scale"] (spstretches K) := .mk' F3 (okstretches F3 nb    (PySem.W.mg_of X G glcm)) (PySem.W.mg_of X G a3) b3
  have Dgreatest_to : Fd l.prog w K mg base "greatest_to" 2 ["scale", "number"] (spgreatest_to K) := .mk' F9 (okgreatest_to F9 nb Dlesser Dstretches   ) (PySem.W.mg_of X G a9) b9
  have Dfirst_multiple : Fd l.prog w K mg base "first_multiple" 1 ["step", "low"] (spfirst_multiple K) := .mk' F4 (okfirst_multiple F4 nb    ) (PySem.W.mg_of X G a4) b4
  have Dleast_from : Fd l.prog w K mg base "least_from" 2 ["scale", "number"] (spleast_from K) := .mk' F8 (okleast_from F8 nb Dfirst_multiple Dstretches   ) (PySem.W.mg_of X G a8) b8
  have Dfitting_from : Fd l.prog w K mg base "fitting_from" 3 ["scale", "number"] (spfitting_from K) := .mk' F10 (okfitting_from F10 nb Dgreatest_to Dleast_from   ) (PySem.W.mg_of X G a10) b10
  have Efitting_from : Fk l.prog w K mg base "fitting_from" 3 ["scale", "number"] ["number", "scale"] (fun zs => zs.reverse) (spfitting_from K) := ⟨_, _, _, okfitting_from F10 nb Dgreatest_to Dleast_from   , PySem.W.mg_of X G a10, F10.kp, F10.kb fun _ _ _ _ _ _ us hl => match us, hl with | [_, _], _ => rfl⟩
  have Dmany_to : Fd l.prog w K mg base "many_to" 2 ["scale", "top"] (spmany_to K) := .mk' F6 (okmany_to F6 nb Dlesser Dstretches   ) (PySem.W.mg_of X G a6) b6
  have Dfitting_many : Fd l.prog w K mg base "fitting_many" 3 ["scale", "low", "high"] (spfitting_many K) := .mk' F7 (okfitting_many F7 nb Dmany_to   ) (PySem.W.mg_of X G a7) b7
  have Efitting_many : Fk l.prog w K mg base "fitting_many" 3 ["scale", "low", "high"] ["high", "low", "scale"] (fun zs => zs.reverse) (spfitting_many K) := ⟨_, _, _, okfitting_many F7 nb Dmany_to   , PySem.W.mg_of X G a7, F7.kp, F7.kb fun _ _ _ _ _ _ us hl => match us, hl with | [_, _, _], _ => rfl⟩
  exact oklaw F27 nb D_law_deck D_law_fits D_law_great D_law_many D_law_next D_law_parts D_law_pick D_law_spots Dfits Dfitting_from Dfitting_many Efitting_many Efitting_from  
end K04
open PySem PySem.W PyProof.Rows
set_option maxRecDepth 100000 in
set_option maxHeartbeats 0 in
theorem PySem.Challenge.cw_everyexact_k04_whole_great_stretches_holds : PySem.Challenge.rw_everyexact_k04_whole_great_stretches.Holds := by
  w_on; o_law; k_head; (case hw => w_witness2)
  k_fill
  refine EE.walk_ofG (l := PySem.Challenge.rw_everyexact_k04_whole_great_stretches) (n := 63) (k := 5) (x := "script") (sp := K04.splaw) rfl (by decide) rfl ⟨rfl, by decide, by decide⟩ (fun w h Y => PySem.W.kIn_of Y) ?F (fun K H a ns hl _ hS => ⟨a, ns, rfl, hS, hl, fun _ => rfl⟩)
  case F =>
    intro w mg fa h KX G hmg
    refine' K04.all_mk KX G hmg ?a0 ?l0 ?c0 ?k0 ?a1 ?l1 ?c1 ?k1 ?a2 ?l2 ?c2 ?k2 ?a3 ?l3 ?c3 ?k3 ?a4 ?l4 ?c4 ?k4 ?a5 ?l5 ?c5 ?k5 ?a6 ?l6 ?c6 ?k6 ?a7 ?l7 ?c7 ?k7 ?a8 ?l8 ?c8 ?k8 ?a9 ?l9 ?c9 ?k9 ?a10 ?l10 ?c10 ?k10 ?a11 ?l11 ?c11 ?k11 ?a12 ?l12 ?c12 ?k12 ?a13 ?l13 ?c13 ?k13 ?a14 ?l14 ?c14 ?k14 ?a15 ?l15 ?c15 ?k15 ?a16 ?l16 ?c16 ?k16 ?a17 ?l17 ?c17 ?k17 ?a18 ?l18 ?c18 ?k18 ?a19 ?l19 ?c19 ?k19 ?a20 ?l20 ?c20 ?k20 ?a21 ?l21 ?c21 ?k21 ?a22 ?l22 ?c22 ?k22 ?a23 ?l23 ?c23 ?k23 ?a24 ?l24 ?c24 ?k24 ?a25 ?l25 ?c25 ?k25 ?a26 ?l26 ?c26 ?k26 ?a27 ?l27 ?c27 ?k27  ?glcm ?hz
    (case a0 => k_is); (case l0 => k_is); (case c0 => k_is); (case k0 => k_is)
    (case a1 => k_is); (case l1 => k_is); (case c1 => k_is); (case k1 => k_is)
    (case a2 => k_is); (case l2 => k_is); (case c2 => k_is); (case k2 => k_is)
    (case a3 => k_is); (case l3 => k_is); (case c3 => k_is); (case k3 => k_is)
    (case a4 => k_is); (case l4 => k_is); (case c4 => k_is); (case k4 => k_is)
    (case a5 => k_is); (case l5 => k_is); (case c5 => k_is); (case k5 => k_is)
    (case a6 => k_is); (case l6 => k_is); (case c6 => k_is); (case k6 => k_is)
    (case a7 => k_is); (case l7 => k_is); (case c7 => k_is); (case k7 => k_is)
    (case a8 => k_is); (case l8 => k_is); (case c8 => k_is); (case k8 => k_is)
    (case a9 => k_is); (case l9 => k_is); (case c9 => k_is); (case k9 => k_is)
    (case a10 => k_is); (case l10 => k_is); (case c10 => k_is); (case k10 => k_is)
    (case a11 => k_is); (case l11 => k_is); (case c11 => k_is); (case k11 => k_is)
    (case a12 => k_is); (case l12 => k_is); (case c12 => k_is); (case k12 => k_is)
    (case a13 => k_is); (case l13 => k_is); (case c13 => k_is); (case k13 => k_is)
    (case a14 => k_is); (case l14 => k_is); (case c14 => k_is); (case k14 => k_is)
    (case a15 => k_is); (case l15 => k_is); (case c15 => k_is); (case k15 => k_is)
    (case a16 => k_is); (case l16 => k_is); (case c16 => k_is); (case k16 => k_is)
    (case a17 => k_is); (case l17 => k_is); (case c17 => k_is); (case k17 => k_is)
    (case a18 => k_is); (case l18 => k_is); (case c18 => k_is); (case k18 => k_is)
    (case a19 => k_is); (case l19 => k_is); (case c19 => k_is); (case k19 => k_is)
    (case a20 => k_is); (case l20 => k_is); (case c20 => k_is); (case k20 => k_is)
    (case a21 => k_is); (case l21 => k_is); (case c21 => k_is); (case k21 => k_is)
    (case a22 => k_is); (case l22 => k_is); (case c22 => k_is); (case k22 => k_is)
    (case a23 => k_is); (case l23 => k_is); (case c23 => k_is); (case k23 => k_is)
    (case a24 => k_is); (case l24 => k_is); (case c24 => k_is); (case k24 => k_is)
    (case a25 => k_is); (case l25 => k_is); (case c25 => k_is); (case k25 => k_is)
    (case a26 => k_is); (case l26 => k_is); (case c26 => k_is); (case k26 => k_is)
    (case a27 => k_is); (case l27 => k_is); (case c27 => k_is); (case k27 => k_is)
    (case glcm => k_is)
    case hz =>
      intro x hx
      simp only [EE.bnames, List.contains_cons, List.contains_nil, Bool.or_false, Bool.or_eq_true, beq_iff_eq] at hx
      rcases hx with rfl | rfl | rfl | rfl | rfl | rfl | rfl | rfl | rfl | rfl | rfl | rfl | rfl | rfl | rfl | rfl | rfl | rfl | rfl | rfl <;> k_is
