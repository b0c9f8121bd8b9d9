import PyProof.Rows.All
import Wide.All
import OpenK.AllK
import Wide.FinOn
import HandS.ForMost
import HandS.Wide
import HandS.TupAny
import HandS.Style
import HandS.Walk
import HandS.Flow
import HandS.Zip
import HandS.IsInst
import KE.GoesEnum
import HandS.WideBits
import HandS.More
import HandS.Evl
import PyProof.ReprLen
import PyProof.Rows.StrJoinMade
import HandS.Conv
import HandS.Exc
import HandS.ExcOwn
import HandS.ExcIs
import HandS.CallLocal
import HandS.RaiseMore
import HandS.WordsExc
import HandS.Gcd
import KE.KMathGC
import PySem.Challenge.RW_everyexact_k05_whole_scales_of_floats
set_option Elab.async false
set_option linter.all false
set_option maxRecDepth 100000
set_option maxHeartbeats 8000000
namespace EE
open PySem PySem.Spec PyProof.Rows L2

/-! ### data in the heap -/
theorem Same.sqT {K : PySem.W.Frag} {H H' : Hp} {a : Addr} {xs : List V} (e : Same H H') (h : SqT K H a xs) : SqT K H' a xs := by
  rcases h with (h | ⟨o, h⟩) | h
  · exact Or.inl (Or.inl (e a _ h))
  · exact Or.inl (Or.inr ⟨o, e a _ h⟩)
  · exact Or.inr h
mutual
theorem dp_up {K : PySem.W.Frag} {H H' : Hp} (e : Same H H') : ∀ {d : PyData} {v : V}, Dp K H v d → Dp K H' v d
  | .none, _, h => by cases h; exact .non
  | .bool b, _, h => by cases h; exact .bl b
  | .int i, _, h => by cases h; exact .int i
  | .str x, _, h => by cases h; exact .str x
  | .list ds, _, h => by
    cases h with
    | lst hs ha => exact .lst (e.seq hs) (dps_up e ha)
  | .tuple ds, _, h => by
    cases h with
    | tup hs ha => exact .tup (Same.sqT e hs) (dps_up e ha)
  | .dict _, _, h => by cases h
theorem dps_up {K : PySem.W.Frag} {H H' : Hp} (e : Same H H') : ∀ {ds : List PyData} {vs : List V}, DpAll K H vs ds → DpAll K H' vs ds
  | [], _, h => by cases h; exact .nil
  | d :: ds, _, h => by
    cases h with
    | cons h1 h2 => exact .cons (dp_up e h1) (dps_up e h2)
end
theorem dps_len {K : PySem.W.Frag} {H : Hp} : ∀ {ds : List PyData} {vs : List V}, DpAll K H vs ds → vs.length = ds.length
  | [], _, h => by cases h; rfl
  | d :: ds, _, h => by
    cases h with
    | cons h1 h2 => rw [List.length_cons, List.length_cons, dps_len h2]
theorem dps_at {K : PySem.W.Frag} {H : Hp} : ∀ {ds : List PyData} {vs : List V} {i : Nat} {d : PyData}, DpAll K H vs ds → ds[i]? = some d → ∃ v, vs[i]? = some v ∧ Dp K H v d
  | [], _, i, _, h, e => by simp at e
  | d :: ds, _, 0, d', h, e => by
    cases h with
    | cons h1 h2 =>
      have : d = d' := by simpa using e
      subst this
      exact ⟨_, rfl, h1⟩
  | d :: ds, _, i + 1, d', h, e => by
    cases h with
    | cons h1 h2 =>
      obtain ⟨v, h3, h4⟩ := dps_at (i := i) (d := d') h2 (by simpa using e)
      exact ⟨v, by simpa using h3, h4⟩
theorem dps_at' {K : PySem.W.Frag} {H : Hp} {ds : List PyData} {vs : List V} {i : Nat} {v : V} (h : DpAll K H vs ds) (e : vs[i]? = some v) : ∃ d, ds[i]? = some d ∧ Dp K H v d := by
  have hl := dps_len h
  obtain ⟨hi, _⟩ := List.getElem?_eq_some_iff.mp e
  have hd : ds[i]? = some (ds[i]'(by omega)) := List.getElem?_eq_getElem _
  obtain ⟨v', h1, h2⟩ := dps_at h hd
  rw [e] at h1
  cases h1
  exact ⟨_, hd, h2⟩
theorem dps_app {K : PySem.W.Frag} {H : Hp} : ∀ {ds es : List PyData} {vs us : List V}, DpAll K H vs ds → DpAll K H us es → DpAll K H (vs ++ us) (ds ++ es)
  | [], _, _, _, h, k => by cases h; exact k
  | d :: ds, _, _, _, h, k => by
    cases h with
    | cons h1 h2 => exact .cons h1 (dps_app h2 k)
theorem dps_erase {K : PySem.W.Frag} {H : Hp} : ∀ {ds : List PyData} {vs : List V} (i : Nat), DpAll K H vs ds → DpAll K H (vs.eraseIdx i) (ds.eraseIdx i)
  | [], _, _, h => by cases h; exact .nil
  | d :: ds, _, 0, h => by
    cases h with
    | cons h1 h2 => exact h2
  | d :: ds, _, i + 1, h => by
    cases h with
    | cons h1 h2 => exact .cons h1 (dps_erase i h2)
theorem dps_set {K : PySem.W.Frag} {H : Hp} {w : V} {e : PyData} (k : Dp K H w e) : ∀ {ds : List PyData} {vs : List V} (i : Nat), DpAll K H vs ds → DpAll K H (vs.set i w) (ds.set i e)
  | [], _, _, h => by cases h; exact .nil
  | d :: ds, _, 0, h => by
    cases h with
    | cons h1 h2 => exact .cons k h2
  | d :: ds, _, i + 1, h => by
    cases h with
    | cons h1 h2 => exact .cons h1 (dps_set k i h2)
theorem dps_take {K : PySem.W.Frag} {H : Hp} : ∀ {ds : List PyData} {vs : List V} (i : Nat), DpAll K H vs ds → DpAll K H (vs.take i) (ds.take i)
  | _, _, 0, h => .nil
  | [], _, _ + 1, h => by cases h; exact .nil
  | d :: ds, _, i + 1, h => by
    cases h with
    | cons h1 h2 => exact .cons h1 (dps_take i h2)
theorem dps_drop {K : PySem.W.Frag} {H : Hp} : ∀ {ds : List PyData} {vs : List V} (i : Nat), DpAll K H vs ds → DpAll K H (vs.drop i) (ds.drop i)
  | _, _, 0, h => h
  | [], _, _ + 1, h => by cases h; exact .nil
  | d :: ds, _, i + 1, h => by
    cases h with
    | cons h1 h2 => exact dps_drop i h2
theorem dps_ints {K : PySem.W.Frag} {H : Hp} : ∀ {ns : List Int} {vs : List V}, DpAll K H vs (ns.map PyData.int) → vs = ns.map V.int
  | [], _, h => by cases h; rfl
  | n :: ns, _, h => by
    cases h with
    | cons h1 h2 =>
      cases h1
      rw [dps_ints h2]
      rfl
theorem dps_of_ints {K : PySem.W.Frag} {H : Hp} : ∀ (ns : List Int), DpAll K H (ns.map V.int) (ns.map PyData.int)
  | [] => .nil
  | n :: ns => .cons (.int n) (dps_of_ints ns)
theorem dps_bls {K : PySem.W.Frag} {H : Hp} : ∀ {ns : List Bool} {vs : List V}, DpAll K H vs (ns.map PyData.bool) → vs = ns.map V.bl
  | [], _, h => by cases h; rfl
  | n :: ns, _, h => by
    cases h with
    | cons h1 h2 =>
      cases h1
      rw [dps_bls h2]
      rfl

/-! ### repr of data -/
def rRepr (K : PySem.W.Frag) : List V → Hp → VK → Prop := fun vs H Q => ∃ a d, vs = [.ref a] ∧ Dp K H (.ref a) d ∧ d.showable = true ∧ d.depth ≤ 60 ∧ d.shown.length ≤ sizeLine ∧ Q (.str d.shown) H
mutual
theorem dp_noDict {K : PySem.W.Frag} {H : Hp} : ∀ {d : PyData} {v : V}, Dp K H v d → d.hasDict = false
  | .none, _, _ => by simp only [PyData.hasDict]
  | .bool _, _, _ => by simp only [PyData.hasDict]
  | .int _, _, _ => by simp only [PyData.hasDict]
  | .str _, _, _ => by simp only [PyData.hasDict]
  | .list ds, _, h => by
    cases h with
    | lst _ ha => simp only [PyData.hasDict]; exact dps_noDict ha
  | .tuple ds, _, h => by
    cases h with
    | tup _ ha => simp only [PyData.hasDict]; exact dps_noDict ha
  | .dict _, _, h => by cases h
theorem dps_noDict {K : PySem.W.Frag} {H : Hp} : ∀ {ds : List PyData} {vs : List V}, DpAll K H vs ds → PyData.hasDictAll ds = false
  | [], _, _ => by simp only [PyData.hasDictAll]
  | d :: ds, _, h => by
    cases h with
    | cons h1 h2 => simp only [PyData.hasDictAll, dp_noDict h1, dps_noDict h2, Bool.or_false]
end

section
variable {X : Cx}
theorem call_repr (hg : X.A.guards = some []) (hu : X.A.units + 64 < cLine) : CallR X (.builtin "repr") (rRepr X.K) := by
  intro pins s σ H xs us Q I r h
  obtain ⟨a, d, rfl, hd, hs, hdp, hz, q⟩ := h
  obtain ⟨u, rfl, ru⟩ := vals1 r
  obtain ⟨as, rd⟩ := Dp.reads I d (.ref a) u hd ru
  cases ru
  exact repr_of_reads' rd hs (PyData.noDict_hsm (dp_noDict hd)) hg (by omega) (fun _ _ e => e) (fun h' u tk k => ⟨.str d.shown, H, I.kept k, ⟨_, rfl⟩, q⟩) hz
/-! ### enumerate of a tuple -/
theorem meets_enumNew1 {v : Value} {o : Obj} {G : Heap → Prop} (B : Begins v o G) :
    Meets (Builtin.«enumerate.__new__» ⟨[.type "enumerate", v], []⟩) (fun _ R s => G s.heap ∧
      R (.ok (.ret (.ref (s.heap.push o).objs.size)))
        { s with heap := (s.heap.push o).push { cls := .type "enumerate", data := .fields #[.none, .bool false, .ref s.heap.objs.size, rawInt 0, .none, .none] } }) :=
  .of_wp fun prog w A R s h => by
    obtain ⟨hp, g, d, tk, os⟩ := s
    obtain ⟨g1, h⟩ := h
    have sub := sub_enumerate
    have its : ∀ {A' : Around} {E : Value → Shared → Prop} {Q : Value → Shared → Prop}, Q (.ref hp.objs.size) ⟨hp.push o, g, d, tk, os⟩ → wpAny (model prog w) A' (pyIter v) Q E ⟨hp, g, d, tk, os⟩ :=
      fun {A' E Q} q => B.iter prog w A' E ⟨hp, g, d, tk, os⟩ Q g1 q
    wp_walk using its
    refine wpAny_stack_any fun st => wpAny_pure ?_
    split
    · rename_i c _ _ _ _ _
      cases (c == Value.type "enumerate") <;> (wp_walk using its; exact ⟨_, rfl, h⟩)
    · wp_walk using its
      exact ⟨_, rfl, h⟩
theorem enum_tuple1 {prog : Program} {w : World} {A : Around} {E : Value → Shared → Prop} {s : Shared} {t : Addr} {items : Array Value} {Q : Value → Shared → Prop} (ht : s.heap.IsTuple t items)
    (h : ∀ h', IsEnum h' (s.heap.objs.size + 1) s.heap.objs.size 0 .none → h'.IsTupleIter s.heap.objs.size t 0 →
      (∀ b o, s.heap.get? b = some o → h'.get? b = some o) → Q (.ref (s.heap.objs.size + 1)) { s with heap := h' }) :
    wpAny (model prog w) A (call (.type "enumerate") [.ref t]) Q E s := by
  have B := begins_tuple t items
  refine callType_new F.called_enumerate (by decide) (F.typeCall_enumerate_1 _) (F.newCall_enumerate_1 _) (fun obj => F.args_object_init_2 obj _) F.entry_enumerate_new (meets_enumNew1 B) ⟨ht, ?_⟩
  generalize ho : ({ cls := .type "tuple_iterator", data := .fields #[.ref t, .int 0 0] } : Obj) = o at B
  have hz : (s.heap.push o).objs.size = s.heap.objs.size + 1 := Heap.size_push ..
  have g2 : ((s.heap.push o).push { cls := .type "enumerate", data := .fields #[.none, .bool false, .ref s.heap.objs.size, rawInt 0, .none, .none] }).get? (s.heap.objs.size + 1)
      = some { cls := .type "enumerate", data := .fields #[.none, .bool false, .ref s.heap.objs.size, rawInt 0, .none, .none] } := by
    rw [← hz]
    exact Heap.get?_push_size _ rfl
  have g1 : ((s.heap.push o).push { cls := .type "enumerate", data := .fields #[.none, .bool false, .ref s.heap.objs.size, rawInt 0, .none, .none] }).get? s.heap.objs.size = some o :=
    Heap.get?_push_of_some _ (Heap.get?_push_size _ B.free)
  show _ ∧ _
  rw [hz]
  subst ho
  exact ⟨⟨_, g2, rfl⟩, h _ g2 ⟨_, g1, rfl, rfl⟩ fun b ob e => Heap.get?_push_of_some _ (Heap.get?_push_of_some _ e)⟩
theorem enumT_end {prog : Program} {w : World} {A : Around} {E : Value → Shared → Prop} {s : Shared} {e it t : Addr} {i : Nat} {items : Array Value} {old : Value} {Q : Option Value → Shared → Prop} (hh : A.handled = none)
    (he : IsEnum s.heap e it ((i : Nat) : Int) old) (hit : s.heap.IsTupleIter it t i) (ht : s.heap.IsTuple t items) (hx : items[i]? = none)
    (h : ∀ h', Heap.ExtBut it s.heap h' → Q none { s with heap := h' }) : wpAny (model prog w) A (pyNext (.ref e)) Q E s := by
  have hT : s.TypeIs (.ref e) "enumerate" := ⟨_, he, rfl⟩
  unfold pyNext
  refine wpAny_bind (wpAny_attempt (wpAny_callSpecial?_slot (name := Str.ofString "__next__") hT F.slot_enumerate_next (wpAny_call_entry F.slot_enumerate_next hT F.entry_enumerate_next ?_ (F.args_enumerate_next_1 _))))
  show wpAny _ _ (field (.ref e) 2 >>= _) _ _ _
  refine wpAny_bind (wpAny_field he rfl (x := .ref it) rfl ?_)
  refine wpAny_bind (wpAny_nextOf_tuple_end (A := A.in1) hh hit ht hx fun h' x he' hx' => ?_)
  obtain ⟨o, ho, hc⟩ := hx'
  exact wpAny_bind (wpAny_isInstance (T := "StopIteration") (b := true) ⟨o, ho, hc⟩ isSubtype_stop (wpAny_pure (h _ he')))
def Itet (K : PySem.W.Frag) (a : Addr) : It where
  go := fun i H => ∃ (xs : List V) (x : V), SqT K H a xs ∧ xs[i]? = some x
  yld := fun i H v H' => ∃ T x, v = .ref T ∧ H T = none ∧ H' = upd H T (.tup [.int (i : Nat), x]) ∧ ∀ xs, SqT K H a xs → xs[i]? = some x
  stop := fun i H => ∃ xs : List V, SqT K H a xs ∧ xs.length ≤ i
theorem turn_enumT {P : Program} {w : World} {K : PySem.W.Frag} {elts : List Expr} {kk : Nat} {tpos : Pos} (a e it : Addr) :
    Turn P w K (.Tuple elts kk tpos) (Itet K a) [e, it] e (fun i h => (∃ old, IsEnum h e it ((i : Nat) : Int) old) ∧ h.IsTupleIter it a i ∧ e ≠ it) where
  mem := List.mem_cons_self ..
  obj := fun i h st b hb => by
    obtain ⟨⟨old, he⟩, ⟨o, ho, hc, hd⟩, _⟩ := st
    simp only [List.mem_cons, List.not_mem_nil, or_false] at hb
    rcases hb with rfl | rfl
    · exact ⟨_, he, fun v q => nomatch q⟩
    · exact ⟨o, ho, fun v q => by rw [hd] at q; cases q⟩
  keep := fun i h h' st k => by
    obtain ⟨⟨old, he⟩, hit, hne⟩ := st
    exact ⟨⟨old, k e (List.mem_cons_self ..) _ he⟩, hit.at fun o q => k it (List.mem_cons_of_mem _ (List.mem_cons_self ..)) o q, hne⟩
  item := by
    intro X hP hw hK hc i pins s σ H E I hf st hg
    subst hP hw hK
    obtain ⟨⟨old, he⟩, hit, hne⟩ := st
    obtain ⟨xs, x, hq, hx⟩ := hg
    obtain ⟨its, rv, p, hz⟩ := I.tuple hq
    have pT : s.heap.IsTuple a its.toArray := p
    have hai : a ≠ it := fun z => by
      obtain ⟨o, ho, hcl, _⟩ := hit
      obtain ⟨o2, ho2, hcl2, _⟩ := p
      rw [z, ho] at ho2
      cases ho2
      rw [hcl] at hcl2
      exact absurd hcl2 (by decide)
    obtain ⟨u, hu, ru⟩ := rv.get hx
    obtain ⟨hi', _⟩ := List.getElem?_eq_some_iff.mp hu
    have D := Draws.tuple (prog := X.prog) (w := X.w) (A := X.A.in1) (I.ok.hd hc) it a hai its.toArray
    have hea : e ≠ a := fun z => by
      obtain ⟨o2, ho2, hcl2, _⟩ := p
      rw [← z, show s.heap.get? e = some _ from he] at ho2
      cases ho2
      have bad : Value.type "enumerate" = Value.type "tuple" := hcl2
      exact absurd bad (by decide)
    have hfp : e ∉ [it, a] := by
      simp only [List.mem_cons, List.not_mem_nil, or_false, not_or]
      exact ⟨hne, hea⟩
    refine wpAny_pyNext_enum_itemD D he ⟨hit, pT⟩ (by simpa using hi') hne hfp fun y h' tk hy ho hst' hT hsz hk => ?_
    have ey : y = u := by
      have : its[i]? = some y := by simpa using hy
      rw [this] at hu
      exact Option.some.inj hu
    subst ey
    refine ⟨_, rfl, wpAny_letOwnedTupleGo_enum (s := { s with heap := h', toks := tk + 1 }) ho fun h2 he2 sb => ?_⟩
    have el : e < s.heap.objs.size := Heap.lt_size he
    have il : it < s.heap.objs.size := by
      obtain ⟨_, q, _⟩ := hit
      exact Heap.lt_size q
    have hT2 : h2.get? s.heap.objs.size = some { cls := .type "tuple", data := .seq #[.int i tk, y] } := (sb.2 _ (Nat.ne_of_gt el)).trans hT
    have new : ObjOk X.prog X.w (upd H s.heap.objs.size (.tup [.int (i : Nat), x])) h2 s.heap.objs.size (.tup [.int (i : Nat), x]) :=
      ⟨by show 2 ≤ sizeLine; decide, _, .cons ⟨tk, rfl⟩ (.cons ru .nil), ⟨_, hT2, rfl, _, rfl⟩⟩
    have I1 := I.turnedNew (h' := h2) (t' := tk + 1) (ch := [e, it]) (fun b ob hb q => by
      simp only [List.mem_cons, List.not_mem_nil, or_false, not_or] at hb
      exact (sb.2 b hb.1).trans (hk b ob hb.1 hb.2 q)) hf (Nat.le_refl _) new
    refine ⟨.ref s.heap.objs.size, _, I1, rfl, ⟨_, x, rfl, I.hok.fresh (Nat.le_refl _), rfl, fun ys hy2 => ?_⟩, ⟨⟨y, ?_⟩, hst'.1.at fun o q => (sb.2 it (Ne.symm hne)).trans q, hne⟩, fun b hb => ?_⟩
    · rw [I.tuple_inj hy2 hq]
      exact hx
    · rw [show ((i + 1 : Nat) : Int) = (i : Int) + 1 by omega]
      exact he2
    · have h0 := (hf b hb).1
      simp only [List.mem_cons, List.not_mem_nil, or_false] at hb
      have nb : b ≠ s.heap.objs.size := by
        rcases hb with z | z
        · rw [z]; exact Nat.ne_of_lt el
        · rw [z]; exact Nat.ne_of_lt il
      rw [upd_ne nb]
      exact h0
  done := by
    intro X hP hw hK hc i pins s σ H E I hf st hg
    subst hP hw hK
    obtain ⟨⟨old, he⟩, hit, hne⟩ := st
    obtain ⟨xs, hq, hx⟩ := hg
    obtain ⟨its, rv, p, hz⟩ := I.tuple hq
    have pT : s.heap.IsTuple a its.toArray := p
    have hai : a ≠ it := fun z => by
      obtain ⟨o, ho, hcl, _⟩ := hit
      obtain ⟨o2, ho2, hcl2, _⟩ := p
      rw [z, ho] at ho2
      cases ho2
      rw [hcl] at hcl2
      exact absurd hcl2 (by decide)
    obtain ⟨f0, f1, f2, f3, f4, f5⟩ := hf it (List.mem_cons_of_mem _ (List.mem_cons_self ..))
    have hl := rv.length
    exact enumT_end (I.ok.hd hc) he hit pT (by simp; omega) fun h' eb => ⟨rfl, I.turned (t' := s.toks) (fun b o hb q => eb b o hb q) f0 f1 f3 f4 f5⟩
  self := fun A i s Q E st h => let ⟨⟨_, he⟩, _⟩ := st; wpAny_pyIter_enum he h
def iEnumT (K : PySem.W.Frag) (ta : TA) : TI := fun σ H R => ta σ H fun vs H1 => ∃ a xs, vs = [.ref a] ∧ SqT K H1 a xs ∧ R (Itet K a) H1
theorem pi_enumT {e : Expr} {ta : TA} {p pos tpos : Pos} {elts : List Expr} {kk : Nat} (hg : Gl X "enumerate") (hm : X.mg "enumerate" = none) (ha : PA X [e] ta) (hs : starEach [e] X.env = [(false, eval e X.env)] := by rfl) :
    PI X (.Tuple elts kk tpos) (.Call (.Name "enumerate" p) [e] [] pos) (iEnumT X.K ta) := by
  refine ⟨fun pins s σ H R I h => ?_⟩
  have arg := ha.run pos pins s σ H _ I h
  refine Call_ (ld_blt I hg hm boot_enumerate (PyProof.Rows.callWith_type1 (thn arg fun us s1 ⟨vs, H1, I1, r1, q1⟩ => ?_) hs rfl))
  obtain ⟨a, xs, ex, hq, q⟩ := q1
  subst ex
  obtain rfl := Vals.ref1 r1
  obtain ⟨its, rv, p', hz⟩ := I1.tuple hq
  refine enum_tuple1 (items := its.toArray) p' fun h' he hit hk => wpAny_pyIter_enum he ?_
  refine ⟨s1.heap.objs.size + 1, [s1.heap.objs.size + 1, s1.heap.objs.size], _, _, H1, rfl, I1.kept (t' := s1.toks) hk, turn_enumT a _ s1.heap.objs.size, ⟨⟨.none, he⟩, hit, Nat.succ_ne_self _⟩, fun b hb => ?_, q⟩
  simp only [List.mem_cons, List.not_mem_nil, or_false] at hb
  have hle : s1.heap.objs.size ≤ b := by
    rcases hb with z | z
    · rw [z]; exact Nat.le_succ _
    · rw [z]; exact Nat.le_refl _
  exact I1.fpOk hle (I1.hok.fresh hle)
theorem walk_enumT {K : PySem.W.Frag} {a : Addr} {xs : List V} : Walk (Itet K a) xs.length (fun H => SqT K H a xs) (YPair (fun i => some (.int (i : Nat))) (fun i => xs[i]?)) := by
  refine ⟨fun i H hi q => ⟨xs, xs[i], q, List.getElem?_eq_getElem hi⟩, fun H q => ⟨xs, q, Nat.le_refl _⟩, fun i H v H' hi q y => ?_⟩
  obtain ⟨T, x, h1, h2, h3, h4⟩ := y
  exact ⟨T, .int (i : Nat), x, h1, h2, h3, rfl, h4 xs q⟩
end
end EE

namespace EE
open PySem PySem.Spec PyProof.Rows L2
/-! ### a def that shows things: it is called where nothing is being shown -/
structure FnG (P : Program) (w : World) (K : PySem.W.Frag) (mg : Str → Option Value) (base : Heap) (k : Nat) (f : Addr) (fd : FuncData) (ps : List Str) (sp : Sp) : Prop where
  len : ∀ vs H Q E, sp vs H Q E → vs.length = ps.length
  run : ∀ (A : Around) (outer : List Env) (s : Shared) (H : Hp) (args : Args) (us : List Value) (vs : List V) (Q : VK) (E : XK), A.guards = some [] → Room k A →
    Env0 P w K mg base A outer s H → BindsTo s fd args (ps.zip us) → Vals vs us → sp vs H Q E → codeAny (model P w) A (.call (.ref f) args) (CR CX0 outer P w H s Q E) s
section
variable {P : Program} {w : World} {K : PySem.W.Frag} {mg : Str → Option Value} {base : Heap}
theorem okG {x qual : Str} {st : Stmt} {f : Addr} {fd : FuncData} {N ps : List Str} {k : Nat} {sp : Sp} (F : Fun K x qual st f fd) (S : FnScope N ps (defScope st)) (len : ∀ vs H Q E, sp vs H Q E → vs.length = ps.length)
    (hb : ∀ (cdv : Value) (A : Around) (outer : List Env) (s : Shared) (H : Hp) (vs : List V) (Q : VK) (E : XK), (A.deeper (envOfC qual (defScope st) s.heap.objs.size f cdv)).guards = some [] →
      Room k (A.deeper (envOfC qual (defScope st) s.heap.objs.size f cdv)) → sp vs H Q E →
      ∃ t, PSs (cxOf CX0 P w K mg base N qual (defScope st) f cdv A outer s H E).nox (defBody st) t ∧ t { nx := fun _ H' => Q .non H', rt := Q } (start N vs) H) : FnG P w K mg base (k + 1) f fd ps sp := by
  obtain ⟨oc, od, kV, doc, pm, an, cdv, ct, osl, rfl, lk, hcd⟩ := F.ex
  constructor
  · exact len
  intro A outer s H args us vs Q E hg hr e0 hbd r hsp
  have KX := e0.mod.kin.keeps (h' := s.heap) fun b o e => (e0.bs b o e).1
  have lim := e0.mod.nolimit.keeps (h' := s.heap) fun b o e => (e0.bs b o e).1
  obtain ⟨t, ht, hq⟩ := hb cdv A outer s H vs Q E hg (hr.deeper _) hsp
  refine codeAny_call_function hr.depth (KX _ _ lk) rfl S.co S.gen rfl (PySem.W.codeRec_of KX hcd) (hbd _ _ _ _ (wpAny_newFunctionEnv_cells S.kind (fun y hy => ?_) fun env he s1 xx => ?_))
  · obtain ⟨n, v⟩ := y
    have hm := (List.of_mem_zip hy).1
    rcases S.par n hm with q | q
    · exact Or.inl q
    · exact Or.inr ⟨q, PySem.W.cellsFrom_some _ _ _ (Or.inl q)⟩
  · subst he
    refine ⟨lim.keeps xx.toInCall.keep, codeAny_func ?_⟩
    have I := inv_start (CX := CX0) (E := E) (cd := cdv) (f := f) (qual := qual) S hr.hd e0 (len _ _ _ _ hsp) r xx
    refine wpAny_mono (ht.nox.run [] s1 (start N vs) H _ I hq) (fun fl s' hs => ?_) fun e s' hs => hs
    cases fl with
    | next =>
      obtain ⟨σ', H', J, q⟩ := hs
      exact ⟨V.non, H', J.os, J.bare, J.base, J.hok, rfl, q⟩
    | brk => obtain ⟨_, _, _, q⟩ := hs; exact q.elim
    | cont => obtain ⟨_, _, _, q⟩ := hs; exact q.elim
    | ret u =>
      obtain ⟨v, σ', H', J, rv, q⟩ := hs
      exact ⟨v, H', J.os, J.bare, J.base, J.hok, rv, q⟩
/-- the end: the law's def, called at the top -/
theorem call_lawG {mb : Str → Option Value} {k : Nat} {fa a : Addr} {fd : FuncData} {x : Str} {sp : Sp} {s₁ : Shared} {vs : List Value} {ns : List Int}
    (KX : K.In s₁.heap) (hns : s₁.heap.Ns mainGlobals mg) (hb : s₁.heap.Ns builtinsNs mb) (hbb : ∀ x : Str, x ≠ "__name__" → mb x = bootBuiltins x) (hlim : s₁.heap.NoLimit) (hg : s₁.gens = #[])
    (ha : s₁.heap.get? a = some { cls := .type "list", data := .seq vs.toArray }) (hi : IntsAre vs ns) (hl : ns.length ≤ sizeLine) (hr : Room k callerA)
    (F : ∀ base : Heap, K.In base → base.Ns mainGlobals mg → FnG P w K mg base k fa fd [x] sp) (hbind : ∀ (s : Shared) (u : Value), BindsTo s fd ⟨[u], []⟩ [(x, u)])
    (hsp : ∀ H : Hp, Only H → SqL K H a (ns.map V.int) → sp [.ref a] H (fun v _ => v = .bl true) fun _ _ _ => False) :
    codeAny (model P w) callerA (.call (.ref fa) ⟨[.ref a], []⟩) (fun r s' => r = .ok (.ret (.bool true)) ∧ OldK s₁.heap s'.heap ∧ s'.os = s₁.os ∧ AllBare s'.gens) s₁ := by
  have rv : Vals (ns.map V.int) vs := vals_of_ints hi
  have lenV := hi.length
  obtain ⟨H, hO, hS, hok, hA, hK⟩ : ∃ H : Hp, Only H ∧ SqL K H a (ns.map V.int) ∧ HOk P w H s₁.heap ∧ (∀ b, H b ≠ none → b = a) ∧ (H a ≠ none → K.lookup a = none) := by
    cases hk : K.lookup a with
    | some o =>
      have e := (KX a o hk).symm.trans ha
      cases e
      refine ⟨fun _ => none, fun _ => Or.inl rfl, Or.inr ⟨_, vs.toArray, _, hk, rfl, rfl, rfl, ?_, ?_⟩, fun b u z => (nomatch z), fun b z => absurd rfl z, fun z => absurd rfl z⟩
      · rw [List.size_toArray, lenV]
        exact hl
      · simpa using rv
    | none =>
      have at_a : (fun b => if b = a then some (HO.frz { cls := .type "list", data := .seq vs.toArray } (.lst (ns.map V.int))) else none : Hp) a = some (HO.frz { cls := .type "list", data := .seq vs.toArray } (.lst (ns.map V.int))) := if_pos rfl
      refine ⟨fun b => if b = a then some (.frz { cls := .type "list", data := .seq vs.toArray } (.lst (ns.map V.int))) else none, fun b => ?_, Or.inl (Or.inr ⟨_, at_a⟩), fun b u z => ?_, fun b z => ?_, fun _ => rfl⟩
      · by_cases e : b = a
        · exact Or.inr ⟨_, _, if_pos e⟩
        · exact Or.inl (if_neg e)
      · by_cases e : b = a
        · subst e
          rw [at_a] at z
          cases z
          refine ⟨ha, ?_, vs, 0, rv, ha⟩
          rw [List.length_map]
          exact hl
        · exact nomatch (if_neg e).symm.trans z
      · exact Decidable.byContradiction fun e => z (if_neg e)
  have hid : ∀ {b : Addr} {o : Obj}, s₁.heap.get? b = some o → H b = none → (hidT s₁.heap H).get? b = some o := fun e n => hidT_get e n
  have noA : ∀ {b : Addr} {o : Obj} {es : Array DictEntry} {ep : Nat}, s₁.heap.get? b = some o → o.data = .dict es ep → H b = none := fun {b o es ep} e d =>
    Decidable.byContradiction fun q => by
      have e' := hA b q
      subst e'
      have eo := ha.symm.trans e
      cases eo
      have d' : Data.seq vs.toArray _ = Data.dict es ep := d
      cases d'
  have nsK : ∀ {b : Addr} {m : Str → Option Value}, s₁.heap.Ns b m → (hidT s₁.heap H).Ns b m := fun n => by
    obtain ⟨o, es, ep, e, d, r⟩ := n
    exact ⟨o, es, ep, hid e (noA e d), d, r⟩
  have hKb : K.In (hidT s₁.heap H) := fun b o e => hid (KX b o e) (Decidable.byContradiction fun q => by
    have e' := hA b q
    subst e'
    rw [hK q] at e
    cases e)
  have e0 : Env0 P w K mg (hidT s₁.heap H) callerA [] s₁ H := by
    refine ⟨rfl, ⟨hKb, nsK hns, ⟨mb, nsK hb, hbb⟩, ?_⟩, fun b o e => of_hidT e, Nat.le_of_eq (hidT_size _ _), trivial, fun b hb => ?_, hok, .of_eq hg⟩
    · obtain ⟨mc, h1, h2⟩ := hlim
      exact ⟨mc, nsK h1, h2⟩
    · exact absurd (show b ∈ ([] : List Addr) from hb) (List.not_mem_nil)
  have run := (F _ hKb (nsK hns)).run callerA [] s₁ H ⟨[.ref a], []⟩ [.ref a] [.ref a] _ _ rfl hr e0 (hbind s₁ (.ref a)) (.cons rfl .nil) (hsp H hO hS)
  refine codeAny_mono run fun r s' h => ?_
  cases r with
  | error e => exact (show False from h).elim
  | ok fl =>
    cases fl with
    | next => exact (show False from h).elim
    | brk => exact (show False from h).elim
    | cont => exact (show False from h).elim
    | ret u =>
      obtain ⟨v, H', os, bare, un, hok', r', q⟩ := h
      obtain rfl : v = .bl true := q
      obtain rfl : u = Value.bool true := r'
      refine ⟨rfl, OldK.of_keep fun b o e => ?_, os, bare⟩
      rcases hO b with z | ⟨ob, xs, z⟩
      · exact un.keep b o e z (by intro y; exact absurd (show b ∈ ([] : List Addr) from y) List.not_mem_nil) List.not_mem_nil
      · have e1 := (hok b _ z).1
        have e2 := (hok' b _ (un.frzs b ob _ z)).1
        rw [e1] at e
        cases e
        exact e2
end
theorem walk_ofG {l : PySem.W.OpenLaw} {n k : Nat} {q : Program} {loose : List Str} {XP : (Str → Option Value) → Heap → Prop} {YP : World → Heap → Prop} {d : DefRec} {K : Params → PySem.W.Frag} {sp : PySem.W.Frag → Sp} {x : Str}
    (hn : l.most = some n) (hn2 : n ≤ sizeLine) (hdf : d.params.defaults = []) (hr : Room k callerA)
    (hY : ∀ (w : World) (h : Heap), YP w h → (K w.params).In h)
    (F : ∀ (w : World) (mg : Str → Option Value) (fa : Addr) (h : Heap), (K w.params).In h → h.Ns mainGlobals mg → mg d.name = some (.ref fa) →
      ∃ fd : FuncData, (∀ (s : Shared) (u : Value), BindsTo s fd ⟨[u], []⟩ [(x, u)]) ∧
        ∀ base : Heap, (K w.params).In base → base.Ns mainGlobals mg → FnG l.prog w (K w.params) mg base k fa fd [x] (sp (K w.params)))
    (hsp : ∀ (K : PySem.W.Frag) (H : Hp) (a : Addr) (ns : List Int), ns.length ≤ n → Only H → SqL K H a (ns.map V.int) → sp K [.ref a] H (fun v _ => v = .bl true) fun _ _ _ => False) :
    PySem.W.WalkO q loose XP YP l.row.toRowW d [] (fun f vs => PySem.call f vs) :=
  Att.attach_call hn hdf fun w s₀ s₁ mg mb fa o pm cd doc a vs ns G Y ho hd hcd hmg hobj hints hlen hg => by
    have KX := hY w _ Y
    obtain ⟨fd, hb, hF⟩ := F w mg fa _ KX G.T.g hmg
    exact call_lawG KX G.T.g G.T.b G.T.builtins G.T.nolimit hg hobj hints (Nat.le_trans hlen hn2) hr hF hb (fun H hO hS => hsp _ H a ns hlen hO hS)
end EE

namespace EE
open PySem PySem.Spec PyProof.Rows L2
abbrev D := PyData
/-! ### what is known of the heap: lists that may change (Γ), things that stay (Δ), the deck -/
def DeckAt (H : Hp) (d l : Addr) : Prop := ∃ (s : Int) (xs : List Int), H d = some (.dK [(.inr "deep", .ref l), (.inr "state", .int s)]) ∧ H l = some (.lst (xs.map V.int)) ∧
  (∀ x ∈ xs, 0 ≤ x) ∧ xs.length ≤ 64 ∧ 0 ≤ s ∧ s < 2305843009213693951
abbrev Dk := Option (Addr × Addr)
structure StI (K : PySem.W.Frag) (H0 H : Hp) (dk : Dk) (Γ : List (Addr × List D)) (Δ : List (V × D)) : Prop where
  le : Same H0 H
  data : ∀ p ∈ Δ, Dp K H0 p.1 p.2
  lists : ∀ g ∈ Γ, H0 g.1 = none ∧ ∃ vs, H g.1 = some (.lst vs) ∧ DpAll K H0 vs g.2
  nd : (Γ.map (·.1)).Nodup
  deck : ∀ d l, dk = some (d, l) → H0 d = none ∧ H0 l = none ∧ (∀ g ∈ Γ, g.1 ≠ d ∧ g.1 ≠ l) ∧ DeckAt H d l
def St (K : PySem.W.Frag) (H : Hp) (dk : Dk) (Γ : List (Addr × List D)) (Δ : List (V × D)) : Prop := ∃ H0, StI K H0 H dk Γ Δ
/-- a value that is known as a datum -/
inductive Dv (Δ : List (V × D)) : V → D → Prop
  | of {v d} : (v, d) ∈ Δ → Dv Δ v d
  | non : Dv Δ .non .none
  | bl (b : Bool) : Dv Δ (.bl b) (.bool b)
  | int (i : Int) : Dv Δ (.int i) (.int i)
  | str (x : Str) : Dv Δ (.str x) (.str x)
inductive DvAll (Δ : List (V × D)) : List V → List D → Prop
  | nil : DvAll Δ [] []
  | cons {v vs d ds} : Dv Δ v d → DvAll Δ vs ds → DvAll Δ (v :: vs) (d :: ds)
theorem dps_zip {K : PySem.W.Frag} {H : Hp} : ∀ {ds : List D} {vs : List V}, DpAll K H vs ds → ∀ q ∈ vs.zip ds, Dp K H q.1 q.2
  | [], _, h, q, hq => by cases h; cases hq
  | d :: ds, _, h, q, hq => by
    cases h with
    | cons h1 h2 =>
      rcases List.mem_cons.mp (show q ∈ (_, d) :: List.zip _ ds from hq) with rfl | hq
      · exact h1
      · exact dps_zip h2 q hq
theorem dvs_zip_ : ∀ {ds : List D} {vs : List V} {Δ : List (V × D)}, vs.length = ds.length → (∀ q ∈ vs.zip ds, q ∈ Δ) → DvAll Δ vs ds
  | [], [], _, _, _ => .nil
  | [], _ :: _, _, h, _ => by cases h
  | _ :: _, [], _, h, _ => by cases h
  | d :: ds, v :: vs, Δ, h, k => .cons (.of (k _ (List.mem_cons_self ..))) (dvs_zip_ (by simpa using h) fun q hq => k q (List.mem_cons_of_mem _ hq))
theorem dvs_zip {ds : List D} {vs : List V} {Δ : List (V × D)} (h : vs.length = ds.length) : DvAll (vs.zip ds ++ Δ) vs ds := dvs_zip_ h fun q hq => List.mem_append_left _ hq
section
variable {K : PySem.W.Frag} {H0 H H' : Hp} {dk : Dk} {Γ Γ' : List (Addr × List D)} {Δ Δ' : List (V × D)} {v : V} {d : D} {vs : List V} {ds : List D} {p a l : Addr}
theorem Dv.sub (s : ∀ x ∈ Δ, x ∈ Δ') (h : Dv Δ v d) : Dv Δ' v d := by
  cases h with
  | of m => exact .of (s _ m)
  | non => exact .non
  | bl b => exact .bl b
  | int i => exact .int i
  | str x => exact .str x
theorem DvAll.sub (s : ∀ x ∈ Δ, x ∈ Δ') : ∀ {vs : List V} {ds : List D}, DvAll Δ vs ds → DvAll Δ' vs ds
  | _, _, .nil => .nil
  | _, _, .cons h t => .cons (h.sub s) (DvAll.sub s t)
theorem Dv.dp (hd : ∀ p ∈ Δ, Dp K H0 p.1 p.2) (h : Dv Δ v d) : Dp K H0 v d := by
  cases h with
  | of m => exact hd _ m
  | non => exact .non
  | bl b => exact .bl b
  | int i => exact .int i
  | str x => exact .str x
theorem DvAll.dp (hd : ∀ p ∈ Δ, Dp K H0 p.1 p.2) : ∀ {vs : List V} {ds : List D}, DvAll Δ vs ds → DpAll K H0 vs ds
  | _, _, .nil => .nil
  | _, _, .cons h t => .cons (h.dp hd) (DvAll.dp hd t)
theorem DvAll.len : ∀ {vs : List V} {ds : List D}, DvAll Δ vs ds → vs.length = ds.length
  | _, _, .nil => rfl
  | _, _, .cons _ t => by rw [List.length_cons, List.length_cons, t.len]
theorem St.dp (h : St K H dk Γ Δ) (k : Dv Δ v d) : Dp K H v d := by
  obtain ⟨H0, I⟩ := h
  exact dp_up I.le (k.dp I.data)
theorem St.weaken (h : St K H dk Γ Δ) (s : ∀ x ∈ Δ', x ∈ Δ) : St K H dk Γ Δ' := by
  obtain ⟨H0, I⟩ := h
  exact ⟨H0, I.le, fun p hp => I.data p (s p hp), I.lists, I.nd, I.deck⟩
theorem St.ints (h : St K H dk Γ Δ) (k : ∀ x ∈ Δ', Dv Δ x.1 x.2) : St K H dk Γ (Δ' ++ Δ) := by
  obtain ⟨H0, I⟩ := h
  refine ⟨H0, I.le, fun p hp => ?_, I.lists, I.nd, I.deck⟩
  rcases List.mem_append.mp hp with hp | hp
  · exact (k p hp).dp I.data
  · exact I.data p hp
theorem St.also (h : St K H dk Γ Δ) (k : Dv Δ v d) : St K H dk Γ ((v, d) :: Δ) := h.ints (Δ' := [(v, d)]) fun x hx => by
  rw [List.mem_singleton.mp hx]
  exact k
/-- a new thing that stays -/
theorem St.new_ (h : St K H dk Γ Δ) (hp : H p = none) {o : HO} (hd : ∀ H0 : Hp, H0 p = some o → (∀ q ∈ Δ, Dp K H0 q.1 q.2) → Dp K H0 (.ref p) d) : St K (upd H p o) dk Γ ((.ref p, d) :: Δ) := by
  obtain ⟨H0, I⟩ := h
  have h0 : H0 p = none := I.le.free hp
  have s1 : Same H0 (upd H0 p o) := fun b u e => by rw [upd_ne (ne_of_none e h0)]; exact e
  have s2 : Same (upd H0 p o) (upd H p o) := fun b u e => by
    by_cases hb : b = p
    · subst hb; rw [upd_same] at e ⊢; exact e
    · rw [upd_ne hb] at e ⊢; exact I.le b u e
  have old : ∀ q ∈ Δ, Dp K (upd H0 p o) q.1 q.2 := fun q hq => dp_up s1 (I.data q hq)
  refine ⟨upd H0 p o, s2, fun q hq => ?_, fun g hg => ?_, I.nd, fun d l e => ?_⟩
  · rcases List.mem_cons.mp hq with rfl | hq
    · exact hd _ upd_same old
    · exact old q hq
  · obtain ⟨g0, vs, g1, g2⟩ := I.lists g hg
    have ne : g.1 ≠ p := ne_of_none g1 hp
    rw [upd_ne ne, upd_ne ne]
    exact ⟨g0, vs, g1, dps_up s1 g2⟩
  · obtain ⟨a1, a2, a3, s, xs, b1, b2, b3⟩ := I.deck d l e
    have n1 := ne_of_none b1 hp
    have n2 := ne_of_none b2 hp
    rw [upd_ne n1, upd_ne n2]
    refine ⟨a1, a2, a3, s, xs, ?_, ?_, b3⟩
    · rw [upd_ne n1]; exact b1
    · rw [upd_ne n2]; exact b2
theorem St.tup (h : St K H dk Γ Δ) (hp : H p = none) (k : DvAll Δ vs ds) : St K (upd H p (.tup vs)) dk Γ ((.ref p, .tuple ds) :: Δ) := h.new_ hp fun H0 e q => .tup (SqT.of e) (k.dp q)
theorem St.lst (h : St K H dk Γ Δ) (hp : H p = none) (k : DvAll Δ vs ds) : St K (upd H p (.lst vs)) dk Γ ((.ref p, .list ds) :: Δ) := h.new_ hp fun H0 e q => .lst (SqL.of e) (k.dp q)
/-- a new list that may change -/
theorem St.make_ (h : St K H dk Γ Δ) (hp : H p = none) (k : ∀ H0, StI K H0 H dk Γ Δ → DpAll K H0 vs ds) : St K (upd H p (.lst vs)) dk ((p, ds) :: Γ) Δ := by
  obtain ⟨H0, I⟩ := h
  have h0 : H0 p = none := I.le.free hp
  refine ⟨H0, fun b u e => ?_, I.data, fun g hg => ?_, ?_, fun d l e => ?_⟩
  · rw [upd_ne (ne_of_none (I.le b u e) hp)]
    exact I.le b u e
  · rcases List.mem_cons.mp hg with rfl | hg
    · exact ⟨h0, vs, upd_same, k H0 I⟩
    · obtain ⟨g0, vs', g1, g2⟩ := I.lists g hg
      exact ⟨g0, vs', by rw [upd_ne (ne_of_none g1 hp)]; exact g1, g2⟩
  · rw [List.map_cons, List.nodup_cons]
    refine ⟨fun hm => ?_, I.nd⟩
    obtain ⟨g, hg, e⟩ := List.mem_map.mp hm
    obtain ⟨_, _, g1, _⟩ := I.lists g hg
    exact ne_of_none g1 hp e
  · obtain ⟨a1, a2, a3, s, xs, b1, b2, b3⟩ := I.deck d l e
    have n1 := ne_of_none b1 hp
    have n2 := ne_of_none b2 hp
    refine ⟨a1, a2, fun g hg => ?_, s, xs, ?_, ?_, b3⟩
    · rcases List.mem_cons.mp hg with rfl | hg
      · exact ⟨n1.symm, n2.symm⟩
      · exact a3 g hg
    · rw [upd_ne n1]; exact b1
    · rw [upd_ne n2]; exact b2
theorem St.make (h : St K H dk Γ Δ) (hp : H p = none) (k : DvAll Δ vs ds) : St K (upd H p (.lst vs)) dk ((p, ds) :: Γ) Δ := h.make_ hp fun H0 I => k.dp I.data
/-- what changes no more -/
theorem St.freeze (h : St K H dk ((p, ds) :: Γ) Δ) : St K H dk Γ ((.ref p, .list ds) :: Δ) := by
  obtain ⟨H0, I⟩ := h
  obtain ⟨g0, vs, g1, g2⟩ := I.lists (p, ds) (List.mem_cons_self ..)
  have nd := I.nd
  rw [List.map_cons, List.nodup_cons] at nd
  have s1 : Same H0 (upd H0 p (.lst vs)) := fun b u e => by rw [upd_ne (ne_of_none e g0)]; exact e
  have old : ∀ q ∈ Δ, Dp K (upd H0 p (.lst vs)) q.1 q.2 := fun q hq => dp_up s1 (I.data q hq)
  refine ⟨upd H0 p (.lst vs), fun b u e => ?_, fun q hq => ?_, fun g hg => ?_, nd.2, fun d l e => ?_⟩
  · by_cases hb : b = p
    · subst hb; rw [upd_same] at e; rw [← e]; exact g1
    · rw [upd_ne hb] at e; exact I.le b u e
  · rcases List.mem_cons.mp hq with rfl | hq
    · exact .lst (SqL.of upd_same) (dps_up s1 g2)
    · exact old q hq
  · obtain ⟨k0, vs', k1, k2⟩ := I.lists g (List.mem_cons_of_mem _ hg)
    have ne : g.1 ≠ p := fun e => nd.1 (List.mem_map.mpr ⟨g, hg, e⟩)
    rw [upd_ne ne]
    exact ⟨k0, vs', k1, dps_up s1 k2⟩
  · obtain ⟨a1, a2, a3, r⟩ := I.deck d l e
    have ap := a3 (p, ds) (List.mem_cons_self ..)
    rw [upd_ne ap.1.symm, upd_ne ap.2.symm]
    exact ⟨a1, a2, fun g hg => a3 g (List.mem_cons_of_mem _ hg), r⟩
/-- the first list as it stands -/
theorem St.look (h : St K H dk ((p, ds) :: Γ) Δ) : ∃ vs, H p = some (.lst vs) ∧ vs.length = ds.length ∧ (∀ (i : Nat) (x : D), ds[i]? = some x → ∃ v, vs[i]? = some v ∧ St K H dk ((p, ds) :: Γ) ((v, x) :: Δ)) ∧ (∀ H0, StI K H0 H dk ((p, ds) :: Γ) Δ → DpAll K H0 vs ds) := by
  obtain ⟨H0, I⟩ := h
  obtain ⟨g0, vs, g1, g2⟩ := I.lists (p, ds) (List.mem_cons_self ..)
  refine ⟨vs, g1, dps_len g2, fun i x e => ?_, fun H1 J => ?_⟩
  · obtain ⟨v, e1, e2⟩ := dps_at g2 e
    exact ⟨v, e1, H0, I.le, fun q hq => by rcases List.mem_cons.mp hq with rfl | hq; exact e2; exact I.data q hq, I.lists, I.nd, I.deck⟩
  · obtain ⟨_, vs', k1, k2⟩ := J.lists (p, ds) (List.mem_cons_self ..)
    rw [g1] at k1
    cases k1
    exact k2
/-- the first list changes -/
theorem St.put (h : St K H dk ((p, ds) :: Γ) Δ) {es : List D} {us : List V} (k : ∀ H0, StI K H0 H dk ((p, ds) :: Γ) Δ → DpAll K H0 us es) : St K (upd H p (.lst us)) dk ((p, es) :: Γ) Δ := by
  obtain ⟨H0, I⟩ := h
  obtain ⟨g0, vs, g1, g2⟩ := I.lists (p, ds) (List.mem_cons_self ..)
  have nd := I.nd
  rw [List.map_cons, List.nodup_cons] at nd
  refine ⟨H0, fun b u e => ?_, I.data, fun g hg => ?_, I.nd, fun d l e => ?_⟩
  · rw [upd_ne (ne_of_none e g0)]
    exact I.le b u e
  · rcases List.mem_cons.mp hg with rfl | hg
    · exact ⟨g0, us, upd_same, k H0 I⟩
    · obtain ⟨k0, vs', k1, k2⟩ := I.lists g (List.mem_cons_of_mem _ hg)
      exact ⟨k0, vs', by rw [upd_ne fun e => nd.1 (List.mem_map.mpr ⟨g, hg, e⟩)]; exact k1, k2⟩
  · obtain ⟨a1, a2, a3, s, xs, b1, b2, b3⟩ := I.deck d l e
    have ap := a3 (p, ds) (List.mem_cons_self ..)
    refine ⟨a1, a2, fun g hg => ?_, s, xs, ?_, ?_, b3⟩
    · rcases List.mem_cons.mp hg with rfl | hg
      · exact ap
      · exact a3 g (List.mem_cons_of_mem _ hg)
    · rw [upd_ne ap.1.symm]; exact b1
    · rw [upd_ne ap.2.symm]; exact b2
theorem St.swap {q : Addr} {es : List D} (h : St K H dk ((p, ds) :: (q, es) :: Γ) Δ) : St K H dk ((q, es) :: (p, ds) :: Γ) Δ := by
  obtain ⟨H0, I⟩ := h
  have mm : ∀ g, g ∈ (q, es) :: (p, ds) :: Γ → g ∈ (p, ds) :: (q, es) :: Γ := fun g hg => by
    simp only [List.mem_cons] at hg ⊢
    rcases hg with h | h | h
    · exact Or.inr (Or.inl h)
    · exact Or.inl h
    · exact Or.inr (Or.inr h)
  have nd := I.nd
  simp only [List.map_cons, List.nodup_cons, List.mem_cons, not_or] at nd
  refine ⟨H0, I.le, I.data, fun g hg => I.lists g (mm g hg), ?_, fun d l e => ?_⟩
  · simp only [List.map_cons, List.nodup_cons, List.mem_cons, not_or]
    exact ⟨⟨fun e => nd.1.1 e.symm, nd.2.1⟩, nd.1.2, nd.2.2⟩
  · obtain ⟨a1, a2, a3, r⟩ := I.deck d l e
    exact ⟨a1, a2, fun g hg => a3 g (mm g hg), r⟩
theorem St.drop (h : St K H dk ((p, ds) :: Γ) Δ) : St K H dk Γ Δ := h.freeze.weaken fun _ => List.mem_cons_of_mem _
/-- the deck -/
theorem St.deck {d l : Addr} (h : St K H (some (d, l)) Γ Δ) : DeckAt H d l := by
  obtain ⟨H0, I⟩ := h
  exact (I.deck d l rfl).2.2.2
theorem St.deal {d l : Addr} (h : St K H (some (d, l)) Γ Δ) (k : ∀ b, b ≠ d → b ≠ l → H' b = H b) (q : DeckAt H' d l) : St K H' (some (d, l)) Γ Δ := by
  obtain ⟨H0, I⟩ := h
  obtain ⟨a1, a2, a3, _⟩ := I.deck d l rfl
  refine ⟨H0, fun b u e => ?_, I.data, fun g hg => ?_, I.nd, fun d' l' e => ?_⟩
  · rw [k b (ne_of_none e a1) (ne_of_none e a2)]
    exact I.le b u e
  · obtain ⟨g0, vs, g1, g2⟩ := I.lists g hg
    rw [k _ (a3 g hg).1 (a3 g hg).2]
    exact ⟨g0, vs, g1, g2⟩
  · cases e
    exact ⟨a1, a2, a3, q⟩
theorem St.redeck {d l m : Addr} (h : St K H (some (d, l)) Γ Δ) (hm : H m = none) (k : ∀ b, b ≠ d → b ≠ m → H' b = H b) (q : DeckAt H' d m) : St K H' (some (d, m)) Γ Δ := by
  obtain ⟨H0, I⟩ := h
  obtain ⟨a1, a2, a3, _⟩ := I.deck d l rfl
  refine ⟨H0, fun b u e => ?_, I.data, fun g hg => ?_, I.nd, fun d' l' e => ?_⟩
  · have e' := I.le b u e
    rw [k b (ne_of_none e a1) (ne_of_none e' hm)]
    exact e'
  · obtain ⟨g0, vs, g1, g2⟩ := I.lists g hg
    rw [k _ (a3 g hg).1 (ne_of_none g1 hm)]
    exact ⟨g0, vs, g1, g2⟩
  · cases e
    exact ⟨a1, I.le.free hm, fun g hg => ⟨(a3 g hg).1, by obtain ⟨_, vs, g1, _⟩ := I.lists g hg; exact ne_of_none g1 hm⟩, q⟩
/-- a tuple, a list that stays: its items -/
theorem St.tupAt {a : Addr} (h : St K H dk Γ Δ) (k : (V.ref a, PyData.tuple ds) ∈ Δ) : ∃ vs, SqT K H a vs ∧ vs.length = ds.length ∧ ∃ Δ', Δ' = vs.zip ds ++ Δ ∧ St K H dk Γ Δ' ∧ DvAll Δ' vs ds := by
  obtain ⟨H0, I⟩ := h
  cases I.data _ k with
  | tup hs ha =>
    rename_i vs
    have hl := dps_len ha
    refine ⟨vs, Same.sqT I.le hs, hl, _, rfl, ⟨H0, I.le, fun q hq => ?_, I.lists, I.nd, I.deck⟩, ?_⟩
    · rcases List.mem_append.mp hq with hq | hq
      · exact dps_zip ha q hq
      · exact I.data q hq
    · exact dvs_zip hl
theorem St.lstAt {a : Addr} (h : St K H dk Γ Δ) (k : (V.ref a, PyData.list ds) ∈ Δ) : ∃ vs, SqL K H a vs ∧ vs.length = ds.length ∧ ∃ Δ', Δ' = vs.zip ds ++ Δ ∧ St K H dk Γ Δ' ∧ DvAll Δ' vs ds := by
  obtain ⟨H0, I⟩ := h
  cases I.data _ k with
  | lst hs ha =>
    rename_i vs
    have hl := dps_len ha
    refine ⟨vs, I.le.seq hs, hl, _, rfl, ⟨H0, I.le, fun q hq => ?_, I.lists, I.nd, I.deck⟩, ?_⟩
    · rcases List.mem_append.mp hq with hq | hq
      · exact dps_zip ha q hq
      · exact I.data q hq
    · exact dvs_zip hl
theorem dvs_at : ∀ {vs : List V} {ds : List D} {i : Nat} {x : D}, DvAll Δ vs ds → ds[i]? = some x → ∃ v, vs[i]? = some v ∧ Dv Δ v x
  | _, _, _, _, .nil, e => by simp at e
  | _, _, 0, _, .cons h _, e => by
    cases Option.some.inj (show some _ = some _ from e)
    exact ⟨_, rfl, h⟩
  | _, _, i + 1, _, .cons _ t, e => by
    obtain ⟨v, h1, h2⟩ := dvs_at (i := i) t (by simpa using e)
    exact ⟨v, by simpa using h1, h2⟩
theorem St.popAt (h : St K H dk ((p, ds) :: Γ) Δ) {k : Nat} {x : D} (hk : ds[k]? = some x) : ∃ vs y, H p = some (.lst vs) ∧ vs.length = ds.length ∧ vs[k]? = some y ∧ St K (upd H p (.lst (vs.eraseIdx k))) dk ((p, ds.eraseIdx k) :: Γ) ((y, x) :: Δ) := by
  obtain ⟨vs, h1, h2, h3, h4⟩ := h.look
  obtain ⟨y, h5, h6⟩ := h3 k x hk
  refine ⟨vs, y, h1, h2, h5, h6.put fun H0 I => ?_⟩
  obtain ⟨_, vs', k1, k2⟩ := I.lists (p, ds) (List.mem_cons_self ..)
  rw [h1] at k1
  cases k1
  exact dps_erase k k2
theorem St.push (h : St K H dk ((p, ds) :: Γ) Δ) {y : V} {x : D} (hy : Dv Δ y x) : ∃ vs, H p = some (.lst vs) ∧ vs.length = ds.length ∧ St K (upd H p (.lst (vs ++ [y]))) dk ((p, ds ++ [x]) :: Γ) Δ := by
  obtain ⟨vs, h1, h2, h3, h4⟩ := h.look
  exact ⟨vs, h1, h2, h.put fun H0 I => dps_app (h4 H0 I) (.cons (hy.dp I.data) .nil)⟩
theorem St.setAt (h : St K H dk ((p, ds) :: Γ) Δ) {y : V} {x : D} (hy : Dv Δ y x) (k : Nat) : ∃ vs, H p = some (.lst vs) ∧ vs.length = ds.length ∧ St K (upd H p (.lst (vs.set k y))) dk ((p, ds.set k x) :: Γ) Δ := by
  obtain ⟨vs, h1, h2, h3, h4⟩ := h.look
  exact ⟨vs, h1, h2, h.put fun H0 I => dps_set (hy.dp I.data) k (h4 H0 I)⟩
theorem St.insAt (h : St K H dk ((p, ds) :: Γ) Δ) {y : V} {x : D} (hy : Dv Δ y x) (k : Nat) : ∃ vs, H p = some (.lst vs) ∧ vs.length = ds.length ∧ St K (upd H p (.lst (vs.take k ++ [y] ++ vs.drop k))) dk ((p, ds.take k ++ [x] ++ ds.drop k) :: Γ) Δ := by
  obtain ⟨vs, h1, h2, h3, h4⟩ := h.look
  exact ⟨vs, h1, h2, h.put fun H0 I => dps_app (dps_app (dps_take k (h4 H0 I)) (.cons (hy.dp I.data) .nil)) (dps_drop k (h4 H0 I))⟩
theorem St.int_of (h : St K H dk Γ Δ) {i : Int} (k : (v, PyData.int i) ∈ Δ) : v = .int i := by
  obtain ⟨H0, I⟩ := h
  cases I.data _ k
  rfl
theorem St.ints_of (h : St K H dk Γ Δ) {ns : List Int} (k : DvAll Δ vs (ns.map PyData.int)) : vs = ns.map V.int := by
  obtain ⟨H0, I⟩ := h
  exact dps_ints (k.dp I.data)
/-- a tuple of two ints -/
theorem St.pair (h : St K H dk Γ Δ) {a : Addr} {i j : Int} (k : (V.ref a, PyData.tuple [.int i, .int j]) ∈ Δ) : SqT K H a [.int i, .int j] := by
  obtain ⟨vs, h1, h2, Δ', e, h3, h4⟩ := h.tupAt k
  have := h3.ints_of (ns := [i, j]) h4
  rw [this] at h1
  exact h1
theorem St.ref_of (h : St K H dk Γ Δ) (k : (v, PyData.tuple ds) ∈ Δ) : ∃ a, v = .ref a := by
  obtain ⟨H0, I⟩ := h
  cases I.data _ k
  exact ⟨_, rfl⟩
theorem St.lref_of (h : St K H dk Γ Δ) (k : (v, PyData.list ds) ∈ Δ) : ∃ a, v = .ref a := by
  obtain ⟨H0, I⟩ := h
  cases I.data _ k
  exact ⟨_, rfl⟩
end
theorem ixN_of {n : Nat} {i : Int} (h0 : 0 ≤ i) (h : i < n) : ixN n i = some i.toNat := by
  unfold ixN
  rw [if_pos h0, if_pos h]
theorem seq_of {n : Nat} {i : Int} (h0 : 0 ≤ i) (h : i < n) : seqIndex? i n = some i.toNat := (ixN_seq (ixN_of h0 h)).1
theorem atI_of {α : Type} {xs : List α} {i : Int} {v : α} (h0 : 0 ≤ i) (h : xs[i.toNat]? = some v) : atI xs i = some v := by
  have e : i = ((i.toNat : Nat) : Int) := by omega
  rw [e]
  exact atI_nat h
section
variable {K : PySem.W.Frag} {a : Addr} {n : Nat}
theorem walkT : Walk (Itt K a) n (fun H => ∃ xs, SqT K H a xs ∧ xs.length = n) (fun i H x H' => H' = H ∧ ∀ xs, SqT K H a xs → xs[i]? = some x) :=
  ⟨fun i H hi q => by obtain ⟨xs, h1, rfl⟩ := q; exact ⟨xs, xs[i], h1, List.getElem?_eq_getElem hi⟩, fun H q => by obtain ⟨xs, h1, rfl⟩ := q; exact ⟨xs, h1, Nat.le_refl _⟩, fun i H x H' hi q y => y⟩
theorem walkL : Walk (Itl K a) n (fun H => ∃ xs, SqL K H a xs ∧ xs.length = n) (fun i H x H' => H' = H ∧ ∀ xs, SqL K H a xs → xs[i]? = some x) :=
  ⟨fun i H hi q => by obtain ⟨xs, h1, rfl⟩ := q; exact ⟨xs, xs[i], h1, List.getElem?_eq_getElem hi⟩, fun H q => by obtain ⟨xs, h1, rfl⟩ := q; exact ⟨xs, h1, Nat.le_refl _⟩, fun i H x H' hi q y => y⟩
theorem walkET : Walk (Itet K a) n (fun H => ∃ xs, SqT K H a xs ∧ xs.length = n) (fun i H v H' => ∃ T x, v = .ref T ∧ H T = none ∧ H' = upd H T (.tup [.int (i : Nat), x]) ∧ ∀ xs, SqT K H a xs → xs[i]? = some x) :=
  ⟨fun i H hi q => by obtain ⟨xs, h1, rfl⟩ := q; exact ⟨xs, xs[i], h1, List.getElem?_eq_getElem hi⟩, fun H q => by obtain ⟨xs, h1, rfl⟩ := q; exact ⟨xs, h1, Nat.le_refl _⟩, fun i H x H' hi q y => y⟩
theorem walkEL : Walk (Ite K a) n (fun H => ∃ xs, SqL K H a xs ∧ xs.length = n) (fun i H v H' => ∃ T x, v = .ref T ∧ H T = none ∧ H' = upd H T (.tup [.int (i : Nat), x]) ∧ ∀ xs, SqL K H a xs → xs[i]? = some x) :=
  ⟨fun i H hi q => by obtain ⟨xs, h1, rfl⟩ := q; exact ⟨xs, xs[i], h1, List.getElem?_eq_getElem hi⟩, fun H q => by obtain ⟨xs, h1, rfl⟩ := q; exact ⟨xs, h1, Nat.le_refl _⟩, fun i H x H' hi q y => y⟩
end
section
variable {K : PySem.W.Frag} {H H' : Hp} {dk : Dk} {Γ : List (Addr × List D)} {Δ : List (V × D)} {x : V} {d : D} {ds : List D} {a T : Addr} {i : Nat}
theorem dvs_back : ∀ {vs : List V} {ds : List D} {i : Nat} {v : V}, DvAll Δ vs ds → vs[i]? = some v → ∃ x, ds[i]? = some x ∧ Dv Δ v x
  | _, _, _, _, .nil, e => by simp at e
  | _, _, 0, _, .cons h _, e => by
    cases Option.some.inj (show some _ = some _ from e)
    exact ⟨_, rfl, h⟩
  | _, _, i + 1, _, .cons _ t, e => by
    obtain ⟨v, h1, h2⟩ := dvs_back (i := i) t (by simpa using e)
    exact ⟨v, by simpa using h1, h2⟩
/-- a tuple that stays is walked: the item of this turn -/
theorem St.turnT (h : St K H dk Γ Δ) (k : (V.ref a, PyData.tuple ds) ∈ Δ) (f : ∀ xs, SqT K H a xs → xs[i]? = some x) : ∃ d, ds[i]? = some d ∧ St K H dk Γ ((x, d) :: Δ) := by
  obtain ⟨vs, h1, h2, Δ', rfl, h3, h4⟩ := h.tupAt k
  obtain ⟨d, e1, e2⟩ := dvs_back h4 (f vs h1)
  refine ⟨d, e1, (h3.also e2).weaken fun q hq => ?_⟩
  rcases List.mem_cons.mp hq with rfl | hq
  · exact List.mem_cons_self ..
  · exact List.mem_cons_of_mem _ (List.mem_append_right _ hq)
theorem St.turnL (h : St K H dk Γ Δ) (k : (V.ref a, PyData.list ds) ∈ Δ) (f : ∀ xs, SqL K H a xs → xs[i]? = some x) : ∃ d, ds[i]? = some d ∧ St K H dk Γ ((x, d) :: Δ) := by
  obtain ⟨vs, h1, h2, Δ', rfl, h3, h4⟩ := h.lstAt k
  obtain ⟨d, e1, e2⟩ := dvs_back h4 (f vs h1)
  refine ⟨d, e1, (h3.also e2).weaken fun q hq => ?_⟩
  rcases List.mem_cons.mp hq with rfl | hq
  · exact List.mem_cons_self ..
  · exact List.mem_cons_of_mem _ (List.mem_append_right _ hq)
theorem St.lenT (h : St K H dk Γ Δ) (k : (V.ref a, PyData.tuple ds) ∈ Δ) : ∃ xs, SqT K H a xs ∧ xs.length = ds.length := by
  obtain ⟨vs, h1, h2, _⟩ := h.tupAt k
  exact ⟨vs, h1, h2⟩
theorem St.lenL (h : St K H dk Γ Δ) (k : (V.ref a, PyData.list ds) ∈ Δ) : ∃ xs, SqL K H a xs ∧ xs.length = ds.length := by
  obtain ⟨vs, h1, h2, _⟩ := h.lstAt k
  exact ⟨vs, h1, h2⟩
/-- the pair of enumerate -/
theorem St.enumd (h : St K H dk Γ ((x, d) :: Δ)) (hT : H T = none) : St K (upd H T (.tup [.int (i : Nat), x])) dk Γ ((x, d) :: Δ) :=
  (h.tup (ds := [.int (i : Nat), d]) hT (.cons (.int _) (.cons (.of (List.mem_cons_self ..)) .nil))).weaken fun _ => List.mem_cons_of_mem _
end
end EE

namespace EE
open PySem PySem.Spec PyProof.Rows L2
/-! ### defs of the text, by what they promise -/
structure Fd (P : Program) (w : World) (K : PySem.W.Frag) (mg : Str → Option Value) (base : Heap) (x : Str) (k : Nat) (ps : List Str) (sp : Sp) : Prop where
  ex : ∃ (f : Addr) (fd : FuncData), FnOk P w K mg base CX0 k f fd ps sp ∧ mg x = some (.ref f) ∧ PySem.W.keepIn K (.ref f) = true ∧ Binds K fd ps []
section
variable {P : Program} {w : World} {K : PySem.W.Frag} {mg : Str → Option Value} {base : Heap}
theorem Fd.mk' {x qual : Str} {st : Stmt} {f : Addr} {fd : FuncData} {k : Nat} {ps : List Str} {sp : Sp} (F : Fun K x qual st f fd) (G : FnOk P w K mg base CX0 k f fd ps sp) (hm : mg x = some (.ref f)) (hb : Binds K fd ps []) : Fd P w K mg base x k ps sp :=
  ⟨f, fd, G, hm, F.kp, hb⟩
end
section
variable {X : Cx} {k : Nat} {ps : List Str} {sp : Sp} {x : Str} {p pos : Pos} {e : Expr} {es : List Expr} {t : TA}
theorem pe_fd (F : Fd X.prog X.w X.K X.mg X.base x k ps sp) (hr : Room k X.A) (hg : Gl X x) (ha : PA X (e :: es) t) (hx : Passes CX0 X E0 := by exact pass0) (hdb : (x == ("__debug__" : Str)) = false := by decide) (he : starEach (e :: es) X.env = (false, eval e X.env) :: starEach es X.env := by rfl)
    (hpl : (backTo pos (starEach es X.env)).any (·.1) = false := by rfl) : PE X (.Call (.Name x p) (e :: es) [] pos) (tCall sp [] E0 t) := by
  obtain ⟨f, fd, G, hm, hk, hb⟩ := F.ex
  exact pe_call G hr hg hm hk hb .nil hx ha hdb he hpl
theorem pe_k {x : Str} {i : Int} {pos : Pos} (hm : ∃ t, X.mg x = some (.int i t)) (hg : Gl X x) (hd : (x == ("__debug__" : Str)) = false := by decide) : PE X (.Name x pos) (tC (.int i)) := by
  obtain ⟨t, hm⟩ := hm
  exact pe_glob hg hm ⟨_, rfl⟩ hd
end
/-- the built-in names stand as they were -/
def bnames : List Str := ["len", "abs", "max", "min", "int", "list", "tuple", "range", "enumerate", "repr", "isinstance", "sum", "sorted", "str", "any", "all", "zip", "bool", "set", "dict"]
def NB (mg : Str → Option Value) (l : List Str) : Prop := ∀ x, l.contains x = true → mg x = none
/-! ### f(k = v, ..), all by name -/
structure KB (fdk : FuncData) (K : PySem.W.Frag) (ps ks : List Str) (g : List Value → List Value) (gV : List V → List V) : Prop where
  to : ∀ (s : Shared) (ws : List Value), K.In s.heap → (g ws).length = ps.length → BindsTo s fdk ⟨[], ks.zip ws⟩ (ps.zip (g ws))
  rel : ∀ {zs : List V} {ws : List Value}, Vals zs ws → Vals (gV zs) (g ws)
structure Fk (P : Program) (w : World) (K : PySem.W.Frag) (mg : Str → Option Value) (base : Heap) (x : Str) (k : Nat) (ps ks : List Str) (gV : List V → List V) (sp : Sp) : Prop where
  ex : ∃ (f : Addr) (fd : FuncData) (g : List Value → List Value), FnOk P w K mg base CX0 k f fd ps sp ∧ mg x = some (.ref f) ∧ PySem.W.keepIn K (.ref f) = true ∧ KB fd K ps ks g gV
section
variable {X : Cx} {k : Nat} {ps ks : List Str} {gV : List V → List V} {sp : Sp} {x : Str} {p pos : Pos} {kws : List Keyword} {tk : TA}
def tCallK0 (sp : Sp) (gV : List V → List V) (E : XK) (tk : TA) : TE := fun σ H Q => tk σ H fun zs H2 => sp (gV zs) H2 Q E
theorem pe_fk (F : Fk X.prog X.w X.K X.mg X.base x k ps ks gV sp) (hr : Room k X.A) (hg : Gl X x) (hkw : PK X kws tk) (hall : (backToKw pos (keywordEach kws X.env)).all (·.1.isSome) = true := by rfl) (hks : (backToKw pos (keywordEach kws X.env)).filterMap (·.1) = ks := by rfl)
    (hdb : (x == ("__debug__" : Str)) = false := by decide) (hpl : ((backTo pos (starEach [] X.env)).any (·.1) || (backToKw pos (keywordEach kws X.env)).any (·.1.isNone)) = false := by rfl) :
    PE X (.Call (.Name x p) [] kws pos) (tCallK0 sp gV E0 tk) := by
  obtain ⟨f, fd, g, G, hm, hk, hb⟩ := F.ex
  refine ⟨fun pins s σ H Q I h => wpAny_Call_Name_kw (ld_glob I hg hm ?_ hdb)⟩
  refine PySem.W.callWith_KW0 (h₀ := X.base) (first := []) I.ok.mod.kin hk hall (thn (hkw.run pos pins s σ H _ I h) fun ws s2 q => ?_) hpl
  obtain ⟨zs, H2, I2, rz, q2⟩ := q
  refine ⟨I2.kIn, ?_⟩
  rw [hks]
  have r2 := hb.rel rz
  have hl : (g ws).length = ps.length := by
    rw [← r2.length]
    exact G.len _ _ _ _ q2
  refine wpAny_call (codeAny_mono (G.run X.A X.stack s2 H2 ⟨[], ks.zip ws⟩ (g ws) (gV zs) Q E0 hr I2.env0 (hb.to s2 ws I2.kIn hl) r2 q2) fun r s' hq => ?_)
  cases r with
  | error e => exact (show False from hq).elim
  | ok fl =>
    cases fl with
    | ret u => exact I2.after hq
    | next => exact (show False from hq).elim
    | brk => exact (show False from hq).elim
    | cont => exact (show False from hq).elim
end
theorem _root_.L2.Fun.kb {K : PySem.W.Frag} {x qual : Str} {st : Stmt} {f : Addr} {fd : FuncData} {ps ks : List Str} (F : Fun K x qual st f fd)
    (h : ∀ (kV doc pm : Value) (an : Option Addr) (cdv ct : Value) (us : List Value), us.length = ps.length → bindArgs (PySem.W.fnOf x qual (defArgs st) (defBody st) (defScope st) .none kV doc pm an cdv ct) ⟨[], ks.zip us⟩ = pure (ps.zip us.reverse)) :
    KB fd K ps ks (fun ws => ws.reverse) (fun zs => zs.reverse) := by
  obtain ⟨oc, od, kV, doc, pm, an, cdv, ct, osl, rfl, lk, hcd⟩ := F.ex
  refine ⟨fun s ws _ hl => .of_eq (h kV doc pm an cdv ct ws ?_), fun r => r.reverse⟩
  rw [List.length_reverse] at hl
  exact hl
/-! ### powers of great bases -/
def CPowW (i j : Int) : Prop := 0 ≤ j ∧ (Builtin.Int.intBits i : Int) * j ≤ 2 ^ 27
theorem op_powW {X : Cx} : OpR X (binaryOp .Pow) (rI CPowW fun i j => .int (i ^ j.toNat)) := opI fun _ _ _ _ _ _ _ hc q => pow_int hc.1 hc.2 q
/-! ### // by any positive divisor, where C divides -/
def CDivX (i j : Int) : Prop := 0 < j ∧ Builtin.divisionGoesByPylong i j = false
theorem op_fdivX {X : Cx} : OpR X (binaryOp .FloorDiv) (rI CDivX fun i j => .int (i / j)) := opI fun i j _ _ _ _ _ hc q => by
  have h1 : (0 : Int) < j := hc.1
  refine floordiv_int (by omega) ?_ (.inl hc.2)
  rw [Int.fdiv_eq_ediv_of_nonneg i (by omega)]
  exact q
theorem divx_of {i j : Int} (h : CDivW i j) : CDivX i j := ⟨h.1, PyProof.noPylong_of_log2 h.2⟩
theorem divx_small {i j : Int} {n : Nat} (hj : 0 < j) (hi : i.natAbs < 2 ^ n) (hn : n ≤ 4000) : CDivX i j := ⟨hj, (divp_ok hj (by have := PyProof.Rows.intBits_le hi; omega)).2⟩
end EE

namespace EE
open PySem PySem.Spec PyProof.Rows L2
/-! ### data that can be shown and compared: n bounds its text -/
structure Sm (n k : Nat) (d : D) : Prop where
  show_ : d.showable = true
  deep : d.depth ≤ k
  long : d.shown.length ≤ n
  lay : d.canLay0 = true
theorem Sm.mono {n k n' k' : Nat} {d : D} (h : Sm n k d) (h1 : n ≤ n') (h2 : k ≤ k') : Sm n' k' d := ⟨h.show_, Nat.le_trans h.deep h2, Nat.le_trans h.long h1, h.lay⟩
theorem sm_non : Sm 5 0 (.none : D) := ⟨by simp only [PyData.showable], by simp only [PyData.depth]; exact Nat.le_refl 0, by decide, by simp only [PyData.canLay0]⟩
theorem sm_bool (b : Bool) : Sm 5 0 (.bool b : D) := ⟨by simp only [PyData.showable], by simp only [PyData.depth]; exact Nat.le_refl 0, by cases b <;> decide, by simp only [PyData.canLay0]⟩
theorem sm_int {i : Int} (h0 : 0 ≤ i) (h : i < 10 ^ 570) : Sm 570 0 (.int i : D) := by
  refine ⟨?_, by simp only [PyData.depth]; exact Nat.le_refl 0, ?_, by simp only [PyData.canLay0]⟩
  · simp only [PyData.showable, decide_eq_true_eq]
    have h2 : i.natAbs < 2 ^ 1900 := by
      have e : (10 : Int) ^ 570 < 2 ^ 1900 := by decide +kernel
      omega
    exact Nat.lt_trans (PySem.Flt.log2_lt_of (by decide) h2) (by decide)
  · simp only [PyData.shown]
    exact toString_length_le h0 (by decide) h
theorem sms_sum {n k : Nat} : ∀ {ds : List D}, (∀ d ∈ ds, Sm n k d) → PyData.showableAll ds = true ∧ PyData.depthAll ds ≤ k ∧ ((PyData.shownAll ds).map (·.length)).sum ≤ ds.length * n ∧ PyData.canLayAll0 ds = true ∧ (PyData.shownAll ds).length = ds.length
  | [], _ => ⟨by simp only [PyData.showableAll], by simp only [PyData.depthAll]; exact Nat.zero_le _, by simp [PyData.shownAll], by simp only [PyData.canLayAll0], by simp [PyData.shownAll]⟩
  | d :: ds, h => by
    have h1 := h d (List.mem_cons_self ..)
    obtain ⟨a, b, c, e, f⟩ := sms_sum fun x hx => h x (List.mem_cons_of_mem _ hx)
    have h1d := h1.deep
    have h1l := h1.long
    refine ⟨by simp only [PyData.showableAll, h1.show_, a, Bool.and_self], by simp only [PyData.depthAll]; omega, ?_, by simp only [PyData.canLayAll0, h1.lay, e, Bool.and_self], by simp only [PyData.shownAll, List.length_cons, f]⟩
    simp only [PyData.shownAll, List.map_cons, List.sum_cons, List.length_cons, Nat.add_mul, Nat.one_mul]
    omega
theorem sm_list {n k : Nat} {ds : List D} (h : ∀ d ∈ ds, Sm n k d) : Sm (ds.length * (n + 2) + 3) (k + 1) (.list ds : D) := by
  obtain ⟨a, b, c, e, f⟩ := sms_sum h
  refine ⟨by simp only [PyData.showable, a], by simp only [PyData.depth]; omega, ?_, by simp only [PyData.canLay0, e]⟩
  simp only [PyData.shown]
  refine Nat.le_trans (listText_len_le _) ?_
  rw [f, Nat.mul_add]
  omega
theorem sm_tuple {n k : Nat} {ds : List D} (h : ∀ d ∈ ds, Sm n k d) : Sm (ds.length * (n + 2) + 3) (k + 1) (.tuple ds : D) := by
  obtain ⟨a, b, c, e, f⟩ := sms_sum h
  refine ⟨by simp only [PyData.showable, a], by simp only [PyData.depth]; omega, ?_, by simp only [PyData.canLay0, e]⟩
  simp only [PyData.shown]
  refine Nat.le_trans (tupleText_len_le _) ?_
  rw [f, Nat.mul_add]
  omega
theorem Sm.shaped {n k : Nat} {d : D} (h : Sm n k d) (hk : k ≤ 60) : SeqAt.shaped d = true := by
  unfold SeqAt.shaped
  have := h.deep
  simp only [h.lay, Bool.true_and, decide_eq_true_eq]
  omega
/-- what can be compared -/
def Lay (k : Nat) (ds : List D) : Prop := PyData.canLayAll0 ds = true ∧ PyData.depthAll ds ≤ k
theorem lay_nil {k : Nat} : Lay k [] := ⟨by simp only [PyData.canLayAll0], by simp only [PyData.depthAll]; exact Nat.zero_le _⟩
theorem lay_cons {k : Nat} {d : D} {ds : List D} (h : d.canLay0 = true) (h2 : d.depth ≤ k) (t : Lay k ds) : Lay k (d :: ds) := ⟨by simp only [PyData.canLayAll0, h, t.1, Bool.and_self], by simp only [PyData.depthAll]; have := t.2; omega⟩
theorem lay_of {k : Nat} : ∀ {ds : List D}, (∀ d ∈ ds, d.canLay0 = true ∧ d.depth ≤ k) → Lay k ds
  | [], _ => lay_nil
  | d :: ds, h => lay_cons (h d (List.mem_cons_self ..)).1 (h d (List.mem_cons_self ..)).2 (lay_of fun x hx => h x (List.mem_cons_of_mem _ hx))
theorem lay_ints {k : Nat} (ns : List Int) : Lay k (ns.map PyData.int) := lay_of fun d hd => by
  obtain ⟨i, _, rfl⟩ := List.mem_map.mp hd
  exact ⟨by simp only [PyData.canLay0], by simp only [PyData.depth]; exact Nat.zero_le _⟩
theorem lay_list {ds : List D} (h : Lay 60 ds) : SeqAt.shaped (.list ds) = true := by
  have h2 := h.2
  refine Bool.and_eq_true_iff.mpr ⟨by simp only [PyData.canLay0, h.1], decide_eq_true ?_⟩
  simp only [PyData.depth]
  omega
theorem lay_tuple {ds : List D} (h : Lay 60 ds) : SeqAt.shaped (.tuple ds) = true := by
  have h2 := h.2
  refine Bool.and_eq_true_iff.mpr ⟨by simp only [PyData.canLay0, h.1], decide_eq_true ?_⟩
  simp only [PyData.depth]
  omega
section
variable {K : PySem.W.Frag} {H : Hp} {x y : V} {ds : List D} {Q : VK}
theorem ne_nil_list (hx : Dp K H x (.list ds)) (hy : Dp K H y (.list [])) (h : Lay 60 ds) (q : Q (.bl (!ds.isEmpty)) H) : rNeD K x y H Q := by
  refine ⟨.list ds, .list [], hx, hy, lay_list h, lay_list lay_nil, ?_⟩
  cases ds with
  | nil => exact q
  | cons d ds => exact q
theorem ne_nil_tup (hx : Dp K H x (.tuple ds)) (hy : Dp K H y (.tuple [])) (h : Lay 60 ds) (q : Q (.bl (!ds.isEmpty)) H) : rNeD K x y H Q := by
  refine ⟨.tuple ds, .tuple [], hx, hy, lay_tuple h, lay_tuple lay_nil, ?_⟩
  cases ds with
  | nil => exact q
  | cons d ds => exact q
end
/-! ### the deck's dict -/
section
variable {H : Hp} {d l : Addr} {s : Int} {v : V}
theorem deck_deep (h : H d = some (.dK [(.inr "deep", .ref l), (.inr "state", .int s)])) : DGet H d (.str "deep") (some (.ref l)) := by
  have g := DGet.k (k := (.inr "deep" : Key)) h
  rw [valV_pos rfl] at g
  exact g
theorem deck_state (h : H d = some (.dK [(.inr "deep", .ref l), (.inr "state", .int s)])) : DGet H d (.str "state") (some (.int s)) := by
  have g := DGet.k (k := (.inr "state" : Key)) h
  rw [valV_neg (by show ¬ ((Sum.inr ("deep" : Str) : Key) = Sum.inr ("state" : Str)); decide), valV_pos rfl] at g
  exact g
theorem put_state (h : H d = some (.dK [(.inr "deep", .ref l), (.inr "state", .int s)])) : DPut H d (.str "state") v (upd H d (.dK [(.inr "deep", .ref l), (.inr "state", v)])) := by
  have g := DPut.k (k := (.inr "state" : Key)) (v := v) h (by show 2 < sizeLine; decide)
  have e : putK [((.inr "deep" : Key), V.ref l), (.inr "state", .int s)] (.inr "state") v = [(.inr "deep", .ref l), (.inr "state", v)] := by
    have n : ¬ ((Sum.inr ("deep" : Str) : Key) = Sum.inr ("state" : Str)) := by decide
    simp [putK, n]
  rw [e] at g
  exact g
theorem put_deep {m : Addr} (h : H d = some (.dK [(.inr "deep", .ref l), (.inr "state", .int s)])) : DPut H d (.str "deep") (.ref m) (upd H d (.dK [(.inr "deep", .ref m), (.inr "state", .int s)])) := by
  have g := DPut.k (k := (.inr "deep" : Key)) (v := .ref m) h (by show 2 < sizeLine; decide)
  have e : putK [((.inr "deep" : Key), V.ref l), (.inr "state", .int s)] (.inr "deep") (.ref m) = [(.inr "deep", .ref m), (.inr "state", .int s)] := by
    have n : ¬ ((Sum.inr ("state" : Str) : Key) = Sum.inr ("deep" : Str)) := by decide
    simp [putK, n]
  rw [e] at g
  exact g
end
theorem dk_ne {H : Hp} {d l : Addr} {a : List (Key × V)} {b : List V} (h1 : H d = some (.dK a)) (h2 : H l = some (.lst b)) : d ≠ l := ne_of h1 h2 (by intro z; cases z)
end EE

namespace EE
open PySem PySem.Spec PyProof.Rows L2
theorem ifp {c A B : Prop} [Decidable c] (hc : c) (h : A) : if c then A else B := by
  rw [if_pos hc]
  exact h
theorem ifn {c A B : Prop} [Decidable c] (hc : ¬ c) (h : B) : if c then A else B := by
  rw [if_neg hc]
  exact h
theorem up_old {H : Hp} {a p : Addr} {u o : HO} (h : H a = some u) (hp : H p = none) : upd H p o a = some u := (upd_ne (ne_of_none h hp)).trans h
/-! ### an expression that is worth a datum, whatever is known besides -/
def Sub (Δ Δ' : List (V × D)) : Prop := ∀ x ∈ Δ, x ∈ Δ'
theorem Sub.rfl' {Δ : List (V × D)} : Sub Δ Δ := fun _ h => h
theorem Sub.trans {A B C : List (V × D)} (h : Sub A B) (k : Sub B C) : Sub A C := fun x hx => k x (h x hx)
theorem Sub.cons {A B : List (V × D)} {x : V × D} (h : Sub A B) : Sub A (x :: B) := fun y hy => List.mem_cons_of_mem _ (h y hy)
def EvD (K : PySem.W.Frag) (B : List (V × D)) (te : TE) (σ : L2.St) (d : D) : Prop := ∀ (H : Hp) (dk : Dk) (Γ : List (Addr × List D)) (Δ : List (V × D)) (Q : VK), Sub B Δ → St K H dk Γ Δ →
  (∀ v H' Δ', Sub Δ Δ' → St K H' dk Γ Δ' → Dv Δ' v d → Q v H') → te σ H Q
def EvDs (K : PySem.W.Frag) (B : List (V × D)) (ta : TA) (σ : L2.St) (ds : List D) : Prop := ∀ (H : Hp) (dk : Dk) (Γ : List (Addr × List D)) (Δ : List (V × D)) (Q : List V → Hp → Prop), Sub B Δ → St K H dk Γ Δ →
  (∀ vs H' Δ', Sub Δ Δ' → St K H' dk Γ Δ' → DvAll Δ' vs ds → Q vs H') → ta σ H Q
section
variable {K : PySem.W.Frag} {B : List (V × D)} {σ : L2.St} {ta tb : TE} {tr : TA} {d : D} {ds : List D} {v : V} {i j : Int}
theorem ed_int : EvD K B (tC (.int i)) σ (.int i) := fun H dk Γ Δ Q hb hS q => q _ H Δ .rfl' hS (.int i)
theorem ed_str {x : Str} : EvD K B (tC (.str x)) σ (.str x) := fun H dk Γ Δ Q hb hS q => q _ H Δ .rfl' hS (.str x)
theorem ed_non : EvD K B (tC .non) σ .none := fun H dk Γ Δ Q hb hS q => q _ H Δ .rfl' hS .non
theorem ed_bl {b : Bool} : EvD K B (tC (.bl b)) σ (.bool b) := fun H dk Γ Δ Q hb hS q => q _ H Δ .rfl' hS (.bl b)
theorem ed_var {n : Nat} (e : σ[n]? = some (some v)) (h : Dv B v d) : EvD K B (tVar n) σ d := fun H dk Γ Δ Q hb hS q => ⟨v, e, q v H Δ .rfl' hS (h.sub hb)⟩
theorem ed_varI {n : Nat} (e : σ[n]? = some (some (.int i))) : EvD K B (tVar n) σ (.int i) := ed_var e (.int i)
theorem ed_varB {n : Nat} {b : Bool} (e : σ[n]? = some (some (.bl b))) : EvD K B (tVar n) σ (.bool b) := ed_var e (.bl b)
theorem eds_nil : EvDs K B tNil σ [] := fun H dk Γ Δ Q hb hS q => q _ H Δ .rfl' hS .nil
theorem eds_cons (h : EvD K B ta σ d) (t : EvDs K B tr σ ds) : EvDs K B (tCons ta tr) σ (d :: ds) := fun H dk Γ Δ Q hb hS q =>
  h H dk Γ Δ _ hb hS fun v H1 Δ1 s1 hS1 d1 => t H1 dk Γ Δ1 _ (hb.trans s1) hS1 fun vs H2 Δ2 s2 hS2 d2 => q _ H2 Δ2 (s1.trans s2) hS2 (.cons (d1.sub s2) d2)
theorem ed_tup (h : EvDs K B tr σ ds) (hz : ds.length ≤ 10000) : EvD K B (tTup tr) σ (.tuple ds) := fun H dk Γ Δ Q hb hS q =>
  h H dk Γ Δ _ hb hS fun vs H1 Δ1 s1 hS1 d1 => ⟨by rw [d1.len]; exact Nat.le_trans hz (by decide), fun p hp => q _ _ _ (s1.trans (Sub.cons .rfl')) (hS1.tup hp d1) (.of (List.mem_cons_self ..))⟩
theorem ed_lst (h : EvDs K B tr σ ds) (hz : ds.length ≤ 10000) : EvD K B (tLst tr) σ (.list ds) := fun H dk Γ Δ Q hb hS q =>
  h H dk Γ Δ _ hb hS fun vs H1 Δ1 s1 hS1 d1 => ⟨by rw [d1.len]; exact Nat.le_trans hz (by decide), fun p hp => q _ _ _ (s1.trans (Sub.cons .rfl')) (hS1.lst hp d1) (.of (List.mem_cons_self ..))⟩
theorem Dv.isInt {Δ : List (V × D)} {H : Hp} {dk : Dk} {Γ : List (Addr × List D)} (hS : St K H dk Γ Δ) (h : Dv Δ v (.int i)) : v = .int i := by
  cases h with
  | of m => exact hS.int_of m
  | int => rfl
theorem ed_I0 {g : Int → Int → Int} (h1 : EvD K B ta σ (.int i)) (h2 : EvD K B tb σ (.int j)) : EvD K B (tOp (rI0 fun i j => .int (g i j)) ta tb) σ (.int (g i j)) := fun H dk Γ Δ Q hb hS q =>
  h1 H dk Γ Δ _ hb hS fun v H1 Δ1 s1 hS1 d1 => h2 H1 dk Γ Δ1 _ (hb.trans s1) hS1 fun u H2 Δ2 s2 hS2 d2 => by
    obtain rfl := d1.isInt hS1
    obtain rfl := d2.isInt hS2
    exact ⟨i, j, rfl, rfl, q _ _ _ (s1.trans s2) hS2 (.int _)⟩
theorem ed_I {C : Int → Int → Prop} {g : Int → Int → Int} (h1 : EvD K B ta σ (.int i)) (h2 : EvD K B tb σ (.int j)) (hc : C i j) : EvD K B (tOp (rI C fun i j => .int (g i j)) ta tb) σ (.int (g i j)) := fun H dk Γ Δ Q hb hS q =>
  h1 H dk Γ Δ _ hb hS fun v H1 Δ1 s1 hS1 d1 => h2 H1 dk Γ Δ1 _ (hb.trans s1) hS1 fun u H2 Δ2 s2 hS2 d2 => by
    obtain rfl := d1.isInt hS1
    obtain rfl := d2.isInt hS2
    exact ⟨i, j, rfl, rfl, hc, q _ _ _ (s1.trans s2) hS2 (.int _)⟩
theorem ed_neg {g : Int → Int} (h1 : EvD K B ta σ (.int i)) : EvD K B (tUn (rU fun i => .int (g i)) ta) σ (.int (g i)) := fun H dk Γ Δ Q hb hS q =>
  h1 H dk Γ Δ _ hb hS fun v H1 Δ1 s1 hS1 d1 => by
    obtain rfl := d1.isInt hS1
    exact ⟨i, rfl, q _ _ _ s1 hS1 (.int _)⟩
/-- to go on from a datum -/
theorem EvD.go (h : EvD K B ta σ d) {H : Hp} {dk : Dk} {Γ : List (Addr × List D)} {Δ : List (V × D)} {Q : VK} (hb : Sub B Δ) (hS : St K H dk Γ Δ) (q : ∀ v H', St K H' dk Γ ((v, d) :: Δ) → Q v H') : ta σ H Q :=
  h H dk Γ Δ Q hb hS fun v H' Δ' s hS' dv => q v H' ((hS'.also dv).weaken fun x hx => by
    rcases List.mem_cons.mp hx with rfl | hx
    · exact List.mem_cons_self ..
    · exact List.mem_cons_of_mem _ (s x hx))
end
theorem sub_nil {Δ : List (V × D)} : Sub [] Δ := fun _ h => nomatch h
section
variable {K : PySem.W.Frag} {B : List (V × D)} {σ : L2.St} {H : Hp} {dk : Dk} {Γ : List (Addr × List D)} {Δ : List (V × D)} {tr : TA} {ds es : List D} {p r : Addr} {Q : VK}
/-- a list display that may change -/
theorem EvDs.make (h : EvDs K B tr σ ds) (hb : Sub B Δ) (hS : St K H dk Γ Δ) (hz : ds.length ≤ 10000) (q : ∀ p H', St K H' dk ((p, ds) :: Γ) Δ → Q (.ref p) H') : tLst tr σ H Q :=
  h H dk Γ Δ _ hb hS fun vs H1 Δ1 s1 hS1 d1 => ⟨by rw [d1.len]; exact Nat.le_trans hz (by decide), fun p hp => q p _ ((hS1.make hp d1).weaken s1)⟩
/-- two lists put together -/
theorem St.cat (hS : St K H dk ((p, ds) :: (r, es) :: Γ) Δ) : ∃ xs zs, H p = some (.lst xs) ∧ H r = some (.lst zs) ∧ xs.length = ds.length ∧ zs.length = es.length ∧ ∀ t, H t = none → St K (upd H t (.lst (xs ++ zs))) dk ((t, ds ++ es) :: (p, ds) :: (r, es) :: Γ) Δ := by
  obtain ⟨xs, h1, h2, _, h3⟩ := hS.look
  obtain ⟨zs, k1, k2, _, _⟩ := hS.swap.look
  refine ⟨xs, zs, h1, k1, h2, k2, fun t ht => hS.make_ ht fun H0 I => dps_app (h3 H0 I) ?_⟩
  obtain ⟨_, vs, j1, j2⟩ := I.lists (r, es) (List.mem_cons_of_mem _ (List.mem_cons_self ..))
  rw [k1] at j1
  cases j1
  exact j2
end
/-! ### to see the next expression -/
section
variable {te ta tb : TE} {tz t u : TS} {D : Ends} {σ : L2.St} {H : Hp} {Q : VK} {i : Nat} {r : R2} {g : TG} {tx : TA} {rr : V → List V → Hp → VK → Prop}
theorem go_set (h : te σ H fun x H1 => tz D (σ.set i (some x)) H1) : tSeq (tAsg te (gName i)) tz D σ H := h
theorem go_setL (h : te σ H fun x H1 => D.nx (σ.set i (some x)) H1) : tAsg te (gName i) D σ H := h
theorem go_asg (h : te σ H fun x H1 => g x σ H1 fun σ2 H2 => tz D σ2 H2) : tSeq (tAsg te g) tz D σ H := h
theorem go_asgL (h : te σ H fun x H1 => g x σ H1 D.nx) : tAsg te g D σ H := h
theorem go_ret (h : te σ H D.rt) : tRet te D σ H := h
theorem go_seq (h : t { D with nx := u D } σ H) : tSeq t u D σ H := h
theorem go_drop (h : te σ H fun _ H1 => D.nx σ H1) : tDrop te D σ H := h
theorem go_op (h : ta σ H fun x H1 => tb σ H1 fun y H2 => r x y H2 Q) : tOp r ta tb σ H Q := h
theorem go_if {c : TT} (h : c σ H fun b H1 => if b = true then t D σ H1 else u D σ H1) : tIfS c t u D σ H := h
theorem go_ite {c : TT} (h : c σ H fun b H1 => if b = true then ta σ H1 Q else tb σ H1 Q) : tIf c ta tb σ H Q := h
theorem go_cut (M : L2.St → Hp → Prop) (h : t { D with nx := M } σ H) (k : ∀ σ' H', M σ' H' → u D σ' H') : Evl.tCut t u D σ H := ⟨M, h, k⟩
theorem go_and {c e : TT} {Q : Bool → Hp → Prop} (h : c σ H fun b H1 => if b = true then e σ H1 Q else Q false H1) : tAnd c e σ H Q := h
theorem go_next (h : D.nx σ H) : tNext D σ H := h
theorem go_or {c e : TT} {Q : Bool → Hp → Prop} (h : c σ H fun b H1 => if b = true then Q true H1 else e σ H1 Q) : tOr c e σ H Q := h
theorem go_test {Q : Bool → Hp → Prop} (h : te σ H fun x H' => ∃ k, x = .bl k ∧ Q k H') : tTest te σ H Q := h
theorem go_B {Q : Bool → Hp → Prop} (h : te σ H fun x H' => ∃ k, x = .bl k ∧ Q k H') : tB te σ H Q := h
theorem go_not {c : TT} {Q : Bool → Hp → Prop} (h : c σ H fun b H1 => Q (!b) H1) : tNot c σ H Q := h
end
section
variable {te ta : TE} {tr : TA} {σ : L2.St} {H : Hp} {Q : VK} {v : V} {r : List V → Hp → VK → Prop} {QA : List V → Hp → Prop}
theorem cps (P : V → Hp → Prop) (h : ∀ Q' : VK, (∀ v H', P v H' → Q' v H') → te σ H Q') (k : ∀ v H', P v H' → Q v H') : te σ H Q := h Q k
theorem go_cb (h : tr σ H fun vs H1 => r vs H1 Q) : tCB r tr σ H Q := h
theorem go_cons (h : te σ H fun x H1 => tr σ H1 fun xs H2 => QA (x :: xs) H2) : tCons te tr σ H QA := h
theorem go_c (h : Q v H) : tC v σ H Q := h
theorem go_nil (h : QA [] H) : tNil σ H QA := h
theorem go_lst (h : tr σ H fun xs H1 => xs.length ≤ sizeLine ∧ ∀ p, H1 p = none → Q (.ref p) (upd H1 p (.lst xs))) : tLst tr σ H Q := h
theorem go_tup (h : tr σ H fun xs H1 => xs.length ≤ sizeLine ∧ ∀ p, H1 p = none → Q (.ref p) (upd H1 p (.tup xs))) : tTup tr σ H Q := h
variable {K : PySem.W.Frag} {B : List (V × D)} {tb : TE} {i j : Int}
theorem ed_max2 (h1 : EvD K B ta σ (.int i)) (h2 : EvD K B tb σ (.int j)) : EvD K B (tCB (fun xs H Q => ∃ i j, xs = [V.int i, .int j] ∧ Q (.int (if j > i then j else i)) H) (tCons ta (tCons tb tNil))) σ (.int (if j > i then j else i)) := fun H dk Γ Δ Q hb hS q =>
  h1 H dk Γ Δ _ hb hS fun v H1 Δ1 s1 hS1 d1 => h2 H1 dk Γ Δ1 _ (hb.trans s1) hS1 fun u H2 Δ2 s2 hS2 d2 => by
    obtain rfl := d1.isInt hS1
    obtain rfl := d2.isInt hS2
    exact ⟨i, j, rfl, q _ _ _ (s1.trans s2) hS2 (.int _)⟩
theorem ed_min2 (h1 : EvD K B ta σ (.int i)) (h2 : EvD K B tb σ (.int j)) : EvD K B (tCB (fun xs H Q => ∃ i j, xs = [V.int i, .int j] ∧ Q (.int (if j < i then j else i)) H) (tCons ta (tCons tb tNil))) σ (.int (if j < i then j else i)) := fun H dk Γ Δ Q hb hS q =>
  h1 H dk Γ Δ _ hb hS fun v H1 Δ1 s1 hS1 d1 => h2 H1 dk Γ Δ1 _ (hb.trans s1) hS1 fun u H2 Δ2 s2 hS2 d2 => by
    obtain rfl := d1.isInt hS1
    obtain rfl := d2.isInt hS2
    exact ⟨i, j, rfl, q _ _ _ (s1.trans s2) hS2 (.int _)⟩
end
theorem atI_m1 {α : Type} {xs : List α} {v : α} (h : xs[xs.length - 1]? = some v) : atI xs (-1) = some v := by
  obtain ⟨hl, _⟩ := List.getElem?_eq_some_iff.mp h
  have e : ixN xs.length (-1) = some (xs.length - 1) := by
    unfold ixN
    rw [if_neg (by omega), if_pos (by omega)]
    congr 1
    omega
  unfold atI
  rw [e]
  exact h
theorem St.last {K : PySem.W.Frag} {H : Hp} {dk : Dk} {Γ : List (Addr × List D)} {Δ : List (V × D)} {p : Addr} {ds : List D} {x : D} (h : St K H dk ((p, ds) :: Γ) Δ) (hx : ds[ds.length - 1]? = some x) :
    ∃ vs v, H p = some (.lst vs) ∧ atI vs (-1) = some v ∧ St K H dk ((p, ds) :: Γ) ((v, x) :: Δ) := by
  obtain ⟨vs, h1, h2, h3, _⟩ := h.look
  obtain ⟨v, h4, h5⟩ := h3 _ x hx
  exact ⟨vs, v, h1, atI_m1 (by rw [h2]; exact h4), h5⟩
section
variable {te : TE} {ta : TA} {g : TG} {tb tz : TS} {D : Ends} {σ : L2.St} {H : Hp} {wi : TI} {R : It → Hp → Prop}
/-- a loop, once it is known what is walked -/
abbrev FK (g : TG) (tb : TS) (D : Ends) (σ : L2.St) : It → Hp → Prop := fun J H1 => ∃ W : Nat → Nat → L2.St → Hp → Prop, (∃ m, W 0 m σ H1) ∧ ∀ i m σ H, W i m σ H →
  (J.stop i H ∧ D.nx σ H) ∨ (J.go i H ∧ ∃ N : L2.St → Hp → Prop, (∀ σ' H', N σ' H' → ∃ m', m' < m ∧ W (i + 1) m' σ' H') ∧ ∀ x H', J.yld i H x H' → g x σ H' fun σ2 H2 => tb { D with nx := N, ct := N, bk := D.nx } σ2 H2)
theorem go_for (h : wi σ H (FK g tb { D with nx := tz D } σ)) : tSeq (tFor wi g tb) tz D σ H := h
theorem go_rng1 (h : te σ H fun x H1 => ∃ j : Int, [x] = [V.int j] ∧ -(2 ^ 62) ≤ j ∧ j < 2 ^ 62 ∧ R (Itr 0 j.toNat) H1) : iRng1 (tCons te tNil) σ H R := h
theorem go_walkL {K : PySem.W.Frag} (h : te σ H fun x H1 => ∃ a, x = .ref a ∧ (∃ xs, SqL K H1 a xs) ∧ R (Itl K a) H1) : iList K te σ H R := h
theorem go_walkEL {K : PySem.W.Frag} (h : te σ H fun x H1 => ∃ a xs, [x] = [V.ref a] ∧ SqL K H1 a xs ∧ R (Ite K a) H1) : iEnum K (tCons te tNil) σ H R := h
end
theorem go_yes {σ : L2.St} {H : Hp} {A B : Hp → Prop} (h : A H) : tYes σ H (fun b H3 => if b = true then A H3 else B H3) := by
  show if true = true then A H else B H
  exact iteT h
section
variable {K : PySem.W.Frag} {B : List (V × D)} {σ : L2.St} {ta tb te : TE} {tr : TA} {d : D} {v : V} {H : Hp} {dk : Dk} {Γ : List (Addr × List D)} {Δ : List (V × D)} {Q : VK}
theorem Dv.isBl {b : Bool} (hS : St K H dk Γ Δ) (h : Dv Δ v (.bool b)) : v = .bl b := by
  cases hS.dp h
  rfl
theorem Dv.isStr {x : Str} (hS : St K H dk Γ Δ) (h : Dv Δ v (.str x)) : v = .str x := by
  cases hS.dp h
  rfl
theorem Dv.isNon (hS : St K H dk Γ Δ) (h : Dv Δ v .none) : v = .non := by
  cases hS.dp h
  rfl
/-- a list or a tuple -/
def Disp : D → Prop
  | .list _ => True
  | .tuple _ => True
  | _ => False
theorem Dv.isRef (hS : St K H dk Γ Δ) (h : Dv Δ v d) (hd : Disp d) : ∃ a, v = .ref a := by
  have g := hS.dp h
  cases d with
  | list ds => cases g; exact ⟨_, rfl⟩
  | tuple ds => cases g; exact ⟨_, rfl⟩
  | none => exact hd.elim
  | bool b => exact hd.elim
  | int i => exact hd.elim
  | str x => exact hd.elim
  | dict x => exact hd.elim
theorem ed_repr {n k : Nat} (h : EvD K B te σ d) (hd : Disp d) (sm : Sm n k d) (hn : n ≤ 16000000) (hk : k ≤ 60) : EvD K B (tCB (rRepr K) (tCons te tNil)) σ (.str d.shown) := fun H dk Γ Δ Q hb hS q =>
  h H dk Γ Δ _ hb hS fun v H1 Δ1 s1 hS1 d1 => by
    obtain ⟨a, rfl⟩ := d1.isRef hS1 hd
    exact ⟨a, d, rfl, hS1.dp d1, sm.show_, Nat.le_trans sm.deep hk, Nat.le_trans sm.long (Nat.le_trans hn (by decide)), q _ _ _ s1 hS1 (.str _)⟩
theorem ed_neS {x y : Str} (h1 : EvD K B ta σ (.str x)) (h2 : EvD K B tb σ (.str y)) : EvD K B (tOp rNe ta tb) σ (.bool (!decide (x = y))) := fun H dk Γ Δ Q hb hS q =>
  h1 H dk Γ Δ _ hb hS fun v H1 Δ1 s1 hS1 d1 => h2 H1 dk Γ Δ1 _ (hb.trans s1) hS1 fun u H2 Δ2 s2 hS2 d2 => by
    obtain rfl := d1.isStr hS1
    obtain rfl := d2.isStr hS2
    have e : decide (V.str x = V.str y) = decide (x = y) := decide_eq_decide.mpr ⟨fun h => V.str.inj h, fun h => by rw [h]⟩
    refine ⟨rfl, ?_⟩
    rw [e]
    exact q _ _ _ (s1.trans s2) hS2 (.bl _)
theorem ed_neB {x y : Bool} (h1 : EvD K B ta σ (.bool x)) (h2 : EvD K B tb σ (.bool y)) : EvD K B (tOp rNe ta tb) σ (.bool (!decide (x = y))) := fun H dk Γ Δ Q hb hS q =>
  h1 H dk Γ Δ _ hb hS fun v H1 Δ1 s1 hS1 d1 => h2 H1 dk Γ Δ1 _ (hb.trans s1) hS1 fun u H2 Δ2 s2 hS2 d2 => by
    obtain rfl := d1.isBl hS1
    obtain rfl := d2.isBl hS2
    have e : decide (V.bl x = V.bl y) = decide (x = y) := decide_eq_decide.mpr ⟨fun h => V.bl.inj h, fun h => by rw [h]⟩
    refine ⟨rfl, ?_⟩
    rw [e]
    exact q _ _ _ (s1.trans s2) hS2 (.bl _)
theorem ed_notB {x y : Bool} (h1 : EvD K B ta σ (.bool x)) (h2 : EvD K B tb σ (.bool y)) : EvD K B (tOp rNotB ta tb) σ (.bool (!decide (x = y))) := fun H dk Γ Δ Q hb hS q =>
  h1 H dk Γ Δ _ hb hS fun v H1 Δ1 s1 hS1 d1 => h2 H1 dk Γ Δ1 _ (hb.trans s1) hS1 fun u H2 Δ2 s2 hS2 d2 => by
    obtain rfl := d1.isBl hS1
    obtain rfl := d2.isBl hS2
    exact ⟨x, y, rfl, rfl, q _ _ _ (s1.trans s2) hS2 (.bl _)⟩
/-- a test that is worth a known truth value -/
theorem EvD.test {b : Bool} {Q : Bool → Hp → Prop} (h : EvD K B te σ (.bool b)) (hb : Sub B Δ) (hS : St K H dk Γ Δ) (q : ∀ H', St K H' dk Γ Δ → Q b H') : tTest te σ H Q :=
  h H dk Γ Δ _ hb hS fun v H1 Δ1 s1 hS1 d1 => by
    obtain rfl := d1.isBl hS1
    exact ⟨b, rfl, q H1 (hS1.weaken s1)⟩
theorem EvD.testB {b : Bool} {Q : Bool → Hp → Prop} (h : EvD K B te σ (.bool b)) (hb : Sub B Δ) (hS : St K H dk Γ Δ) (q : ∀ H', St K H' dk Γ Δ → Q b H') : tB te σ H Q := EvD.test h hb hS q
/-- arguments -/
theorem EvDs.go {ds : List D} {Q : List V → Hp → Prop} (h : EvDs K B tr σ ds) (hb : Sub B Δ) (hS : St K H dk Γ Δ) (q : ∀ vs H' Δ', Sub Δ Δ' → St K H' dk Γ Δ' → DvAll Δ' vs ds → Q vs H') : tr σ H Q := h H dk Γ Δ Q hb hS q
end
end EE

namespace EE
open PySem PySem.Spec PyProof.Rows L2
/-! ### math.lcm of great ints -/
def rLcm : List V → Hp → VK → Prop := fun vs H Q => ∃ a b : Int, vs = [.int a, .int b] ∧ a.natAbs < 2 ^ 12000 ∧ b.natAbs < 2 ^ 12000 ∧ Q (.int ((Nat.lcm a.natAbs b.natAbs : Nat) : Int)) H
theorem cr_lcm {X : Cx} : CallR X (.builtin "math.lcm") rLcm := by
  intro pins s σ H vs us Q I r h
  obtain ⟨a, b, rfl, ha, hb, q⟩ := h
  obtain ⟨t, u, rfl⟩ := Vals.int2 r
  have hp : 1 < 2 ^ 12000 := Nat.one_lt_two_pow (by decide)
  have h1 : (max 1 a.natAbs).log2 ≤ 11999 := PySem.W.mg_log (k := 11999) (Nat.max_lt.mpr ⟨hp, ha⟩)
  have h2 : (max a.natAbs b.natAbs).log2 ≤ 11999 := PySem.W.mg_log (k := 11999) (Nat.max_lt.mpr ⟨ha, hb⟩)
  have h3 : ((((Nat.lcm 1 a.natAbs).lcm b.natAbs : Nat) : Int)).natAbs.log2 < bitsLine := by
    rw [Int.natAbs_natCast, PySem.W.mc_lcm_one]
    refine PySem.W.mc_size (k := 375) ?_ (by decide)
    refine Nat.le_trans (PySem.W.mc_lcm_le _ _) (Nat.le_trans (Nat.mul_le_mul (Nat.le_of_lt ha) (Nat.le_of_lt hb)) ?_)
    rw [← Nat.pow_add]
    exact Nat.pow_le_pow_right (by decide) (by decide)
  refine PySem.call_function_meets PySem.W.MGF.kind_lcm PySem.W.MGF.plain_lcm PySem.W.MGF.entry_lcm (PySem.W.MGF.args_lcm _ _) (PySem.W.mg_run_lcm a t b u (by omega) (by omega) h3).meets ?_
  rw [PySem.W.mc_lcm_one]
  exact ⟨.int _, H, I.tok _, ⟨_, rfl⟩, q⟩
/-! ### repr of a truth value -/
theorem call_repr_bool {X : Cx} : CallR X (.builtin "repr") (fun xs H Q => ∃ b, xs = [.bl b] ∧ Q (.str (if b then "True" else "False")) H) := by
  intro pins s σ H xs us Q I r h
  obtain ⟨b, rfl, q⟩ := h
  obtain ⟨u, rfl, r1⟩ := vals1 r
  cases r1
  exact PySem.P.repr_of_bool ⟨.str _, H, I.tok _, ⟨_, rfl⟩, q⟩
/-! ### defs that may raise -/
structure FdX (P : Program) (w : World) (K : PySem.W.Frag) (mg : Str → Option Value) (base : Heap) (x : Str) (k : Nat) (ps : List Str) (sp : Sp) : Prop where
  ex : ∃ (f : Addr) (fd : FuncData), FnOk P w K mg base (L2.CX P w) k f fd ps sp ∧ mg x = some (.ref f) ∧ PySem.W.keepIn K (.ref f) = true ∧ Binds K fd ps []
structure FkX (P : Program) (w : World) (K : PySem.W.Frag) (mg : Str → Option Value) (base : Heap) (x : Str) (k : Nat) (ps ks : List Str) (gV : List V → List V) (sp : Sp) : Prop where
  ex : ∃ (f : Addr) (fd : FuncData) (g : List Value → List Value), FnOk P w K mg base (L2.CX P w) k f fd ps sp ∧ mg x = some (.ref f) ∧ PySem.W.keepIn K (.ref f) = true ∧ KB fd K ps ks g gV
section
variable {P : Program} {w : World} {K : PySem.W.Frag} {mg : Str → Option Value} {base : Heap}
theorem FdX.mk' {x qual : Str} {st : Stmt} {f : Addr} {fd : FuncData} {k : Nat} {ps : List Str} {sp : Sp} (F : Fun K x qual st f fd) (G : FnOk P w K mg base (L2.CX P w) k f fd ps sp) (hm : mg x = some (.ref f)) (hb : Binds K fd ps []) : FdX P w K mg base x k ps sp :=
  ⟨f, fd, G, hm, F.kp, hb⟩
end
section
variable {X : Cx} {k : Nat} {ps ks : List Str} {gV : List V → List V} {sp : Sp} {x : Str} {p pos : Pos} {e : Expr} {es : List Expr} {t : TA} {kws : List Keyword} {tk : TA} {E : L2.St → XK}
theorem pe_fdX (F : FdX X.prog X.w X.K X.mg X.base x k ps sp) (hr : Room k X.A) (hg : Gl X x) (hx : ∀ σ, PassesAt (L2.CX X.prog X.w) X σ (E σ)) (ha : PA X (e :: es) t) (hdb : (x == ("__debug__" : Str)) = false := by decide) (he : starEach (e :: es) X.env = (false, eval e X.env) :: starEach es X.env := by rfl)
    (hpl : (backTo pos (starEach es X.env)).any (·.1) = false := by rfl) : PE X (.Call (.Name x p) (e :: es) [] pos) (tCallS sp E t) := by
  obtain ⟨f, fd, G, hm, hk, hb⟩ := F.ex
  exact pe_callS G hr hg hm hk hb hx ha hdb he hpl
def tCallKS (sp : Sp) (gV : List V → List V) (E : L2.St → XK) (tk : TA) : TE := fun σ H Q => tk σ H fun zs H2 => sp (gV zs) H2 Q (E σ)
theorem pe_fkX (F : FkX X.prog X.w X.K X.mg X.base x k ps ks gV sp) (hr : Room k X.A) (hg : Gl X x) (hx : ∀ σ, PassesAt (L2.CX X.prog X.w) X σ (E σ)) (hkw : PK X kws tk) (hall : (backToKw pos (keywordEach kws X.env)).all (·.1.isSome) = true := by rfl) (hks : (backToKw pos (keywordEach kws X.env)).filterMap (·.1) = ks := by rfl)
    (hdb : (x == ("__debug__" : Str)) = false := by decide) (hpl : ((backTo pos (starEach [] X.env)).any (·.1) || (backToKw pos (keywordEach kws X.env)).any (·.1.isNone)) = false := by rfl) :
    PE X (.Call (.Name x p) [] kws pos) (tCallKS sp gV E tk) := by
  obtain ⟨f, fd, g, G, hm, hk, hb⟩ := F.ex
  refine ⟨fun pins s σ H Q I h => wpAny_Call_Name_kw (ld_glob I hg hm ?_ hdb)⟩
  refine PySem.W.callWith_KW0 (h₀ := X.base) (first := []) I.ok.mod.kin hk hall (thn (hkw.run pos pins s σ H _ I h) fun ws s2 q => ?_) hpl
  obtain ⟨zs, H2, I2, rz, q2⟩ := q
  refine ⟨I2.kIn, ?_⟩
  rw [hks]
  have r2 := hb.rel rz
  have hl : (g ws).length = ps.length := by
    rw [← r2.length]
    exact G.len _ _ _ _ q2
  refine wpAny_call (codeAny_mono (G.run X.A X.stack s2 H2 ⟨[], ks.zip ws⟩ (g ws) (gV zs) Q (E σ) hr I2.env0 (hb.to s2 ws I2.kIn hl) r2 q2) fun r s' hq => ?_)
  cases r with
  | error e => exact hx σ pins H2 s2 e s' I2 hq
  | ok fl =>
    cases fl with
    | ret u => exact I2.after hq
    | next => exact False.elim hq
    | brk => exact False.elim hq
    | cont => exact False.elim hq
end
/-! ### raise C() -/
section
variable {X : Cx} {C : Addr} {bmB : List Value} {B newId initId : String}
theorem pmk_own0 {x : Str} {p pos : Pos} (F : ExcBaseFacts B newId initId bmB) (q : PySem.W.excIn X.K C bmB newId = true) (gC : X.mg x = some (.ref C)) (kC : PySem.W.keepIn X.K (.ref C) = true) (r : Raises X (.ref C)) (hg : Gl X x)
    (hdb : (x == ("__debug__" : Str)) = false := by decide) : PMk X (.Call (.Name x p) [] [] pos) (fun _ H Q => Q (.ref C) none H) := by
  intro pins s σ H Q I h
  refine wpAny_Call_Name_kw (ld_glob I hg gC ?_ hdb)
  refine PySem.W.callWith_K0 I.kIn kC ?_
  show wpAny _ _ (call (.ref C) []) _ _ _
  obtain ⟨bm, N, nm, qn, bs, hdct, sn, sub, ab, col, dd, k0, k1, k2, k3, k5, mN, hC, hN, hni, T⟩ := exc_obj I.kIn q
  refine wpAny_call_exc_subT F T hC hN hni (fun h' e hm => ?_) (by show 0 ≤ sizeLine; rw [sizeLine_eq]; omega)
  exact mk_of I hm r h (I.hok.gone hm.new)
end
/-! ### the name of a def as a value -/
section
variable {X : Cx} {k : Nat} {ps : List Str} {sp : Sp} {x : Str} {pos : Pos}
theorem pe_fn {f : Addr} (hm : X.mg x = some (.ref f)) (hg : Gl X x) (hd : (x == ("__debug__" : Str)) = false := by decide) : PE X (.Name x pos) (tC (.ref f)) := pe_glob hg hm rfl hd
end
end EE
namespace EE
open PySem PySem.Spec PyProof.Rows L2
/-- an error of the class at S is what «except S» names -/
theorem exm_self {K : PySem.W.Frag} {S : Addr} (h1 : PySem.W.subIn K (.ref S) (.type "BaseException") = some true) (h2 : PySem.W.isClsIn K S = true) (h3 : PySem.W.typeIn K (.ref S) = some (.type "type")) (h4 : PySem.W.subIn K (.ref S) (.ref S) = some true) :
    PySem.W.exmOne K (.ref S) (.ref S) = some true := by
  have e1 : (PySem.W.subIn K (.ref S) (.type "BaseException") == some true) = true := by rw [h1] <;> rfl
  have e2 : ((PySem.W.clsIn K S).isSome && PySem.W.typeIn K (.ref S) == some (.type "type")) = true := by
    have h2' : (PySem.W.clsIn K S).isSome = true := h2
    rw [h2', h3] <;> rfl
  show (if (PySem.W.subIn K (.ref S) (.type "BaseException") == some true) = true then (if ((PySem.W.clsIn K S).isSome && PySem.W.typeIn K (.ref S) == some (.type "type")) = true then PySem.W.subIn K (.ref S) (.ref S) else none) else none) = some true
  rw [if_pos e1, if_pos e2]
  exact h4
/-- isinstance of the error that an except suite holds -/
def rIsE2 (K : PySem.W.Frag) (a : Addr) (cls : Value) (d : Option Addr) : List V → Hp → VK → Prop := fun xs H Q => ∃ D, cls = .ref D ∧ d = none ∧ ExcC K D ∧ rIsE K D a xs H Q
theorem call_isE2 {X : Cx} {a : Addr} {cls : Value} {d : Option Addr} {oe : Obj} {pn : List (Addr × Obj)} (hz : Zc cls d oe) (hf : ∃ vs, oe.data = .fields vs) : CallR (X.suite a ((a, oe) :: pn)) (.builtin "isinstance") (rIsE2 X.K a cls d) := by
  intro pins s σ H xs us Q I r h
  obtain ⟨D, rfl, rfl, C, h⟩ := h
  exact call_isE C hz hf pins s σ H xs us Q I r h
/-- a tuple's type -/
theorem ty_tup {K : PySem.W.Frag} {H : Hp} {a : Addr} {xs : List V} (h : SqT K H a xs) : TyX K H (.ref a) (.type "tuple") := by
  rcases h with (h | ⟨o, h⟩) | ⟨o, us, n, h, hc, _⟩
  · exact .base (.tup h)
  · exact .fTuple h
  · exact .kTuple h hc
end EE
namespace EE
open PySem PySem.Spec PyProof.Rows L2
section
variable {K : PySem.W.Frag} {B : List (V × D)} {σ : L2.St} {ta tb te : TE} {tr : TA} {d : D} {v : V} {i j : Int}
theorem dec_vI {a b : Int} : decide (V.int a = V.int b) = decide (a = b) := decide_eq_decide.mpr ⟨fun h => V.int.inj h, fun h => by rw [h]⟩
theorem dec_vS {a b : Str} : decide (V.str a = V.str b) = decide (a = b) := decide_eq_decide.mpr ⟨fun h => V.str.inj h, fun h => by rw [h]⟩
theorem ed_eqI (h1 : EvD K B ta σ (.int i)) (h2 : EvD K B tb σ (.int j)) : EvD K B (tOp rEq ta tb) σ (.bool (decide (i = j))) := fun H dk Γ Δ Q hb hS q =>
  h1 H dk Γ Δ _ hb hS fun v H1 Δ1 s1 hS1 d1 => h2 H1 dk Γ Δ1 _ (hb.trans s1) hS1 fun u H2 Δ2 s2 hS2 d2 => by
    obtain rfl := d1.isInt hS1
    obtain rfl := d2.isInt hS2
    refine ⟨rfl, ?_⟩
    rw [dec_vI]
    exact q _ _ _ (s1.trans s2) hS2 (.bl _)
theorem ed_eqS {x y : Str} (h1 : EvD K B ta σ (.str x)) (h2 : EvD K B tb σ (.str y)) : EvD K B (tOp rEq ta tb) σ (.bool (decide (x = y))) := fun H dk Γ Δ Q hb hS q =>
  h1 H dk Γ Δ _ hb hS fun v H1 Δ1 s1 hS1 d1 => h2 H1 dk Γ Δ1 _ (hb.trans s1) hS1 fun u H2 Δ2 s2 hS2 d2 => by
    obtain rfl := d1.isStr hS1
    obtain rfl := d2.isStr hS2
    refine ⟨rfl, ?_⟩
    rw [dec_vS]
    exact q _ _ _ (s1.trans s2) hS2 (.bl _)
theorem ed_ixL {ds : List D} {n : Nat} (h : EvD K B ta σ (.list ds)) (e : ds[n]? = some d) : EvD K B (tOp (rIxL K) ta (tC (.int (n : Int)))) σ d := fun H dk Γ Δ Q hb hS q =>
  h H dk Γ Δ _ hb hS fun v H1 Δ1 s1 hS1 d1 => by
    obtain ⟨a, rfl⟩ := d1.isRef hS1 trivial
    have hS2 := hS1.also d1
    obtain ⟨us, hL, hlen, Δ2, rfl, hS3, hv⟩ := hS2.lstAt (List.mem_cons_self ..)
    obtain ⟨w, e1, e2⟩ := dvs_at hv e
    exact ⟨a, us, n, w, rfl, rfl, hL, atI_nat e1, q w H1 _ (fun x hx => List.mem_append_right _ (List.mem_cons_of_mem _ (s1 x hx))) hS3 e2⟩
theorem ed_reprB {b : Bool} (h : EvD K B te σ (.bool b)) : EvD K B (tCB (fun xs H Q => ∃ b, xs = [V.bl b] ∧ Q (.str (if b then "True" else "False")) H) (tCons te tNil)) σ (.str (if b then "True" else "False")) := fun H dk Γ Δ Q hb hS q =>
  h H dk Γ Δ _ hb hS fun v H1 Δ1 s1 hS1 d1 => by
    obtain rfl := d1.isBl hS1
    exact ⟨b, rfl, q _ _ _ s1 hS1 (.str _)⟩
theorem ed_notN0 (h : EvD K B te σ .none) : EvD K B (tOp (fun x y H Q => y = .non ∧ Q (.bl (!decide (x = .non))) H) te (tC .non)) σ (.bool false) := fun H dk Γ Δ Q hb hS q =>
  h H dk Γ Δ _ hb hS fun v H1 Δ1 s1 hS1 d1 => by
    obtain rfl := d1.isNon hS1
    exact ⟨rfl, q _ _ _ s1 hS1 (.bl _)⟩
end
end EE
namespace EE
open PySem PySem.Spec PyProof.Rows L2
/-- isinstance by an own class above -/
theorem kit_own {K : PySem.W.Frag} {t : Value} {S : Addr} (h2 : PySem.W.isClsIn K S = true) (h3 : PySem.W.typeIn K (.ref S) = some (.type "type")) (h4 : PySem.W.subIn K t (.ref S) = some true) : PySem.W.kitOne K t (.ref S) = some true := by
  have h2' : (PySem.W.clsIn K S).isSome = true := h2
  have e2 : ((PySem.W.clsIn K S).isSome && PySem.W.typeIn K (.ref S) == some (.type "type")) = true := by
    rw [h2', h3] <;> rfl
  unfold PySem.W.kitOne
  split
  · rfl
  · show (if ((PySem.W.clsIn K S).isSome && PySem.W.typeIn K (.ref S) == some (.type "type")) = true then PySem.W.subIn K t (.ref S) else none) = some true
    rw [if_pos e2]
    exact h4
end EE

namespace K05
open PySem PySem.Spec PyProof.Rows L2 EE
def topS (i : Nat) : Stmt := PySem.Challenge.pw_everyexact_k05_whole_scales_of_floats.main.body.getD i (.Pass ⟨0, 0, 0, 0⟩)
abbrev sis_integer : Stmt := topS 10
theorem scis_integer : FnScope ["value"] ["value"] (defScope sis_integer) := ⟨rfl, rfl, rfl, by decide +kernel, rfl, by decide +kernel, by decide +kernel⟩
abbrev sis_row : Stmt := topS 11
theorem scis_row : FnScope ["value", "many"] ["value", "many"] (defScope sis_row) := ⟨rfl, rfl, rfl, by decide +kernel, rfl, by decide +kernel, by decide +kernel⟩
abbrev sis_step : Stmt := topS 16
theorem scis_step : FnScope ["value"] ["value"] (defScope sis_step) := ⟨rfl, rfl, rfl, by decide +kernel, rfl, by decide +kernel, by decide +kernel⟩
abbrev sis_rule : Stmt := topS 15
theorem scis_rule : FnScope ["value", "bound", "step"] ["value"] (defScope sis_rule) := ⟨rfl, rfl, rfl, by decide +kernel, rfl, by decide +kernel, by decide +kernel⟩
abbrev srow_error : Stmt := topS 12
theorem scrow_error : FnScope ["value", "most", "word", "is_right", "place", "item"] ["value", "most", "word", "is_right"] (defScope srow_error) := ⟨rfl, rfl, rfl, by decide +kernel, rfl, by decide +kernel, by decide +kernel⟩
abbrev scommon_step : Stmt := topS 17
theorem sccommon_step : FnScope ["rules", "common", "_", "step"] ["rules"] (defScope scommon_step) := ⟨rfl, rfl, rfl, by decide +kernel, rfl, by decide +kernel, by decide +kernel⟩
abbrev sscale_error : Stmt := topS 14
theorem scscale_error : FnScope ["value", "error"] ["value"] (defScope sscale_error) := ⟨rfl, rfl, rfl, by decide +kernel, rfl, by decide +kernel, by decide +kernel⟩
abbrev sfits_rule : Stmt := topS 20
theorem scfits_rule : FnScope ["rule", "number", "bound", "step"] ["rule", "number"] (defScope sfits_rule) := ⟨rfl, rfl, rfl, by decide +kernel, rfl, by decide +kernel, by decide +kernel⟩
abbrev sbroken : Stmt := topS 19
theorem scbroken : FnScope ["scale", "number", "place", "rule"] ["scale", "number"] (defScope sbroken) := ⟨rfl, rfl, rfl, by decide +kernel, rfl, by decide +kernel, by decide +kernel⟩
abbrev sfits : Stmt := topS 18
theorem scfits : FnScope ["scale", "number"] ["scale", "number"] (defScope sfits) := ⟨rfl, rfl, rfl, by decide +kernel, rfl, by decide +kernel, by decide +kernel⟩
abbrev spower : Stmt := topS 5
theorem scpower : FnScope ["base", "exponent", "result", "_"] ["base", "exponent"] (defScope spower) := ⟨rfl, rfl, rfl, by decide +kernel, rfl, by decide +kernel, by decide +kernel⟩
abbrev sfloat_scale : Stmt := topS 22
theorem scfloat_scale : FnScope ["base", "figures", "levels", "end", "step", "rules", "_", "scale"] ["base", "figures", "levels"] (defScope sfloat_scale) := ⟨rfl, rfl, rfl, by decide +kernel, rfl, by decide +kernel, by decide +kernel⟩
abbrev s_law_deck : Stmt := topS 24
theorem sc_law_deck : FnScope ["script", "deck", "cell", "whole", "state"] ["script"] (defScope s_law_deck) := ⟨rfl, rfl, rfl, by decide +kernel, rfl, by decide +kernel, by decide +kernel⟩
abbrev s_law_draw : Stmt := topS 25
theorem sc_law_draw : FnScope ["deck", "many", "whole", "one", "two"] ["deck", "many"] (defScope s_law_draw) := ⟨rfl, rfl, rfl, by decide +kernel, rfl, by decide +kernel, by decide +kernel⟩
abbrev s_law_pick : Stmt := topS 26
theorem sc_law_pick : FnScope ["deck", "items"] ["deck", "items"] (defScope s_law_pick) := ⟨rfl, rfl, rfl, by decide +kernel, rfl, by decide +kernel, by decide +kernel⟩
abbrev s_law_raised : Stmt := topS 28
theorem sc_law_raised : FnScope ["base", "times", "found", "turn"] ["base", "times"] (defScope s_law_raised) := ⟨rfl, rfl, rfl, by decide +kernel, rfl, by decide +kernel, by decide +kernel⟩
abbrev s_law_is_float : Stmt := topS 29
theorem sc_law_is_float : FnScope ["base", "figures", "levels", "number", "left", "top", "turn"] ["base", "figures", "levels", "number"] (defScope s_law_is_float) := ⟨rfl, rfl, rfl, by decide +kernel, rfl, by decide +kernel, by decide +kernel⟩
abbrev s_law_seen : Stmt := topS 30
theorem sc_law_seen : FnScope ["base", "figures", "levels", "is_named", "slip"] ["base", "figures", "levels", "is_named"] (defScope s_law_seen) := ⟨rfl, rfl, rfl, by decide +kernel, rfl, by decide +kernel, by decide +kernel⟩
abbrev s_law_due : Stmt := topS 31
theorem sc_law_due : FnScope ["base", "figures", "levels", "found", "k"] ["base", "figures", "levels"] (defScope s_law_due) := ⟨rfl, rfl, rfl, by decide +kernel, rfl, by decide +kernel, by decide +kernel⟩
abbrev s_law_numbers : Stmt := topS 32
theorem sc_law_numbers : FnScope ["deck", "base", "figures", "levels", "found", "turn", "k", "unit", "top", "number"] ["deck", "base", "figures", "levels"] (defScope s_law_numbers) := ⟨rfl, rfl, rfl, by decide +kernel, rfl, by decide +kernel, by decide +kernel⟩
abbrev s_law_bounded : Stmt := topS 33
theorem sc_law_bounded : FnScope ["deck", "base", "whole", "power_v", "figures"] ["deck", "base"] (defScope s_law_bounded) := ⟨rfl, rfl, rfl, by decide +kernel, rfl, by decide +kernel, by decide +kernel⟩
abbrev slaw : Stmt := topS 34
theorem sclaw : FnScope ["script", "deck", "turn", "base", "figures", "levels", "seen", "due", "numbers", "number"] ["script"] (defScope slaw) := ⟨rfl, rfl, rfl, by decide +kernel, rfl, by decide +kernel, by decide +kernel⟩
/-! ### the mathematics -/
abbrev Rule := Int × Int
def ruleD (r : Rule) : D := .tuple [.int r.1, .int r.2]
def scaleD (rs : List Rule) : D := .tuple (rs.map ruleD)
def fitR (r : Rule) (n : Int) : Bool := decide ((if n < 0 then -n else n) ≤ r.1) || (!decide (r.2 = 0) && decide (n % r.2 = 0))
def fitsAll (rs : List Rule) (n : Int) : Bool := rs.all fun r => fitR r n
def firstBad : List Rule → Int → Option Nat
  | [], _ => none
  | r :: rs, n => if fitR r n = true then (firstBad rs n).map (· + 1) else some 0
def placeV : Option Nat → V
  | none => .non
  | some i => .int (i : Int)
def placeD : Option Nat → D
  | none => .none
  | some i => .int (i : Int)
/-- a rule is well formed -/
def goodR (r : Rule) : Bool := decide (0 ≤ r.1) && decide (r.1 ≤ 10 ^ 60) && (decide (r.2 = 0) || (decide (2 ≤ r.2) && decide (r.2 ≤ 10 ^ 60)))
def firstIll : List Rule → Option Nat
  | [] => none
  | r :: rs => if goodR r = true then (firstIll rs).map (· + 1) else some 0
def lcmAll (c : Nat) : List Rule → Nat
  | [] => c
  | r :: rs => lcmAll (if r.2 = 0 then c else Nat.lcm c r.2.natAbs) rs
def illD (word : Str) : Option Nat → D
  | none => .none
  | some i => .tuple [.str word, .int (i : Int)]
def serrD (rs : List Rule) : D := match firstIll rs with
  | none => if (lcmAll 1 rs : Int) > 10 ^ 60 then .str "great" else .none
  | some i => .tuple [.str "rule", .int (i : Int)]
def fsR (b f : Int) (l : Nat) : List Rule := (List.range l).map (fun k => (b ^ (f.toNat + k) - 1, b ^ (k + 1))) ++ [(b ^ (f.toNat + l) - 1, 0)]
def isHeld (b f : Int) (l : Nat) : Bool := decide (b ^ (f.toNat + l) - 1 ≤ 10 ^ 60)
def seenD (b f : Int) (l : Nat) : D := if isHeld b f l = true then .list [.str "scale", scaleD (fsR b f l)] else .list [.str "unfit", .bool true]
/-- the number behind so many turns -/
def leftAt (b top n : Int) : Nat → Int
  | 0 => n
  | i + 1 => if leftAt b top n i ≥ top ∧ leftAt b top n i % b = 0 then leftAt b top n i / b else leftAt b top n i
def isFl (b f : Int) (l : Nat) (n : Int) : Bool := decide (leftAt b (b ^ f.toNat) (if n < 0 then -n else n) l < b ^ f.toNat)
/-! ### what is told of the class Unfit -/
structure UnfitC (K : PySem.W.Frag) (mg : Str → Option Value) (CU CE : Addr) : Prop where
  g : mg "Unfit" = some (.ref CU)
  ge : mg "ExactError" = some (.ref CE)
  x : PySem.W.excIn K CU [.type "ValueError", .type "Exception", .type "BaseException", .type "object"] "ValueError.__new__" = true
  k : PySem.W.keepIn K (.ref CU) = true
  b : PySem.W.subIn K (.ref CU) (.type "BaseException") = some true
  t : PySem.W.typeIn K (.ref CU) = some (.type "type")
  e : PySem.W.exmOne K (.ref CU) (.ref CU) = some true
  exc : ExcC K CU
  kit : PySem.W.kitOne K (.ref CU) (.ref CE) = some true
/-! ### the promises -/
def Args3 (b f : Int) (l : Nat) : Prop := 2 ≤ b ∧ b ≤ 1000 ∧ 1 ≤ f ∧ f ≤ 60 ∧ l ≤ 39
def spis_integer (K : PySem.W.Frag) : Sp := fun vs H Q _ => ∃ i : Int, vs = [.int i] ∧ Q (.bl true) H
def spis_row (K : PySem.W.Frag) : Sp := fun vs H Q _ => ∃ (dk : Dk) (Γ : List (Addr × List D)) (Δ : List (V × D)) (a : Addr) (ds : List D) (n : Int), vs = [.ref a, .int n] ∧ St K H dk Γ Δ ∧ (V.ref a, PyData.tuple ds) ∈ Δ ∧ Q (.bl (decide ((ds.length : Int) = n))) H
def spis_step (K : PySem.W.Frag) : Sp := fun vs H Q _ => ∃ i : Int, vs = [.int i] ∧ Q (.bl (decide (i = 0) || (decide (2 ≤ i) && decide (i ≤ 10 ^ 60)))) H
def spis_rule (K : PySem.W.Frag) : Sp := fun vs H Q _ => ∃ (dk : Dk) (Γ : List (Addr × List D)) (Δ : List (V × D)) (a : Addr) (r : Rule), vs = [.ref a] ∧ St K H dk Γ Δ ∧ (V.ref a, ruleD r) ∈ Δ ∧ ∀ H', St K H' dk Γ Δ → Q (.bl (goodR r)) H'
def sprow_error (K : PySem.W.Frag) (mg : Str → Option Value) : Sp := fun vs H Q _ => ∃ (dk : Dk) (Γ : List (Addr × List D)) (Δ : List (V × D)) (a : Addr) (rs : List Rule) (fr : Addr) (word : Str), vs = [.ref a, .int 40, .str word, .ref fr] ∧ mg "is_rule" = some (.ref fr) ∧
  St K H dk Γ Δ ∧ (V.ref a, scaleD rs) ∈ Δ ∧ rs.length ≤ 40 ∧ ∀ H' v, St K H' dk Γ ((v, illD word (firstIll rs)) :: Δ) → Q v H'
def spcommon_step (K : PySem.W.Frag) : Sp := fun vs H Q _ => ∃ (dk : Dk) (Γ : List (Addr × List D)) (Δ : List (V × D)) (a : Addr) (rs : List Rule), vs = [.ref a] ∧ St K H dk Γ Δ ∧ (V.ref a, scaleD rs) ∈ Δ ∧ rs.length ≤ 40 ∧ (∀ r ∈ rs, 0 ≤ r.2 ∧ r.2 ≤ 10 ^ 60) ∧
  ∀ H', St K H' dk Γ Δ → Q (.int (lcmAll 1 rs : Nat)) H'
def spscale_error (K : PySem.W.Frag) : Sp := fun vs H Q _ => ∃ (dk : Dk) (Γ : List (Addr × List D)) (Δ : List (V × D)) (a : Addr) (rs : List Rule), vs = [.ref a] ∧ St K H dk Γ Δ ∧ (V.ref a, scaleD rs) ∈ Δ ∧ rs.length ≤ 40 ∧
  ∀ H' v, St K H' dk Γ ((v, serrD rs) :: Δ) → Q v H'
def spfits_rule (K : PySem.W.Frag) : Sp := fun vs H Q _ => ∃ (dk : Dk) (Γ : List (Addr × List D)) (Δ : List (V × D)) (a : Addr) (r : Rule) (n : Int), vs = [.ref a, .int n] ∧ St K H dk Γ Δ ∧ (V.ref a, ruleD r) ∈ Δ ∧ 0 ≤ r.2 ∧ ∀ H', St K H' dk Γ Δ → Q (.bl (fitR r n)) H'
def spbroken (K : PySem.W.Frag) : Sp := fun vs H Q _ => ∃ (dk : Dk) (Γ : List (Addr × List D)) (Δ : List (V × D)) (a : Addr) (rs : List Rule) (n : Int), vs = [.ref a, .int n] ∧ St K H dk Γ Δ ∧ (V.ref a, scaleD rs) ∈ Δ ∧ (∀ r ∈ rs, 0 ≤ r.2) ∧ ∀ H', St K H' dk Γ Δ → Q (placeV (firstBad rs n)) H'
def spfits (K : PySem.W.Frag) : Sp := fun vs H Q _ => ∃ (dk : Dk) (Γ : List (Addr × List D)) (Δ : List (V × D)) (a : Addr) (rs : List Rule) (n : Int), vs = [.ref a, .int n] ∧ St K H dk Γ Δ ∧ (V.ref a, scaleD rs) ∈ Δ ∧ (∀ r ∈ rs, 0 ≤ r.2) ∧ ∀ H', St K H' dk Γ Δ → Q (.bl (fitsAll rs n)) H'
def sppower (K : PySem.W.Frag) : Sp := fun vs H Q _ => ∃ (b : Int) (t : Nat), vs = [.int b, .int (t : Int)] ∧ 0 ≤ b ∧ b < 2 ^ 10 ∧ t ≤ 1000 ∧ Q (.int (b ^ t)) H
def spfloat_scale (K : PySem.W.Frag) (mg : Str → Option Value) : Sp := fun vs H Q E => ∃ (dk : Dk) (Γ : List (Addr × List D)) (Δ : List (V × D)) (b f : Int) (l : Nat), vs = [.int b, .int f, .int (l : Int)] ∧ Args3 b f l ∧ St K H dk Γ Δ ∧
  (isHeld b f l = true → ∀ H' v, St K H' dk Γ ((v, scaleD (fsR b f l)) :: Δ) → Q v H') ∧ (isHeld b f l = false → ∀ H' C, mg "Unfit" = some (.ref C) → St K H' dk Γ Δ → E (.ref C) none H')
def sp_law_deck (K : PySem.W.Frag) : Sp := fun vs H Q _ => ∃ (a : Addr) (ns : List Int), vs = [.ref a] ∧ SqL K H a (ns.map V.int) ∧ ns.length ≤ 63 ∧ ∀ H' d l, St K H' (some (d, l)) [] [] → Q (.ref d) H'
def sp_law_draw (K : PySem.W.Frag) : Sp := fun vs H Q _ => ∃ (d l : Addr) (m : Int) (Γ : List (Addr × List D)) (Δ : List (V × D)), vs = [.ref d, .int m] ∧ St K H (some (d, l)) Γ Δ ∧ m.natAbs < 2 ^ 8000 ∧
  ∀ H' r, St K H' (some (d, l)) Γ Δ → 0 ≤ r → (r < m ∨ r = 0) → Q (.int r) H'
def sp_law_pick (K : PySem.W.Frag) : Sp := fun vs H Q _ => ∃ (d l a : Addr) (ds : List D) (Γ : List (Addr × List D)) (Δ : List (V × D)), vs = [.ref d, .ref a] ∧ St K H (some (d, l)) Γ Δ ∧ (V.ref a, PyData.list ds) ∈ Δ ∧ ds ≠ [] ∧ ds.length ≤ 10000 ∧
  ∀ H' v x, x ∈ ds → St K H' (some (d, l)) Γ ((v, x) :: Δ) → Q v H'
def sp_law_raised (K : PySem.W.Frag) : Sp := sppower K
def sp_law_is_float (K : PySem.W.Frag) : Sp := fun vs H Q _ => ∃ (b f n : Int) (l : Nat), vs = [.int b, .int f, .int (l : Int), .int n] ∧ Args3 b f l ∧ n.natAbs < 2 ^ 4000 ∧ Q (.bl (isFl b f l n)) H
def sp_law_seen (K : PySem.W.Frag) : Sp := fun vs H Q _ => ∃ (dk : Dk) (Γ : List (Addr × List D)) (Δ : List (V × D)) (b f : Int) (l : Nat) (y : Bool), vs = [.int b, .int f, .int (l : Int), .bl y] ∧ Args3 b f l ∧ St K H dk Γ Δ ∧ ∀ H' v, St K H' dk Γ ((v, seenD b f l) :: Δ) → Q v H'
def sp_law_due (K : PySem.W.Frag) : Sp := fun vs H Q _ => ∃ (dk : Dk) (Γ : List (Addr × List D)) (Δ : List (V × D)) (b f : Int) (l : Nat), vs = [.int b, .int f, .int (l : Int)] ∧ Args3 b f l ∧ St K H dk Γ Δ ∧ ∀ H' v, St K H' dk Γ ((v, seenD b f l) :: Δ) → Q v H'
def sp_law_numbers (K : PySem.W.Frag) : Sp := fun vs H Q _ => ∃ (d k : Addr) (b f : Int) (l : Nat) (Γ : List (Addr × List D)) (Δ : List (V × D)), vs = [.ref d, .int b, .int f, .int (l : Int)] ∧ Args3 b f l ∧ St K H (some (d, k)) Γ Δ ∧
  ∀ H' p (ns : List Int), ns.length ≤ 100 → (∀ n ∈ ns, n.natAbs < 2 ^ 4000) → St K H' (some (d, k)) ((p, ns.map PyData.int) :: Γ) Δ → Q (.ref p) H'
def sp_law_bounded (K : PySem.W.Frag) : Sp := fun vs H Q _ => ∃ (d k : Addr) (b : Int) (Γ : List (Addr × List D)) (Δ : List (V × D)), vs = [.ref d, .int b] ∧ 2 ≤ b ∧ b ≤ 1000 ∧ St K H (some (d, k)) Γ Δ ∧
  ∀ H' v (f : Int) (l : Nat), 1 ≤ f → f ≤ 60 → l ≤ 39 → St K H' (some (d, k)) Γ ((v, PyData.tuple [.int f, .int (l : Int)]) :: Δ) → Q v H'
def splaw (K : PySem.W.Frag) : Sp := fun vs H Q _ => ∃ (a : Addr) (ns : List Int), vs = [.ref a] ∧ SqL K H a (ns.map V.int) ∧ ns.length ≤ 63 ∧ ∀ H', Q (.bl true) H'
/-! ### draws and picks as steps -/
section
variable {K : PySem.W.Frag} {B : List (V × D)} {σ : L2.St} {H : Hp} {d l : Addr} {Γ : List (Addr × List D)} {Δ : List (V × D)} {te : TE} {ds : List D} {m : Int} {Q : VK} {E : XK} {i : Nat}
theorem go_draw (e : σ[i]? = some (some (.ref d))) (h : EvD K B te σ (.int m)) (hb : Sub B Δ) (hS : St K H (some (d, l)) Γ Δ) (hm : m.natAbs < 2 ^ 8000) (q : ∀ H' r, St K H' (some (d, l)) Γ Δ → 0 ≤ r → (r < m ∨ r = 0) → Q (.int r) H') :
    tCall (sp_law_draw K) [] E (tCons (tVar i) (tCons te tNil)) σ H Q :=
  ⟨_, e, h H _ Γ Δ _ hb hS fun v H1 Δ1 s1 hS1 d1 => by
    obtain rfl := d1.isInt hS1
    exact ⟨d, l, m, Γ, Δ, rfl, hS1.weaken s1, hm, q⟩⟩
theorem go_pick (e : σ[i]? = some (some (.ref d))) (h : EvD K B te σ (.list ds)) (hb : Sub B Δ) (hS : St K H (some (d, l)) Γ Δ) (hne : ds ≠ []) (hz : ds.length ≤ 10000) (q : ∀ H' v x, x ∈ ds → St K H' (some (d, l)) Γ ((v, x) :: Δ) → Q v H') :
    tCall (sp_law_pick K) [] E (tCons (tVar i) (tCons te tNil)) σ H Q :=
  ⟨_, e, h.go hb hS fun v H1 hS1 => by
    obtain ⟨a, rfl⟩ := hS1.lref_of (List.mem_cons_self ..)
    exact ⟨d, l, a, ds, Γ, _, rfl, hS1, List.mem_cons_self .., hne, hz, fun H' v x hx hS2 => q H' v x hx (hS2.weaken fun y hy => by
      rcases List.mem_cons.mp hy with rfl | hy
      · exact List.mem_cons_self ..
      · exact List.mem_cons_of_mem _ (List.mem_cons_of_mem _ hy))⟩⟩
end
theorem small8000 {m : Int} (h0 : 0 ≤ m) (h : m ≤ 10 ^ 70) : m.natAbs < 2 ^ 8000 := by
  have e : (10 : Nat) ^ 70 < 2 ^ 8000 := by decide +kernel
  have : m.natAbs ≤ 10 ^ 70 := by omega
  exact Nat.lt_of_le_of_lt this e
theorem dec_vint {a b : Int} : decide (V.int a = V.int b) = decide (a = b) := decide_eq_decide.mpr ⟨fun h => V.int.inj h, fun h => by rw [h]⟩
theorem e60 : (10 : Int) ^ 60 = 1000000000000000000000000000000000000000000000000000000000000 := by decide +kernel
theorem ill_none : ∀ rs : List Rule, (∀ r ∈ rs, goodR r = true) → firstIll rs = none
  | [], _ => rfl
  | r :: rs, h => by
    show (if goodR r = true then (firstIll rs).map (· + 1) else some 0) = none
    rw [if_pos (h r (List.mem_cons_self ..)), ill_none rs fun x hx => h x (List.mem_cons_of_mem _ hx)]
    rfl
theorem ill_at : ∀ (rs : List Rule) (i : Nat) (hi : i < rs.length), (∀ r ∈ rs.take i, goodR r = true) → goodR rs[i] = false → firstIll rs = some i
  | [], i, hi, _, _ => absurd hi (Nat.not_lt_zero _)
  | r :: rs, 0, hi, h, hb => by
    show (if goodR r = true then (firstIll rs).map (· + 1) else some 0) = some 0
    have : goodR r = false := hb
    rw [this]
    rfl
  | r :: rs, i + 1, hi, h, hb => by
    show (if goodR r = true then (firstIll rs).map (· + 1) else some 0) = some (i + 1)
    rw [if_pos (h r (by simp)), ill_at rs i (by simpa using hi) (fun x hx => h x (by rw [List.take_succ_cons]; exact List.mem_cons_of_mem _ hx)) hb]
    rfl
theorem lcm_app : ∀ (c : Nat) (xs : List Rule) (r : Rule), lcmAll c (xs ++ [r]) = if r.2 = 0 then lcmAll c xs else Nat.lcm (lcmAll c xs) r.2.natAbs
  | c, [], r => rfl
  | c, x :: xs, r => lcm_app _ xs r
theorem good_all : ∀ rs : List Rule, firstIll rs = none → ∀ r ∈ rs, goodR r = true
  | [], _, r, h => nomatch h
  | x :: rs, e, r, h => by
    rw [show firstIll (x :: rs) = (if goodR x = true then (firstIll rs).map (· + 1) else some 0) from rfl] at e
    split at e
    · rename_i hx
      rcases List.mem_cons.mp h with rfl | h
      · exact hx
      · cases e2 : firstIll rs with
        | none => exact good_all rs e2 r h
        | some j => rw [e2] at e; cases e
    · cases e
def fsHead (b : Int) (f l : Nat) : List Rule := (List.range l).map fun k => (b ^ (f + k) - 1, b ^ (k + 1))
theorem pow_lt10 {b : Int} {k : Nat} (h0 : 0 ≤ b) (h : b ≤ 1000) : (b ^ k).natAbs < 2 ^ (10 * k + 1) := by
  rw [Int.natAbs_pow]
  refine Nat.lt_of_le_of_lt (Nat.pow_le_pow_left (show b.natAbs ≤ 2 ^ 10 by omega) k) ?_
  rw [← Nat.pow_mul]
  exact Nat.pow_lt_pow_right (by decide) (by omega)
theorem head_succ (b : Int) (f i : Nat) : fsHead b f (i + 1) = fsHead b f i ++ [(b ^ (f + i) - 1, b ^ (i + 1))] := by
  unfold fsHead
  rw [List.range_succ, List.map_append]
  rfl
theorem fs_eq (b : Int) (f l : Nat) : fsR b (f : Int) l = fsHead b f l ++ [(b ^ (f + l) - 1, 0)] := rfl

theorem lcm_head (b : Int) (f : Nat) (hb : 2 ≤ b) : ∀ l : Nat, lcmAll 1 (fsHead b f l) = b.natAbs ^ l
  | 0 => rfl
  | l + 1 => by
    have h0 : b ^ (l + 1) ≠ 0 := by
      have : 0 < b ^ (l + 1) := Int.pow_pos (by omega)
      omega
    rw [head_succ, lcm_app, if_neg h0, lcm_head b f hb l, Int.natAbs_pow]
    refine Nat.dvd_antisymm (Nat.lcm_dvd (Nat.pow_dvd_pow _ (Nat.le_succ l)) (Nat.dvd_refl _)) (Nat.dvd_lcm_right _ _)
theorem fs_lcm {b : Int} {f : Nat} (hb : 2 ≤ b) (l : Nat) : lcmAll 1 (fsR b (f : Int) l) = b.natAbs ^ l := by
  rw [fs_eq, lcm_app, if_pos rfl, lcm_head b f hb l]
theorem ipow_le {b : Int} (hb : 2 ≤ b) {i j : Nat} (h : i ≤ j) : b ^ i ≤ b ^ j := by
  obtain ⟨k, rfl⟩ := Nat.exists_eq_add_of_le h
  rw [Int.pow_add]
  have h1 : 0 < b ^ i := Int.pow_pos (by omega)
  have h2 : 0 < b ^ k := Int.pow_pos (by omega)
  calc b ^ i = b ^ i * 1 := (Int.mul_one _).symm
    _ ≤ b ^ i * b ^ k := Int.mul_le_mul_of_nonneg_left (by omega) (by omega)
theorem fs_good {b : Int} {f : Nat} (hb : 2 ≤ b) (hf : 1 ≤ f) (l : Nat) (hh : b ^ (f + l) - 1 ≤ 10 ^ 60) : ∀ r ∈ fsR b (f : Int) l, goodR r = true := by
  intro r hr
  rw [fs_eq] at hr
  have hp : ∀ k, 1 ≤ b ^ k := fun k => by
    have : 0 < b ^ k := Int.pow_pos (by omega)
    omega
  rcases List.mem_append.mp hr with hr | hr
  · obtain ⟨k, hk, rfl⟩ := List.mem_map.mp hr
    have hk := List.mem_range.mp hk
    have q1 : b ^ (f + k) ≤ b ^ (f + l) := ipow_le hb (by omega)
    have q2 : b ^ (k + 1) ≤ b ^ l := ipow_le hb (by omega)
    have q3 : b ^ 1 ≤ b ^ (k + 1) := ipow_le hb (by omega)
    have q4 : b ^ (l + 1) ≤ b ^ (f + l) := ipow_le hb (by omega)
    rw [Int.pow_succ b l] at q4
    have q5 : b ^ l * 2 ≤ b ^ l * b := Int.mul_le_mul_of_nonneg_left hb (by have := hp l; omega)
    rw [Int.pow_succ, Int.pow_zero, Int.one_mul] at q3
    have q6 := hp l
    have q7 := hp (f + k)
    have a1 : 0 ≤ b ^ (f + k) - 1 := by omega
    have a2 : b ^ (f + k) - 1 ≤ 10 ^ 60 := by omega
    have a3 : 2 ≤ b ^ (k + 1) := by omega
    have a4 : b ^ (k + 1) ≤ 10 ^ 60 := by omega
    unfold goodR
    rw [decide_eq_true a1, decide_eq_true a2, decide_eq_true a3, decide_eq_true a4]
    rw [Bool.true_and, Bool.or_true, Bool.true_and]
  · rw [List.mem_singleton.mp hr]
    have q7 := hp (f + l)
    have a1 : 0 ≤ b ^ (f + l) - 1 := by omega
    unfold goodR
    rw [decide_eq_true a1, decide_eq_true hh]
    rfl
theorem serr_fs {b : Int} {f : Nat} (b1 : 2 ≤ b) (f1 : 1 ≤ f) (l : Nat) : ∃ i : Nat, serrD (fsR b (f : Int) l) = if isHeld b (f : Int) l = true then PyData.none else .tuple [.str "rule", .int (i : Int)] := by
  cases hh : isHeld b (f : Int) l with
  | true =>
    have h : b ^ (f + l) - 1 ≤ 10 ^ 60 := of_decide_eq_true hh
    refine ⟨0, ?_⟩
    rw [if_pos rfl]
    unfold serrD
    rw [ill_none _ (fs_good b1 f1 l h), fs_lcm b1 l]
    show (if ((b.natAbs ^ l : Nat) : Int) > 10 ^ 60 then PyData.str "great" else .none) = .none
    rw [if_neg ?_]
    have q4 : b ^ (l + 1) ≤ b ^ (f + l) := ipow_le b1 (by omega)
    rw [Int.pow_succ b l] at q4
    have q6 : 0 < b ^ l := Int.pow_pos (by omega)
    have q5 : b ^ l * 2 ≤ b ^ l * b := Int.mul_le_mul_of_nonneg_left b1 (by omega)
    have e : ((b.natAbs ^ l : Nat) : Int) = b ^ l := by
      rw [Int.natCast_pow, Int.natAbs_of_nonneg (by omega)]
    rw [e]
    omega
  | false =>
    have h : ¬ b ^ (f + l) - 1 ≤ 10 ^ 60 := of_decide_eq_false hh
    cases e : firstIll (fsR b (f : Int) l) with
    | none =>
      have g := good_all _ e (b ^ (f + l) - 1, 0) (by rw [fs_eq]; exact List.mem_append_right _ (List.mem_singleton_self _))
      unfold goodR at g
      simp only [Bool.and_eq_true, decide_eq_true_eq] at g
      exact absurd g.1.2 h
    | some i =>
      refine ⟨i, ?_⟩
      rw [if_neg Bool.false_ne_true]
      unfold serrD
      rw [e]

/-! ### the law's own calls as data -/
section
variable {K : PySem.W.Frag} {B : List (V × D)} {σ : L2.St} {tr ta tb : TA} {te td : TE} {b f n : Int} {l : Nat} {y : Bool} {E : XK} {rs : List Rule}
theorem ed_seen (h : EvDs K B tr σ [.int b, .int f, .int (l : Int), .bool y]) (hA : Args3 b f l) : EvD K B (tCall (sp_law_seen K) [] E tr) σ (seenD b f l) := fun H dk Γ Δ Q hb hS q =>
  h H dk Γ Δ _ hb hS fun vs H1 Δ1 s1 hS1 dvs => by
    cases dvs with | cons d1 r => cases r with | cons d2 r => cases r with | cons d3 r => cases r with | cons d4 r =>
    cases r
    obtain rfl := d1.isInt hS1
    obtain rfl := d2.isInt hS1
    obtain rfl := d3.isInt hS1
    obtain rfl := d4.isBl hS1
    exact ⟨dk, Γ, Δ1, b, f, l, y, rfl, hA, hS1, fun H' v hS' => q v H' _ (s1.trans (Sub.cons .rfl')) hS' (.of (List.mem_cons_self ..))⟩
theorem ed_due (h : EvDs K B tr σ [.int b, .int f, .int (l : Int)]) (hA : Args3 b f l) : EvD K B (tCall (sp_law_due K) [] E tr) σ (seenD b f l) := fun H dk Γ Δ Q hb hS q =>
  h H dk Γ Δ _ hb hS fun vs H1 Δ1 s1 hS1 dvs => by
    cases dvs with | cons d1 r => cases r with | cons d2 r => cases r with | cons d3 r =>
    cases r
    obtain rfl := d1.isInt hS1
    obtain rfl := d2.isInt hS1
    obtain rfl := d3.isInt hS1
    exact ⟨dk, Γ, Δ1, b, f, l, rfl, hA, hS1, fun H' v hS' => q v H' _ (s1.trans (Sub.cons .rfl')) hS' (.of (List.mem_cons_self ..))⟩
theorem ed_isfl (h : EvDs K B tr σ [.int b, .int f, .int (l : Int), .int n]) (hA : Args3 b f l) (hn : n.natAbs < 2 ^ 4000) : EvD K B (tCall (sp_law_is_float K) [] E tr) σ (.bool (isFl b f l n)) := fun H dk Γ Δ Q hb hS q =>
  h H dk Γ Δ _ hb hS fun vs H1 Δ1 s1 hS1 dvs => by
    cases dvs with | cons d1 r => cases r with | cons d2 r => cases r with | cons d3 r => cases r with | cons d4 r =>
    cases r
    obtain rfl := d1.isInt hS1
    obtain rfl := d2.isInt hS1
    obtain rfl := d3.isInt hS1
    obtain rfl := d4.isInt hS1
    exact ⟨b, f, n, l, rfl, hA, hn, q _ _ _ s1 hS1 (.bl _)⟩
theorem ed_fits (h1 : EvD K B te σ (scaleD rs)) (h2 : EvD K B td σ (.int n)) (hr : ∀ r ∈ rs, 0 ≤ r.2) : EvD K B (tCall (spfits K) [] E (tCons te (tCons td tNil))) σ (.bool (fitsAll rs n)) := fun H dk Γ Δ Q hb hS q =>
  h1 H dk Γ Δ _ hb hS fun v H1 Δ1 s1 hS1 d1 => h2 H1 dk Γ Δ1 _ (hb.trans s1) hS1 fun u H2 Δ2 s2 hS2 d2 => by
    obtain rfl := d2.isInt hS2
    have d3 := d1.sub s2
    obtain ⟨a, rfl⟩ := d3.isRef hS2 trivial
    exact ⟨dk, Γ, _, a, rs, n, rfl, hS2.also d3, List.mem_cons_self .., hr, fun H' hS' => q _ H' _ (s1.trans (s2.trans (Sub.cons .rfl'))) hS' (.bl _)⟩
theorem ed_serr (h1 : EvD K B te σ (scaleD rs)) (hr : rs.length ≤ 40) : EvD K B (tCall (spscale_error K) [] E (tCons te tNil)) σ (serrD rs) := fun H dk Γ Δ Q hb hS q =>
  h1 H dk Γ Δ _ hb hS fun v H1 Δ1 s1 hS1 d1 => by
    obtain ⟨a, rfl⟩ := d1.isRef hS1 trivial
    exact ⟨dk, Γ, _, a, rs, rfl, hS1.also d1, List.mem_cons_self .., hr, fun H' v hS' => q v H' _ (s1.trans ((Sub.cons .rfl').trans (Sub.cons .rfl'))) hS' (.of (List.mem_cons_self ..))⟩
end
/-! ### how long their texts are -/
theorem fs_length (b f : Int) (l : Nat) : (fsR b f l).length = l + 1 := by
  unfold fsR
  rw [List.length_append, List.length_map, List.length_range, List.length_singleton]
theorem sm_scale_word : Sm 9 0 (.str "scale" : D) := ⟨by decide +kernel, by simp only [PyData.depth]; exact Nat.le_refl 0, by decide +kernel, by simp only [PyData.canLay0]; decide +kernel⟩
theorem sm_unfit_word : Sm 9 0 (.str "unfit" : D) := ⟨by decide +kernel, by simp only [PyData.depth]; exact Nat.le_refl 0, by decide +kernel, by simp only [PyData.canLay0]; decide +kernel⟩
theorem sm_seen {b f : Int} {l : Nat} (h : Args3 b f l) : Sm 110000 3 (seenD b f l) := by
  obtain ⟨b1, b2, f1, f2, l1⟩ := h
  unfold seenD
  split
  · rename_i hh
    obtain ⟨fn, rfl⟩ := Int.eq_ofNat_of_zero_le (show 0 ≤ f by omega)
    have hg := fs_good b1 (show 1 ≤ fn by omega) l (of_decide_eq_true hh)
    have e1 : (10 : Int) ^ 60 < 10 ^ 570 := by decide +kernel
    have hs : Sm 50000 2 (scaleD (fsR b (fn : Int) l)) := by
      refine (sm_tuple (n := 1147) (k := 1) (ds := (fsR b (fn : Int) l).map ruleD) fun d hd => ?_).mono ?_ (Nat.le_refl _)
      · obtain ⟨r, hr, rfl⟩ := List.mem_map.mp hd
        have g := hg r hr
        unfold goodR at g
        simp only [Bool.and_eq_true, Bool.or_eq_true, decide_eq_true_eq] at g
        obtain ⟨⟨g1, g2⟩, g3⟩ := g
        refine sm_tuple (n := 570) (k := 0) (ds := [.int r.1, .int r.2]) fun d hd => ?_
        simp only [List.mem_cons, List.not_mem_nil, or_false] at hd
        rcases hd with rfl | rfl
        · exact sm_int g1 (Int.lt_of_le_of_lt g2 e1)
        · rcases g3 with g | ⟨g3, g4⟩
          · rw [g]
            exact sm_int (Int.le_refl 0) (by decide +kernel)
          · exact sm_int (by omega) (Int.lt_of_le_of_lt g4 e1)
      · rw [List.length_map, fs_length]
        omega
    refine (sm_list (n := 50000) (k := 2) (ds := [.str "scale", scaleD (fsR b (fn : Int) l)]) fun d hd => ?_).mono ?_ (Nat.le_refl _)
    · simp only [List.mem_cons, List.not_mem_nil, or_false] at hd
      rcases hd with rfl | rfl
      · exact sm_scale_word.mono (by decide) (by decide)
      · exact hs
    · show 2 * (50000 + 2) + 3 ≤ 110000
      decide
  · refine (sm_list (n := 9) (k := 0) (ds := [.str "unfit", .bool true]) fun d hd => ?_).mono (by decide) (by decide)
    simp only [List.mem_cons, List.not_mem_nil, or_false] at hd
    rcases hd with rfl | rfl
    · exact sm_unfit_word
    · exact (sm_bool true).mono (by decide) (by decide)

/-! ### scales of floats: what fits -/
theorem left_inv {b u : Int} {f : Nat} (hb : 2 ≤ b) : ∀ i : Nat, ∃ j, j ≤ i ∧ u = leftAt b (b ^ f) u i * b ^ j ∧ (∀ k < j, b ^ (f + k) ≤ u) ∧ (j = i ∨ leftAt b (b ^ f) u i < b ^ f ∨ ¬ b ∣ leftAt b (b ^ f) u i)
  | 0 => ⟨0, Nat.le_refl 0, by rw [Int.pow_zero, Int.mul_one]; rfl, fun k hk => absurd hk (Nat.not_lt_zero k), Or.inl rfl⟩
  | i + 1 => by
    obtain ⟨j, h1, h2, h3, h4⟩ := left_inv (b := b) (u := u) (f := f) hb i
    have es : leftAt b (b ^ f) u (i + 1) = if leftAt b (b ^ f) u i ≥ b ^ f ∧ leftAt b (b ^ f) u i % b = 0 then leftAt b (b ^ f) u i / b else leftAt b (b ^ f) u i := rfl
    rw [es]
    generalize leftAt b (b ^ f) u i = z at h2 h4
    by_cases c : z ≥ b ^ f ∧ z % b = 0
    · rw [if_pos c]
      have hd : b ∣ z := Int.dvd_of_emod_eq_zero c.2
      have hji : j = i := by
        rcases h4 with h | h | h
        · exact h
        · have := c.1
          omega
        · exact absurd hd h
      subst hji
      refine ⟨j + 1, Nat.le_refl _, ?_, fun k hk => ?_, Or.inl rfl⟩
      · rw [Int.pow_succ, Int.mul_comm (b ^ j) b, ← Int.mul_assoc, Int.ediv_mul_cancel hd]
        exact h2
      · by_cases hkj : k < j
        · exact h3 k hkj
        · have : k = j := by omega
          subst this
          rw [h2, Int.pow_add]
          have hp : 0 < b ^ k := Int.pow_pos (by omega)
          exact Int.mul_le_mul_of_nonneg_right c.1 (by omega)
    · rw [if_neg c]
      refine ⟨j, by omega, h2, h3, Or.inr ?_⟩
      by_cases c1 : z < b ^ f
      · exact Or.inl c1
      · exact Or.inr fun hd => c ⟨by omega, Int.emod_eq_zero_of_dvd hd⟩
theorem abs_dvd {n m : Int} : n % m = 0 ↔ m ∣ (if n < 0 then -n else n) := by
  rw [← Int.dvd_iff_emod_eq_zero]
  split
  · exact Int.dvd_neg.symm
  · exact Iff.rfl
theorem float_is {b n : Int} {f l : Nat} (hb : 2 ≤ b) : fitsAll (fsR b (f : Int) l) n = isFl b (f : Int) l n := by
  have hp : ∀ k, 0 < b ^ k := fun k => Int.pow_pos (by omega)
  have e1 : fitsAll (fsR b (f : Int) l) n = true ↔ (∀ k < l, (if n < 0 then -n else n) < b ^ (f + k) ∨ b ^ (k + 1) ∣ (if n < 0 then -n else n)) ∧ (if n < 0 then -n else n) < b ^ (f + l) := by
    unfold fitsAll
    rw [List.all_eq_true, fs_eq]
    constructor
    · intro h
      refine ⟨fun k hk => ?_, ?_⟩
      · have g := h (b ^ (f + k) - 1, b ^ (k + 1)) (List.mem_append_left _ (List.mem_map.mpr ⟨k, List.mem_range.mpr hk, rfl⟩))
        unfold fitR at g
        simp only [Bool.or_eq_true, Bool.and_eq_true, decide_eq_true_eq] at g
        rcases g with g | ⟨_, g⟩
        · exact Or.inl (by omega)
        · exact Or.inr (abs_dvd.mp g)
      · have g := h (b ^ (f + l) - 1, 0) (List.mem_append_right _ (List.mem_singleton_self _))
        unfold fitR at g
        simp only [Bool.or_eq_true, Bool.and_eq_true, decide_eq_true_eq, decide_true, Bool.not_true, Bool.false_eq_true, false_and, or_false] at g
        omega
    · rintro ⟨h1, h2⟩ r hr
      rcases List.mem_append.mp hr with hr | hr
      · obtain ⟨k, hk, rfl⟩ := List.mem_map.mp hr
        unfold fitR
        rcases h1 k (List.mem_range.mp hk) with g | g
        · rw [decide_eq_true (show (if n < 0 then -n else n) ≤ b ^ (f + k) - 1 by omega)]
          rfl
        · have h0 : b ^ (k + 1) ≠ 0 := by
            have := hp (k + 1)
            omega
          show (decide ((if n < 0 then -n else n) ≤ b ^ (f + k) - 1) || (!decide (b ^ (k + 1) = 0) && decide (n % b ^ (k + 1) = 0))) = true
          rw [decide_eq_false h0, decide_eq_true (abs_dvd.mpr g)]
          exact Bool.or_true _
      · rw [List.mem_singleton.mp hr]
        unfold fitR
        rw [decide_eq_true (show (if n < 0 then -n else n) ≤ b ^ (f + l) - 1 by omega)]
        rfl
  have e2 : isFl b (f : Int) l n = true ↔ leftAt b (b ^ f) (if n < 0 then -n else n) l < b ^ f := by
    unfold isFl
    rw [decide_eq_true_eq]
    exact Iff.rfl
  rw [Bool.eq_iff_iff, e1, e2]
  clear e1 e2
  generalize (if n < 0 then -n else n) = u
  obtain ⟨j, h1, h2, h3, h4⟩ := left_inv (b := b) (u := u) (f := f) hb l
  generalize leftAt b (b ^ f) u l = z at h2 h4
  constructor
  · rintro ⟨g1, g2⟩
    apply Decidable.byContradiction
    intro c
    have c' : b ^ f ≤ z := by omega
    have c2 : b ^ (f + j) ≤ u := by
      rw [h2, Int.pow_add]
      exact Int.mul_le_mul_of_nonneg_right c' (by have := hp j; omega)
    rcases h4 with h | h | h
    · subst h
      omega
    · exact c h
    · have hjl : j < l := by
        apply Decidable.byContradiction
        intro q
        have : j = l := by omega
        subst this
        omega
      rcases g1 j hjl with g | g
      · omega
      · rw [h2, Int.pow_succ, Int.mul_comm (b ^ j) b] at g
        exact h (Int.dvd_of_mul_dvd_mul_right (by have := hp j; omega) g)
  · intro c
    have c2 : u < b ^ (f + j) := by
      rw [h2, Int.pow_add]
      exact Int.mul_lt_mul_of_pos_right c (hp j)
    refine ⟨fun k hk => ?_, Int.lt_of_lt_of_le c2 (ipow_le hb (by omega))⟩
    by_cases hkj : k < j
    · refine Or.inr ?_
      rw [h2]
      exact Int.dvd_trans (show b ^ (k + 1) ∣ b ^ j from ⟨b ^ (j - (k + 1)), by rw [← Int.pow_add, show k + 1 + (j - (k + 1)) = j by omega]⟩) (Int.dvd_mul_left _ _)
    · exact Or.inl (Int.lt_of_lt_of_le c2 (ipow_le hb (by omega)))

section
variable {K : PySem.W.Frag} {B : List (V × D)} {σ : L2.St} {te : TE} {b f : Int} {l : Nat}
theorem ed_first (h : EvD K B te σ (seenD b f l)) : EvD K B (tOp rEq (tOp (rIxL K) te (tC (.int 0))) (tC (.str "scale"))) σ (.bool (isHeld b f l)) := by
  unfold seenD at h
  cases hh : isHeld b f l with
  | true =>
    rw [hh, if_pos rfl] at h
    have g := ed_eqS (ed_ixL (n := 0) h rfl) (ed_str (K := K) (B := B) (σ := σ) (x := "scale"))
    rw [decide_eq_true rfl] at g
    exact g
  | false =>
    rw [hh, if_neg Bool.false_ne_true] at h
    have g := ed_eqS (ed_ixL (n := 0) h rfl) (ed_str (K := K) (B := B) (σ := σ) (x := "scale"))
    rw [decide_eq_false (by decide)] at g
    exact g
theorem ed_second (hh : isHeld b f l = true) (h : EvD K B te σ (seenD b f l)) : EvD K B (tOp (rIxL K) te (tC (.int 1))) σ (scaleD (fsR b f l)) := by
  unfold seenD at h
  rw [if_pos hh] at h
  exact ed_ixL (n := 1) h rfl
end
def rgI : List Int := (List.range 205).map fun (i : Nat) => (-5 + (i : Int))
theorem rg_eq : rgV (-5) 200 = rgI.map V.int := by
  unfold rgV rgI
  rw [List.map_map]
  rfl
theorem rg_small : ∀ n ∈ rgI, n.natAbs < 2 ^ 4000 := by
  intro n hn
  obtain ⟨i, hi, rfl⟩ := List.mem_map.mp hn
  have := List.mem_range.mp hi
  exact Nat.lt_of_le_of_lt (show (-5 + (i : Int)).natAbs ≤ 2 ^ 10 by omega) (Nat.pow_lt_pow_right (by decide) (by decide))
theorem held_small {b f : Int} {l : Nat} (hA : Args3 b f l) (h2 : f ≤ 2) (h3 : l ≤ 2) : isHeld b f l = true := by
  obtain ⟨b1, b2, f1, _, _⟩ := hA
  refine decide_eq_true ?_
  have g := pow_lt10 (b := b) (k := f.toNat + l) (by omega) b2
  have g2 : (b ^ (f.toNat + l)).natAbs < 2 ^ 50 := Nat.lt_of_lt_of_le g (Nat.pow_le_pow_right (by decide) (by omega))
  have e : (2 : Int) ^ 50 ≤ 10 ^ 60 := by decide +kernel
  omega
theorem fs_nonneg {b f : Int} {l : Nat} (hb : 2 ≤ b) : ∀ r ∈ fsR b f l, 0 ≤ r.2 := by
  intro r hr
  rcases List.mem_append.mp hr with hr | hr
  · obtain ⟨k, _, rfl⟩ := List.mem_map.mp hr
    have : 0 < b ^ (k + 1) := Int.pow_pos (by omega)
    show 0 ≤ b ^ (k + 1)
    omega
  · rw [List.mem_singleton.mp hr]
    exact Int.le_refl 0
theorem dv_ints {Δ : List (V × D)} : ∀ ns : List Int, DvAll Δ (ns.map V.int) (ns.map PyData.int)
  | [] => .nil
  | n :: ns => .cons (.int n) (dv_ints ns)

local macro_rules | `(tactic| walk_at "evd") => `(tactic| (repeat' (first | exact ed_int | exact ed_str | exact ed_non | exact ed_bl | exact eds_nil | refine eds_cons ?_ ?_ | refine ed_tup ?_ ?_ | refine ed_lst ?_ ?_ | refine ed_neg ?_ | refine ed_I0 ?_ ?_ | exact ed_varI rfl | exact Nat.le_of_ble_eq_true rfl)))
local macro_rules | `(tactic| walk_at "lk") => `(tactic| first | exact .here | exact .there (.here) | exact .there (.there (.here)) | exact .there (.there (.there (.here))) | exact .there (.there (.there (.there (.here)))) | exact .there (.there (.there (.there (.there (.here))))) | exact .there (.there (.there (.there (.there (.there (.here)))))) | exact .there (.there (.there (.there (.there (.there (.there (.here))))))))
local macro_rules | `(tactic| walk_at "side") => `(tactic| first | assumption | exact Or.inr ⟨by decide, by decide⟩ | exact Or.inl ⟨by decide, by decide⟩ | exact ⟨by decide, by decide⟩ | (show (0:Int) < _; omega) | exact mulx_dec (by omega) (by omega) (by omega) (by omega) | exact divw_dec (by omega) (by omega) | exact ⟨by omega, by omega⟩)
local macro_rules | `(tactic| walk_at "ev1") => `(tactic| first | ((with_reducible show Ev _ _ _ _ _); first | with_reducible refine ev_var rfl ?_ | with_reducible refine ev_int ?_ | with_reducible refine ev_op ?_ | with_reducible refine ev_cb ?_ | with_reducible refine ev_lstM (eva_nil ⟨rfl, Nat.le_of_ble_eq_true rfl, fun _ => ?_⟩) | with_reducible refine ev_lst ?_ | with_reducible refine ev_tup ?_ | with_reducible refine ev_str ?_ | with_reducible refine ev_bl ?_ | with_reducible refine ev_non ?_ | with_reducible refine ev_un ?_ | refine ev_bm ?_ | refine ev_bm0 ?_ | refine ev_sl ?_ | refine ev_rev ?_ | with_reducible refine ev_notV ?_ | with_reducible refine ev_chain ?_) | ((with_reducible show EvA _ _ _ _ _); first | with_reducible refine eva_nil ?_ | with_reducible refine eva_cons ?_) | ((with_reducible show EvT _ _ _ _ _); first | with_reducible refine evt_test ?_ | with_reducible refine evt_B ?_ | with_reducible refine evt_not ?_ | with_reducible refine evt_yes ?_) | ((with_reducible show Op _ _ _ _ _ _); first | with_reducible refine op_I0 ?_ | with_reducible refine op_B0 ?_ | with_reducible refine op_eqI2 ?_ | with_reducible refine op_neI2 ?_ | refine op_IC (by walk_at "side") ?_ | refine op_ixL rfl ?_ | refine op_ixT rfl ?_ | with_reducible refine op_eqS2 ?_ | with_reducible refine op_neS2 ?_ | with_reducible refine op_eqB2 ?_ | with_reducible refine op_neB2 ?_ | with_reducible refine op_isNon ?_ | with_reducible refine op_notNon ?_ | with_reducible refine op_ip ?_ | refine op_neNil2 (by walk_at "lk") ?_ ?_ | refine op_eqNil2 (by walk_at "lk") ?_ ?_ | refine op_neNilD2 ?_ ?_ | refine op_eqNilD2 ?_ ?_ | refine op_IC ?_ ?_) | ((with_reducible show EE.Un _ _ _ _ _); first | with_reducible refine un_I ?_) | ((with_reducible show Cb _ _ _ _ _); first | with_reducible refine cb_abs ?_ | with_reducible refine cb_max2 ?_ | with_reducible refine cb_min2 ?_ | with_reducible refine cb_int ?_ | with_reducible refine cb_intB ?_ | refine cb_lenT ?_ | refine cb_lenL (by first | exact asl_dat | exact asl_ref (by walk_at "lk")) ?_ | refine cb_tupleT ?_ | refine cb_tupleL (by first | exact asl_dat | exact asl_ref (by walk_at "lk")) ?_ | with_reducible refine cb_gcd ?_ | with_reducible refine cb_reprB ?_) | ((with_reducible show Mt _ _ _ _ _ _); first | refine mt_app (by walk_at "lk") ?_ ?_) | ((with_reducible show Tg _ _ _ _ _ _); first | with_reducible refine tg_name ?_ | refine tg_tup rfl ?_) | ((with_reducible show Tgs _ _ _ _ _ _); first | refine tgs_nil ?_ | refine tgs_cons ?_) | ((with_reducible show Sl _ _ _ _ _ _ _); first | refine sl_T ?_ | refine sl_L (by first | exact asl_dat | exact asl_ref (by walk_at "lk")) ?_) | ((with_reducible show EvO _ _ _ _ _); first | with_reducible refine evo_none ?_ | with_reducible refine evo_some ?_) | ((with_reducible show EvI _ _ _ _ _); first | refine evi_R ?_ | refine evi_R2 ?_ | refine evi_R3 ?_ | refine evi_ZA ?_ | refine evi_T ?_ | refine evi_ET ?_) | (first | ((with_reducible show _ ∧ _); first | refine ⟨rfl, Nat.le_of_ble_eq_true rfl, ?_⟩ | refine ⟨trivial, ?_⟩ | refine ⟨isl_ref (by walk_at "lk"), ?_⟩ | refine ⟨_, rfl, ?_⟩ | refine ⟨_, asl_dat, ?_⟩ | refine ⟨_, asl_ref (by walk_at "lk"), ?_⟩ | refine ⟨_, _, rfl, ?_⟩ | refine ⟨_, _, _, rfl, ?_⟩) | ((with_reducible show ∃ _, _); first | refine ⟨rfl, Nat.le_of_ble_eq_true rfl, ?_⟩ | refine ⟨trivial, ?_⟩ | refine ⟨isl_ref (by walk_at "lk"), ?_⟩ | refine ⟨_, rfl, ?_⟩ | refine ⟨_, asl_dat, ?_⟩ | refine ⟨_, asl_ref (by walk_at "lk"), ?_⟩ | refine ⟨_, _, rfl, ?_⟩ | refine ⟨_, _, _, rfl, ?_⟩)))
local macro_rules | `(tactic| walk_at "nf") => `(tactic| all_goals (try dsimp only [List.set_cons_succ, List.set_cons_zero, datsOf, wipeA]))
local macro_rules | `(tactic| walk_at "ev") => `(tactic| ((repeat' (walk_at "ev1")); walk_at "nf"))
local macro_rules | `(tactic| walk_at "do1") => `(tactic| first | ((with_reducible show Do _ _ _ _ _); first | with_reducible refine do_set ?_ | with_reducible refine do_next ?_ | with_reducible refine do_setL ?_ | with_reducible refine do_brk ?_ | with_reducible refine do_cont ?_ | with_reducible refine do_drop ?_ | with_reducible refine do_dropL ?_ | with_reducible refine do_ret ?_ | with_reducible refine do_retN ?_ | with_reducible refine do_aug rfl ?_ | with_reducible refine do_augL rfl ?_ | with_reducible refine do_par ?_ | with_reducible refine do_parL ?_ | with_reducible refine do_par3 ?_) | ((with_reducible show EE.Fin _ _ _ _); first | ((try dsimp only); with_reducible refine fin_do ?_)))
local macro_rules | `(tactic| walk_at "go") => `(tactic| ((repeat' (first | walk_at "ev1" | walk_at "do1")); walk_at "nf"))
section
variable {P : Program} {w : World} {K : PySem.W.Frag} {mg : Str → Option Value} {base : Heap}
theorem okis_integer {f : Addr} {fd : FuncData} (F : Fun K "is_integer" "is_integer" sis_integer f fd) (nb : NB mg bnames)     : FnOk P w K mg base CX0 1 f fd ["value"] (spis_integer K) := by
  refine F.ok scis_integer (fun vs H Q E h => ?_) (fun cdv A outer s H vs Q E hr h => ?_)
  · obtain ⟨i, rfl, _⟩ := h
    rfl
  · obtain ⟨i, rfl, q⟩ := h
    refine ⟨_, (pss_one (ps_ret (pe_and (pe_callB call_isi (by rfl) (nb "isinstance" rfl) (by decide +kernel) (pa_cons (pv 0) (pa_cons (pe_bltn (v := .ty "int") (u := .type "int") (by rfl) (nb "int" rfl) (by decide +kernel) (by rfl)) pa_nil))) (pe_one (pe_not (pe_callB call_isi (by rfl) (nb "isinstance" rfl) (by decide +kernel) (pa_cons (pv 0) (pa_cons (pe_bltn (v := .ty "bool") (u := .type "bool") (by rfl) (nb "bool" rfl) (by decide +kernel) (by rfl)) pa_nil)))))))), ?_⟩
    refine ⟨_, rfl, _, _, _, _, true, rfl, .ty "int", .base (.int i), kit_ty (by decide +kernel), true, rfl, iteT ?_⟩
    refine ⟨_, rfl, _, _, _, _, false, rfl, .ty "bool", .base (.int i), kit_ty (by decide +kernel), _, rfl, q⟩

theorem okis_row {f : Addr} {fd : FuncData} (F : Fun K "is_row" "is_row" sis_row f fd) (nb : NB mg bnames)     : FnOk P w K mg base CX0 1 f fd ["value", "many"] (spis_row K) := by
  refine F.ok scis_row (fun vs H Q E h => ?_) (fun cdv A outer s H vs Q E hr h => ?_)
  · obtain ⟨dk, Γ, Δ, a, ds, n, rfl, _⟩ := h
    rfl
  · obtain ⟨dk, Γ, Δ, a, ds, n, rfl, hS, hm, q⟩ := h
    refine ⟨_, (pss_one (ps_ret (pe_and (pe_callB call_isi (by rfl) (nb "isinstance" rfl) (by decide +kernel) (pa_cons (pv 0) (pa_cons (pe_bltn (v := .ty "tuple") (u := .type "tuple") (by rfl) (nb "tuple" rfl) (by decide +kernel) (by rfl)) pa_nil))) (pe_one (pe_cmpR op_eq (pe_callB call_len_seq (by rfl) (nb "len" rfl) PySem.boot_len (pa_cons (pv 0) pa_nil)) (pv 1) (nomark _)))))), ?_⟩
    obtain ⟨vs, hT, hlen⟩ := hS.lenT hm
    refine ⟨_, rfl, _, _, _, _, true, rfl, .ty "tuple", ty_tup hT, kit_ty (by decide +kernel), true, rfl, iteT ?_⟩
    refine ⟨_, rfl, a, vs, rfl, .inr hT, _, rfl, rfl, ?_⟩
    rw [dec_vint, hlen]
    exact q

theorem okis_step {f : Addr} {fd : FuncData} (F : Fun K "is_step" "is_step" sis_step f fd) (nb : NB mg bnames) (Fis_integer : Fd P w K mg base "is_integer" 1 ["value"] (spis_integer K))  (c_MAX_STEP : ∃ t, mg "MAX_STEP" = some (.int (1000000000000000000000000000000000000000000000000000000000000) t))  : FnOk P w K mg base CX0 2 f fd ["value"] (spis_step K) := by
  refine F.ok scis_step (fun vs H Q E h => ?_) (fun cdv A outer s H vs Q E hr h => ?_)
  · obtain ⟨i, rfl, _⟩ := h
    rfl
  · obtain ⟨i, rfl, q⟩ := h
    refine ⟨_, (pss_one (ps_ret (pe_and (pe_fd Fis_integer (hr.mono (by decide)) (by rfl) (pa_cons (pv 0) pa_nil)) (pe_one (pe_or (pe_cmpR op_eq (pv 0) pe_int (nomark _)) (pe_one (pe_chain op_le op_le pe_int (pv 0) (pe_k c_MAX_STEP rfl)))))))), ?_⟩
    refine ⟨_, rfl, i, rfl, true, rfl, iteT ?_⟩
    refine ⟨_, rfl, rfl, _, rfl, ?_⟩
    rw [dec_vint]
    refine ite2 (fun e => ?_) (fun e => ?_)
    · rw [e, Bool.true_or] at q
      exact q
    · have e1 : decide (i = 0) = false := by simpa using e
      rw [e1, Bool.false_or] at q
      refine ⟨_, rfl, _, _, rfl, rfl, _, rfl, ite2 (fun e2 => ?_) (fun e2 => ?_)⟩
      · rw [e2, Bool.true_and] at q
        exact ⟨_, _, rfl, rfl, q⟩
      · have e3 : decide (2 ≤ i) = false := by simpa using e2
        rw [e3, Bool.false_and] at q
        exact q

theorem okis_rule {f : Addr} {fd : FuncData} (F : Fun K "is_rule" "is_rule" sis_rule f fd) (nb : NB mg bnames) (Fis_integer : Fd P w K mg base "is_integer" 1 ["value"] (spis_integer K)) (Fis_row : Fd P w K mg base "is_row" 1 ["value", "many"] (spis_row K)) (Fis_step : Fd P w K mg base "is_step" 2 ["value"] (spis_step K))  (c_MAX_NUMBER : ∃ t, mg "MAX_NUMBER" = some (.int (1000000000000000000000000000000000000000000000000000000000000) t))  : FnOk P w K mg base CX0 3 f fd ["value"] (spis_rule K) := by
  refine F.ok scis_rule (fun vs H Q E h => ?_) (fun cdv A outer s H vs Q E hr h => ?_)
  · obtain ⟨dk, Γ, Δ, a, r, rfl, _⟩ := h
    rfl
  · obtain ⟨dk, Γ, Δ, a, r, rfl, hS, hm, q⟩ := h
    refine ⟨_, (pss_cons (ps_if (pt_not (pt_val (pe_fd Fis_row (hr.mono (by decide)) (by rfl) (pa_cons (pv 0) (pa_cons pe_int pa_nil))))) (pss_one (ps_ret pe_bl)) pss_nil)
        (pss_cons (ps_asg (pv 0) (pg_tup (by rfl) (pgs_cons (pg_name (i := 1) scis_rule.nd rfl (.inl rfl)) (pgs_cons (pg_name (i := 2) scis_rule.nd rfl (.inl rfl)) pgs_nil))))
        (pss_one (ps_ret (pe_and (pe_fd Fis_integer (hr.mono (by decide)) (by rfl) (pa_cons (pv 1) pa_nil)) (pe_and (pe_chain op_le op_le pe_int (pv 1) (pe_k c_MAX_NUMBER rfl)) (pe_one (pe_fd Fis_step (hr.mono (by decide)) (by rfl) (pa_cons (pv 2) pa_nil))))))))), ?_⟩
    have hT := hS.pair hm
    refine ⟨_, rfl, dk, Γ, Δ, a, [.int r.1, .int r.2], 2, rfl, hS, hm, _, rfl, ?_⟩
    refine iteF ?_
    refine ⟨_, rfl, a, _, rfl, hT, rfl, _, _, rfl, _, _, rfl, rfl, ?_⟩
    refine ⟨_, rfl, r.1, rfl, true, rfl, iteT ?_⟩
    have g := q H hS
    unfold goodR at g
    rw [e60] at g
    refine ⟨_, rfl, _, _, rfl, rfl, _, rfl, ite2 (fun e => ?_) (fun e => ?_)⟩
    · rw [e, Bool.true_and] at g
      refine ⟨_, _, rfl, rfl, _, rfl, ite2 (fun e2 => ?_) (fun e2 => ?_)⟩
      · rw [e2, Bool.true_and] at g
        exact ⟨_, rfl, r.2, rfl, g⟩
      · have e3 : decide (r.1 ≤ 1000000000000000000000000000000000000000000000000000000000000) = false := by simpa using e2
        rw [e3, Bool.false_and] at g
        exact g
    · have e3 : decide (0 ≤ r.1) = false := by simpa using e
      rw [e3, Bool.false_and, Bool.false_and] at g
      exact ⟨false, rfl, iteF g⟩

theorem okrow_error {f : Addr} {fd : FuncData} (F : Fun K "row_error" "row_error" srow_error f fd) (nb : NB mg bnames) (Fis_rule : Fd P w K mg base "is_rule" 3 ["value"] (spis_rule K))    : FnOk P w K mg base CX0 4 f fd ["value", "most", "word", "is_right"] (sprow_error K mg) := by
  refine F.ok scrow_error (fun vs H Q E h => ?_) (fun cdv A outer s H vs Q E hr h => ?_)
  · obtain ⟨dk, Γ, Δ, a, rs, fr, word, rfl, _⟩ := h
    rfl
  · obtain ⟨f2, fd2, G_is_rule, hm_is_rule, hk_is_rule, hb_is_rule⟩ := Fis_rule.ex
    obtain ⟨dk, Γ, Δ, a, rs, fr, word, rfl, hm2, hS, hm, hlen40, q⟩ := h
    obtain rfl : fr = f2 := Value.ref.inj (Option.some.inj (hm2.symm.trans hm_is_rule))
    refine ⟨_, (pss_cons (ps_if (PW.pt (pw_or (pt_not (pt_val (pe_callB call_isi (by rfl) (nb "isinstance" rfl) (by decide +kernel) (pa_cons (pv 0) (pa_cons (pe_bltn (v := .ty "tuple") (u := .type "tuple") (by rfl) (nb "tuple" rfl) (by decide +kernel) (by rfl)) pa_nil))))) (pw_or1 (pt_cmpR op_gt (pe_callB call_len_seq (by rfl) (nb "len" rfl) PySem.boot_len (pa_cons (pv 0) pa_nil)) (pv 1) (nomark _))))) (pss_one (ps_ret pe_str)) pss_nil)
        (pss_cons (ps_for PassesOwn.never rfl (pi_enumT (by rfl) (nb "enumerate" rfl) (pa_cons (pv 0) pa_nil)) (pg_tup (by rfl) (pgs_cons (pg_name (i := 4) scrow_error.nd rfl (.inl rfl)) (pgs_cons (pg_name (i := 5) scrow_error.nd rfl (.inl rfl)) pgs_nil)))
        (pss_one (ps_if (pt_not (pt_val (pe_callL G_is_rule (hr.mono (by decide)) (i := 3) rfl (by first | exact Or.inl rfl | exact Or.inr rfl) hk_is_rule hb_is_rule .nil pass0 (pa_cons (pv 5) pa_nil)))) (pss_one (ps_ret (pe_tup (pa_cons (pv 2) (pa_cons (pv 4) pa_nil))))) pss_nil)))
        (pss_one (ps_ret pe_non)))), ?_⟩
    obtain ⟨vs, hT, hlen⟩ := hS.lenT hm
    have hl2 : vs.length = rs.length := by rw [hlen, List.length_map]
    refine ⟨_, rfl, _, _, _, _, true, rfl, .ty "tuple", ty_tup hT, kit_ty (by decide +kernel), _, rfl, iteF ?_⟩
    refine ⟨_, rfl, a, vs, rfl, .inr hT, _, rfl, _, _, rfl, rfl, _, rfl, ifn (by
      rw [hl2]
      simp only [decide_eq_true_eq]
      omega) ?_⟩
    refine ⟨_, rfl, a, vs, rfl, hT, for_it (n := rs.length) walkET (fun i σ H => ∃ y4 y5, σ = [some (.ref a), some (.int 40), some (.str word), some (.ref fr), y4, y5] ∧ St K H dk Γ Δ ∧ ∀ r ∈ rs.take i, goodR r = true)
      ⟨_, _, rfl, hS, fun r hr => by simp at hr⟩ (fun i σ H _ hP => ?_) (fun i x σ H H' hi hP hy => ?_) (fun σ H hP => ?_)⟩
    · obtain ⟨_, _, _, hS, _⟩ := hP
      obtain ⟨xs, h1, h3⟩ := hS.lenT hm
      exact ⟨xs, h1, by rw [h3, List.length_map]⟩
    · obtain ⟨y4, y5, rfl, hS, hall⟩ := hP
      obtain ⟨T, x, rfl, hT, rfl, f⟩ := hy
      obtain ⟨d, e1, hS1⟩ := hS.turnT hm f
      rw [List.getElem?_map, List.getElem?_eq_getElem hi] at e1
      cases Option.some.inj e1
      obtain ⟨ax, rfl⟩ := hS1.ref_of (List.mem_cons_self ..)
      have hS2 := hS1.enumd (i := i) hT
      refine ⟨T, _, rfl, SqT.of upd_same, rfl, _, _, rfl, _, _, rfl, rfl, ?_⟩
      refine ⟨rfl, _, rfl, dk, Γ, _, ax, rs[i], rfl, hS2, List.mem_cons_self .., fun H' hS3 => ⟨_, rfl, ?_⟩⟩
      have hS4 := hS3.weaken (Δ' := Δ) fun _ => List.mem_cons_of_mem _
      cases hb : goodR rs[i] with
      | true =>
        refine iteF ⟨_, _, rfl, hS4, fun r hr => ?_⟩
        rw [List.take_add_one, List.getElem?_eq_getElem hi] at hr
        rcases List.mem_append.mp hr with hr | hr
        · exact hall r hr
        · rw [List.mem_singleton.mp hr]
          exact hb
      | false =>
        refine iteT ⟨_, rfl, _, rfl, (by show 2 ≤ sizeLine; decide), fun p hp => ?_⟩
        rw [ill_at rs i hi hall hb] at q
        exact q _ _ (hS4.tup (vs := [.str word, .int (i : Int)]) (ds := [.str word, .int (i : Int)]) hp (.cons (.str _) (.cons (.int _) .nil)))
    · obtain ⟨y4, y5, rfl, hS, hall⟩ := hP
      rw [ill_none rs (fun r hr => hall r (by rw [List.take_length]; exact hr))] at q
      exact q _ _ (hS.also .non)

theorem pow_le12 {k : Nat} (h : k ≤ 12000) : 2 ^ k ≤ 2 ^ 12000 := Nat.pow_le_pow_right (by decide) h
theorem lcm_step {m : Nat} {z : Int} {i : Nat} (h : m < 2 ^ (200 * i + 1)) (h0 : 0 ≤ z) (h1 : z ≤ 10 ^ 60) : m < 2 ^ (200 * i + 1) ∧ z.natAbs < 2 ^ 200 ∧ Nat.lcm m z.natAbs < 2 ^ (200 * (i + 1) + 1) := by
  have e : (10 : Nat) ^ 60 < 2 ^ 200 := by decide +kernel
  have hz : z.natAbs < 2 ^ 200 := Nat.lt_of_le_of_lt (show z.natAbs ≤ 10 ^ 60 by omega) e
  refine ⟨h, hz, Nat.lt_of_le_of_lt (PySem.W.mc_lcm_le _ _) (Nat.lt_of_lt_of_le (Nat.mul_lt_mul_of_lt_of_le h (Nat.le_of_lt hz) (Nat.pow_pos (by decide))) ?_)⟩
  rw [← Nat.pow_add]
  exact Nat.pow_le_pow_right (by decide) (by omega)
theorem okcommon_step {f : Addr} {fd : FuncData} (F : Fun K "common_step" "common_step" scommon_step f fd) (nb : NB mg bnames)    (c_lcm : mg "lcm" = some (.builtin "math.lcm")) : FnOk P w K mg base CX0 1 f fd ["rules"] (spcommon_step K) := by
  refine F.ok sccommon_step (fun vs H Q E h => ?_) (fun cdv A outer s H vs Q E hr h => ?_)
  · obtain ⟨dk, Γ, Δ, a, rs, rfl, _⟩ := h
    rfl
  · obtain ⟨dk, Γ, Δ, a, rs, rfl, hS, hm, h40, h2, q⟩ := h
    refine ⟨_, (pss_cons (ps_set (i := 1) sccommon_step.nd rfl (.inl rfl) pe_int)
        (pss_cons (ps_for PassesOwn.never rfl (pi_tup (pv 0)) (pg_tup (by rfl) (pgs_cons (pg_name (i := 2) sccommon_step.nd rfl (.inl rfl)) (pgs_cons (pg_name (i := 3) sccommon_step.nd rfl (.inl rfl)) pgs_nil)))
        (pss_one (ps_if (pt_cmpR op_ne (pv 3) pe_int (nomark _)) (pss_one (ps_set (i := 1) sccommon_step.nd rfl (.inl rfl) (pe_callBfun cr_lcm (by rfl) c_lcm (pa_cons (pv 1) (pa_cons (pv 3) pa_nil))))) pss_nil)))
        (pss_one (ps_ret (pv 1))))), ?_⟩
    obtain ⟨vs, hT, hlen⟩ := hS.lenT hm
    refine ⟨_, rfl, a, rfl, ⟨vs, hT⟩, for_it (n := rs.length) walkT (fun i σ H => ∃ y2 y3, σ = [some (.ref a), some (.int (lcmAll 1 (rs.take i) : Nat)), y2, y3] ∧ St K H dk Γ Δ ∧ lcmAll 1 (rs.take i) < 2 ^ (200 * i + 1))
      ⟨_, _, rfl, hS, by rw [List.take_zero]; decide⟩ (fun i σ H _ hP => ?_) (fun i x σ H H' hi hP hy => ?_) (fun σ H hP => ?_)⟩
    · obtain ⟨_, _, _, hS, _⟩ := hP
      obtain ⟨xs, h1, h3⟩ := hS.lenT hm
      exact ⟨xs, h1, by rw [h3, List.length_map]⟩
    · obtain ⟨y2, y3, rfl, hS, hb⟩ := hP
      obtain ⟨rfl, f⟩ := hy
      obtain ⟨d, e1, hS1⟩ := hS.turnT hm f
      rw [List.getElem?_map, List.getElem?_eq_getElem hi] at e1
      cases Option.some.inj e1
      obtain ⟨ax, rfl⟩ := hS1.ref_of (List.mem_cons_self ..)
      have hs := h2 _ (List.getElem_mem hi)
      have hT := hS1.pair (List.mem_cons_self ..)
      refine ⟨ax, _, rfl, hT, rfl, _, _, rfl, _, _, rfl, rfl, ?_⟩
      have ext : lcmAll 1 (rs.take (i + 1)) = if rs[i].2 = 0 then lcmAll 1 (rs.take i) else Nat.lcm (lcmAll 1 (rs.take i)) rs[i].2.natAbs := by
        rw [List.take_add_one, List.getElem?_eq_getElem hi]
        exact lcm_app _ _ _
      refine ⟨_, rfl, rfl, _, rfl, ite2 (fun e => ?_) (fun e => ?_)⟩
      · have hz : rs[i].2 ≠ 0 := fun z => by
          rw [z] at e
          exact absurd e (by decide)
        rw [if_neg hz] at ext
        obtain ⟨c1, c2, c3⟩ := lcm_step hb hs.1 hs.2
        refine ⟨_, rfl, _, rfl, _, _, rfl, Nat.lt_of_lt_of_le c1 (pow_le12 (by omega)), Nat.lt_of_lt_of_le c2 (pow_le12 (by decide)), some (.int rs[i].1), some (.int rs[i].2), ?_, hS, ?_⟩
        · rw [ext]
          rfl
        · rw [ext]
          exact c3
      · have hz : rs[i].2 = 0 := Decidable.byContradiction fun z => e (by
          have : decide (V.int rs[i].2 = V.int 0) = false := decide_eq_false fun y => z (V.int.inj y)
          rw [this]
          rfl)
        rw [if_pos hz] at ext
        refine ⟨some (.int rs[i].1), some (.int rs[i].2), ?_, hS, ?_⟩
        · rw [ext]
          rfl
        · rw [ext]
          exact Nat.lt_of_lt_of_le hb (Nat.pow_le_pow_right (by decide) (by omega))
    · obtain ⟨y2, y3, rfl, hS, hb⟩ := hP
      have g := q _ hS
      rw [← List.take_length (l := rs)] at g
      exact ⟨_, rfl, g⟩

theorem good_step {r : Rule} (h : goodR r = true) : 0 ≤ r.2 ∧ r.2 ≤ 10 ^ 60 := by
  unfold goodR at h
  simp only [Bool.and_eq_true, Bool.or_eq_true, decide_eq_true_eq] at h
  obtain ⟨_, h | ⟨h1, h2⟩⟩ := h
  · rw [h]
    exact ⟨Int.le_refl 0, by decide⟩
  · exact ⟨by omega, h2⟩
theorem okscale_error {f : Addr} {fd : FuncData} (F : Fun K "scale_error" "scale_error" sscale_error f fd) (nb : NB mg bnames) (Fcommon_step : Fd P w K mg base "common_step" 1 ["rules"] (spcommon_step K)) (Fis_rule : Fd P w K mg base "is_rule" 3 ["value"] (spis_rule K)) (Frow_error : Fd P w K mg base "row_error" 4 ["value", "most", "word", "is_right"] (sprow_error K mg))  (c_MAX_RULES : ∃ t, mg "MAX_RULES" = some (.int (40) t)) (c_MAX_STEP : ∃ t, mg "MAX_STEP" = some (.int (1000000000000000000000000000000000000000000000000000000000000) t))  : FnOk P w K mg base CX0 5 f fd ["value"] (spscale_error K) := by
  refine F.ok scscale_error (fun vs H Q E h => ?_) (fun cdv A outer s H vs Q E hr h => ?_)
  · obtain ⟨dk, Γ, Δ, a, rs, rfl, _⟩ := h
    rfl
  · obtain ⟨fr, fd2, G_is_rule, hm_is_rule, hk_is_rule, hb_is_rule⟩ := Fis_rule.ex
    obtain ⟨dk, Γ, Δ, a, rs, rfl, hS, hm, h40, q⟩ := h
    refine ⟨_, (pss_cons (ps_set (i := 1) scscale_error.nd rfl (.inl rfl) (pe_fd Frow_error (hr.mono (by decide)) (by rfl) (pa_cons (pv 0) (pa_cons (pe_k c_MAX_RULES rfl) (pa_cons pe_str (pa_cons (pe_fn hm_is_rule rfl) pa_nil))))))
        (pss_cons (ps_if (PW.pt (pw_and (pt_cmpR op_isN (pv 1) pe_non (nomark _)) (pw_and1 (pt_cmpR op_gt (pe_fd Fcommon_step (hr.mono (by decide)) (by rfl) (pa_cons (pv 0) pa_nil)) (pe_k c_MAX_STEP rfl) (nomark _))))) (pss_one (ps_ret pe_str)) pss_nil)
        (pss_one (ps_ret (pv 1))))), ?_⟩
    refine ⟨_, rfl, dk, Γ, Δ, a, rs, fr, "rule", rfl, hm_is_rule, hS, hm, h40, fun H1 v hS1 => ?_⟩
    cases e : firstIll rs with
    | none =>
      rw [e] at hS1
      obtain rfl := (Dv.of (List.mem_cons_self ..)).isNon hS1
      have hS2 := hS1.weaken (Δ' := Δ) fun _ => List.mem_cons_of_mem _
      refine ⟨_, rfl, rfl, _, rfl, iteT ?_⟩
      refine ⟨_, rfl, dk, Γ, Δ, a, rs, rfl, hS2, hm, h40, fun r hr => good_step (good_all rs e r hr), fun H2 hS3 => ?_⟩
      have es : serrD rs = if (lcmAll 1 rs : Int) > 10 ^ 60 then .str "great" else .none := by
        unfold serrD
        rw [e]
      rw [e60] at es
      refine ⟨_, _, rfl, rfl, _, rfl, ite2 (fun e2 => ?_) (fun e2 => ?_)⟩
      · rw [if_pos (by simpa using e2)] at es
        rw [es] at q
        exact q _ _ (hS3.also (.str _))
      · rw [if_neg (by simpa using e2)] at es
        rw [es] at q
        exact ⟨_, rfl, q _ _ (hS3.also .non)⟩
    | some i =>
      rw [e] at hS1
      have es : serrD rs = .tuple [.str "rule", .int (i : Int)] := by
        unfold serrD
        rw [e]
      rw [es] at q
      obtain ⟨t, rfl⟩ := hS1.ref_of (List.mem_cons_self ..)
      refine ⟨_, rfl, rfl, _, rfl, iteF ?_⟩
      exact ⟨_, rfl, q _ _ hS1⟩

theorem okfits_rule {f : Addr} {fd : FuncData} (F : Fun K "fits_rule" "fits_rule" sfits_rule f fd) (nb : NB mg bnames)     : FnOk P w K mg base CX0 1 f fd ["rule", "number"] (spfits_rule K) := by
  refine F.ok scfits_rule (fun vs H Q E h => ?_) (fun cdv A outer s H vs Q E hr h => ?_)
  · obtain ⟨dk, Γ, Δ, a, r, n, rfl, _⟩ := h
    rfl
  · obtain ⟨dk, Γ, Δ, a, r, n, rfl, hS, hm, h2, q⟩ := h
    refine ⟨_, (pss_cons (ps_asg (pv 0) (pg_tup (by rfl) (pgs_cons (pg_name (i := 2) scfits_rule.nd rfl (.inl rfl)) (pgs_cons (pg_name (i := 3) scfits_rule.nd rfl (.inl rfl)) pgs_nil))))
        (pss_one (ps_ret (pe_or (pe_cmpR op_le (pe_callB call_abs (by rfl) (nb "abs" rfl) (by decide +kernel) (pa_cons (pv 1) pa_nil)) (pv 2) (nomark _)) (pe_one (pe_and (pe_cmpR op_ne (pv 3) pe_int (nomark _)) (pe_one (pe_cmpR op_eq (pe_op op_mod (pv 1) (pv 3)) pe_int (nomark _))))))))), ?_⟩
    have hT := hS.pair hm
    refine ⟨_, rfl, a, _, rfl, hT, rfl, _, _, rfl, _, _, rfl, rfl, ?_⟩
    refine ⟨_, rfl, _, rfl, _, rfl, _, _, rfl, rfl, _, rfl, ?_⟩
    have e0 : fitR r n = (decide ((if n < 0 then -n else n) ≤ r.1) || (!decide (r.2 = 0) && decide (n % r.2 = 0))) := rfl
    refine ite2 (fun e => ?_) (fun e => ?_)
    · have g := q H hS
      rw [e0, e] at g
      exact g
    · have e1 : decide ((if n < 0 then -n else n) ≤ r.1) = false := by simpa using e
      rw [e1, Bool.false_or] at e0
      refine ⟨_, rfl, rfl, _, rfl, ite2 (fun e2 => ?_) (fun e2 => ?_)⟩
      · have hz : r.2 ≠ 0 := by
          intro z
          rw [z] at e2
          exact absurd e2 (by decide)
        have g := q H hS
        rw [e0, decide_eq_false hz, Bool.not_false, Bool.true_and] at g
        refine ⟨_, rfl, _, rfl, _, _, rfl, rfl, by omega, rfl, ?_⟩
        have e3 : decide (V.int (n % r.2) = V.int 0) = decide (n % r.2 = 0) := by
          rw [dec_int]
          exact Bool.beq_eq_decide_eq _ _
        rw [← e3] at g
        exact g
      · have hz : r.2 = 0 := by
          apply Decidable.byContradiction
          intro z
          apply e2
          have : decide (V.int r.2 = V.int 0) = false := decide_eq_false fun y => z (V.int.inj y)
          rw [this]
          rfl
        have g := q H hS
        rw [e0, hz] at g
        exact g

theorem first_none (n : Int) : ∀ rs : List Rule, (∀ r ∈ rs, fitR r n = true) → firstBad rs n = none
  | [], _ => rfl
  | r :: rs, h => by
    show (if fitR r n = true then (firstBad rs n).map (· + 1) else some 0) = none
    rw [if_pos (h r (List.mem_cons_self ..)), first_none n rs fun x hx => h x (List.mem_cons_of_mem _ hx)]
    rfl
theorem first_at (n : Int) : ∀ (rs : List Rule) (i : Nat) (hi : i < rs.length), (∀ r ∈ rs.take i, fitR r n = true) → fitR rs[i] n = false → firstBad rs n = some i
  | [], i, hi, _, _ => absurd hi (Nat.not_lt_zero _)
  | r :: rs, 0, hi, h, hb => by
    show (if fitR r n = true then (firstBad rs n).map (· + 1) else some 0) = some 0
    have : fitR r n = false := hb
    rw [this]
    rfl
  | r :: rs, i + 1, hi, h, hb => by
    show (if fitR r n = true then (firstBad rs n).map (· + 1) else some 0) = some (i + 1)
    rw [if_pos (h r (by simp)), first_at n rs i (by simpa using hi) (fun x hx => h x (by rw [List.take_succ_cons]; exact List.mem_cons_of_mem _ hx)) hb]
    rfl
theorem okbroken {f : Addr} {fd : FuncData} (F : Fun K "broken" "broken" sbroken f fd) (nb : NB mg bnames) (Ffits_rule : Fd P w K mg base "fits_rule" 1 ["rule", "number"] (spfits_rule K))    : FnOk P w K mg base CX0 2 f fd ["scale", "number"] (spbroken K) := by
  refine F.ok scbroken (fun vs H Q E h => ?_) (fun cdv A outer s H vs Q E hr h => ?_)
  · obtain ⟨dk, Γ, Δ, a, rs, n, rfl, _⟩ := h
    rfl
  · obtain ⟨dk, Γ, Δ, a, rs, n, rfl, hS, hm, h2, q⟩ := h
    refine ⟨_, (pss_cons (ps_for PassesOwn.never rfl (pi_enumT (by rfl) (nb "enumerate" rfl) (pa_cons (pv 0) pa_nil)) (pg_tup (by rfl) (pgs_cons (pg_name (i := 2) scbroken.nd rfl (.inl rfl)) (pgs_cons (pg_name (i := 3) scbroken.nd rfl (.inl rfl)) pgs_nil)))
        (pss_one (ps_if (pt_not (pt_val (pe_fd Ffits_rule (hr.mono (by decide)) (by rfl) (pa_cons (pv 3) (pa_cons (pv 1) pa_nil))))) (pss_one (ps_ret (pv 2))) pss_nil)))
        (pss_one (ps_ret pe_non))), ?_⟩
    obtain ⟨vs, hT, hlen⟩ := hS.lenT hm
    refine ⟨_, rfl, a, vs, rfl, hT, for_it (n := rs.length) walkET (fun i σ H => ∃ y2 y3, σ = [some (.ref a), some (.int n), y2, y3] ∧ St K H dk Γ Δ ∧ ∀ r ∈ rs.take i, fitR r n = true)
      ⟨_, _, rfl, hS, fun r hr => by simp at hr⟩ (fun i σ H _ hP => ?_) (fun i x σ H H' hi hP hy => ?_) (fun σ H hP => ?_)⟩
    · obtain ⟨_, _, _, hS, _⟩ := hP
      obtain ⟨xs, h1, h3⟩ := hS.lenT hm
      exact ⟨xs, h1, by rw [h3, List.length_map]⟩
    · obtain ⟨y2, y3, rfl, hS, hall⟩ := hP
      obtain ⟨T, x, rfl, hT, rfl, f⟩ := hy
      obtain ⟨d, e1, hS1⟩ := hS.turnT hm f
      rw [List.getElem?_map, List.getElem?_eq_getElem hi] at e1
      cases Option.some.inj e1
      obtain ⟨ax, rfl⟩ := hS1.ref_of (List.mem_cons_self ..)
      have hS2 := hS1.enumd (i := i) hT
      refine ⟨T, _, rfl, SqT.of upd_same, rfl, _, _, rfl, _, _, rfl, rfl, ?_⟩
      refine ⟨_, rfl, _, rfl, dk, Γ, _, ax, rs[i], n, rfl, hS2, List.mem_cons_self .., h2 _ (List.getElem_mem hi), fun H' hS3 => ⟨_, rfl, ?_⟩⟩
      have hS4 := hS3.weaken (Δ' := Δ) fun _ => List.mem_cons_of_mem _
      cases hb : fitR rs[i] n with
      | true =>
        refine iteF ⟨_, _, rfl, hS4, fun r hr => ?_⟩
        rw [List.take_add_one, List.getElem?_eq_getElem hi] at hr
        rcases List.mem_append.mp hr with hr | hr
        · exact hall r hr
        · rw [List.mem_singleton.mp hr]
          exact hb
      | false =>
        refine iteT ⟨_, rfl, ?_⟩
        have g := q H' hS4
        rw [first_at n rs i hi hall hb] at g
        exact g
    · obtain ⟨y2, y3, rfl, hS, hall⟩ := hP
      have g := q H hS
      rw [first_none n rs (fun r hr => hall r (by rw [List.take_length]; exact hr))] at g
      exact g

theorem fits_first (n : Int) : ∀ rs : List Rule, fitsAll rs n = (firstBad rs n).isNone
  | [] => rfl
  | r :: rs => by
    have ih := fits_first n rs
    show (fitR r n && fitsAll rs n) = (if fitR r n = true then (firstBad rs n).map (· + 1) else some 0).isNone
    cases fitR r n with
    | true =>
      rw [if_pos rfl, Bool.true_and, ih]
      cases firstBad rs n <;> rfl
    | false => rfl
theorem okfits {f : Addr} {fd : FuncData} (F : Fun K "fits" "fits" sfits f fd) (nb : NB mg bnames) (Fbroken : Fd P w K mg base "broken" 2 ["scale", "number"] (spbroken K))    : FnOk P w K mg base CX0 3 f fd ["scale", "number"] (spfits K) := by
  refine F.ok scfits (fun vs H Q E h => ?_) (fun cdv A outer s H vs Q E hr h => ?_)
  · obtain ⟨dk, Γ, Δ, a, rs, n, rfl, _⟩ := h
    rfl
  · obtain ⟨dk, Γ, Δ, a, rs, n, rfl, hS, hm, h2, q⟩ := h
    refine ⟨_, (pss_one (ps_ret (pe_cmpR op_isN (pe_fd Fbroken (hr.mono (by decide)) (by rfl) (pa_cons (pv 0) (pa_cons (pv 1) pa_nil))) pe_non (nomark _)))), ?_⟩
    refine ⟨_, rfl, _, rfl, dk, Γ, Δ, a, rs, n, rfl, hS, hm, h2, fun H' hS' => ⟨rfl, ?_⟩⟩
    have g := q H' hS'
    rw [fits_first] at g
    have e : decide (placeV (firstBad rs n) = V.non) = (firstBad rs n).isNone := by
      cases firstBad rs n <;> rfl
    rw [e]
    exact g

theorem okpower {f : Addr} {fd : FuncData} (F : Fun K "power" "power" spower f fd) (nb : NB mg bnames)     : FnOk P w K mg base CX0 1 f fd ["base", "exponent"] (sppower K) := by
  refine F.ok scpower (fun vs H Q E h => ?_) (fun cdv A outer s H vs Q E hr h => ?_)
  · obtain ⟨b, t, rfl, _⟩ := h
    rfl
  · obtain ⟨b, t, rfl, h0, h1, ht, q⟩ := h
    refine ⟨_, (pss_cons (ps_set (i := 2) scpower.nd rfl (.inl rfl) pe_int)
        (pss_cons (ps_for PassesOwn.never rfl (pi_range1 (by rfl) (nb "range" rfl) (pa_cons (pv 1) pa_nil)) (pg_name (i := 3) scpower.nd rfl (.inl rfl))
        (pss_one (ps_set (i := 2) scpower.nd rfl (.inl rfl) (pe_op op_mulX (pv 2) (pv 0)))))
        (pss_one (ps_ret (pv 2))))), ?_⟩
    refine ⟨_, rfl, t, rfl, by omega, by omega, for_range (lo := 0) (n := ((t : Nat) : Int).toNat) (fun i σ H' => ∃ y, σ = [some (.int b), some (.int (t : Int)), some (.int (b ^ i)), y] ∧ H' = H ∧ i ≤ t)
      ⟨_, by rw [Int.pow_zero]; rfl, rfl, Nat.zero_le _⟩ (fun i σ H' hi hP => ?_) (fun σ H' hP => ?_)⟩
    · obtain ⟨y, rfl, rfl, hit⟩ := hP
      have hi' : i < t := by omega
      have hb : (b ^ i).natAbs < 2 ^ 10001 := by
        rw [Int.natAbs_pow]
        exact Nat.lt_of_le_of_lt (Nat.pow_le_pow_left (show b.natAbs ≤ 2 ^ 10 by omega) i) (by
          rw [← Nat.pow_mul]
          exact Nat.pow_lt_pow_right (by decide) (by omega))
      have e1 : b ^ i * b = b ^ (i + 1) := (Int.pow_succ b i).symm
      exact ⟨_, rfl, _, rfl, _, _, rfl, rfl, mulx_ok (a := 10001) (b := 10) hb (by clear hb; omega) (by decide), some (.int (0 + (i : Int))), by rw [← e1]; rfl, rfl, hi'⟩
    · obtain ⟨y, rfl, rfl, hit⟩ := hP
      exact ⟨_, rfl, q⟩

theorem okfloat_scale {f : Addr} {fd : FuncData} (F : Fun K "float_scale" "float_scale" sfloat_scale f fd) (nb : NB mg bnames) (Fpower : Fd P w K mg base "power" 1 ["base", "exponent"] (sppower K)) (Fscale_error : Fd P w K mg base "scale_error" 5 ["value"] (spscale_error K))   {CU CE : Addr} (U : UnfitC K mg CU CE) : FnOk P w K mg base (L2.CX P w) 6 f fd ["base", "figures", "levels"] (spfloat_scale K mg) := by
  refine F.okX scfloat_scale (fun vs H Q E h => ?_) (fun cdv A outer s H vs Q E hr h => ?_)
  · obtain ⟨dk, Γ, Δ, b, f, l, rfl, _⟩ := h
    rfl
  · obtain ⟨dk, Γ, Δ, b, f, l, rfl, ⟨b1, b2, f1, f2, l1⟩, hS, qy, qn⟩ := h
    refine ⟨_, (pss_cons (ps_set (i := 3) scfloat_scale.nd rfl (.inl rfl) (pe_fd Fpower (hr.mono (by decide)) (by rfl) (pa_cons (pv 0) (pa_cons (pv 1) pa_nil))))
        (pss_cons (ps_set (i := 4) scfloat_scale.nd rfl (.inl rfl) (pv 0))
        (pss_cons (ps_set (i := 5) scfloat_scale.nd rfl (.inl rfl) (pe_lst pa_nil))
        (pss_cons (ps_for (passes_of rfl) rfl (pi_range1 (by rfl) (nb "range" rfl) (pa_cons (pv 2) pa_nil)) (pg_name (i := 6) scfloat_scale.nd rfl (.inl rfl))
        (pss_cons (ps_expr (pe_bm PySem.F.plainAttrs_list PySem.F.slot_list_append PySem.F.type_list_append mt_append (pv 5) (pa_cons (pe_tup (pa_cons (pe_op op_sub (pv 3) pe_int) (pa_cons (pv 4) pa_nil))) pa_nil)))
        (pss_cons (ps_set (i := 3) scfloat_scale.nd rfl (.inl rfl) (pe_op op_mulX (pv 3) (pv 0)))
        (pss_one (ps_set (i := 4) scfloat_scale.nd rfl (.inl rfl) (pe_op op_mulX (pv 4) (pv 0)))))))
        (pss_cons (ps_expr (pe_bm PySem.F.plainAttrs_list PySem.F.slot_list_append PySem.F.type_list_append mt_append (pv 5) (pa_cons (pe_tup (pa_cons (pe_op op_sub (pv 3) pe_int) (pa_cons pe_int pa_nil))) pa_nil)))
        (pss_cons (ps_set (i := 7) scfloat_scale.nd rfl (.inl rfl) (pe_callTy call_tuple_of (by rfl) (nb "tuple" rfl) (by decide +kernel) (pa_cons (pv 5) pa_nil)))
        (pss_cons (ps_if (pt_cmpR op_notN (pe_fd Fscale_error (hr.mono (by decide)) (by rfl) (pa_cons (pv 7) pa_nil)) pe_non (nomark _)) (pss_one (ps_raise rfl (takes_of rfl rfl rfl rfl) (pmk_own0 PySem.F.excBase_ValueError U.x U.g U.k (raises_own U.b U.t) (by exact rfl)))) pss_nil)
        (pss_one (ps_ret (pv 7)))))))))), ?_⟩
    obtain ⟨fn, rfl⟩ := Int.eq_ofNat_of_zero_le (show 0 ≤ f by omega)
    refine ⟨_, rfl, _, rfl, b, fn, rfl, by omega, by omega, by omega, ?_⟩
    refine ⟨_, rfl, Nat.zero_le _, fun p hp => ?_⟩
    have hS1 := hS.make (ds := []) hp .nil
    refine ⟨_, rfl, l, rfl, by omega, by omega, for_range (lo := 0) (n := ((l : Nat) : Int).toNat) (fun i σ H => ∃ y6, σ = [some (.int b), some (.int (fn : Int)), some (.int (l : Int)), some (.int (b ^ (fn + i))), some (.int (b ^ (i + 1))), some (.ref p), y6, none] ∧
        St K H dk ((p, (fsHead b fn i).map ruleD) :: Γ) Δ ∧ i ≤ l)
      ⟨none, ?_, hS1, Nat.zero_le _⟩ (fun i σ H hi hP => ?_) (fun σ H hP => ?_)⟩
    · rw [Int.pow_succ, Int.pow_zero, Int.one_mul]
      rfl
    · obtain ⟨y6, rfl, hS, hil⟩ := hP
      have hil2 : i < l := by omega
      have g1 := pow_lt10 (b := b) (k := fn + i) (by omega) b2
      have g2 := pow_lt10 (b := b) (k := i + 1) (by omega) b2
      obtain ⟨vf, hf1, hf2, _, _⟩ := hS.look
      refine ⟨_, rfl, .inl ⟨rfl, _, SqL.of hf1⟩, _, rfl, _, _, rfl, rfl, _, rfl, (by show 2 ≤ sizeLine; decide), fun t ht => ?_⟩
      have hS7 := hS.tup (vs := [.int (b ^ (fn + i) - 1), .int (b ^ (i + 1))]) (ds := [.int (b ^ (fn + i) - 1), .int (b ^ (i + 1))]) ht (.cons (.int _) (.cons (.int _) .nil))
      obtain ⟨vf2, k1, k2, k3⟩ := hS7.push (.of (List.mem_cons_self ..))
      have hl : (fsHead b fn i).length = i := by unfold fsHead; rw [List.length_map, List.length_range]
      refine ⟨p, vf2, _, rfl, rfl, k1, small1000 (by rw [k2, List.length_map, hl]; omega), ?_⟩
      refine ⟨_, rfl, _, rfl, _, _, rfl, rfl, mulx_ok (b := 10) g1 (by omega) (by omega), ?_⟩
      refine ⟨_, rfl, _, rfl, _, _, rfl, rfl, mulx_ok (b := 10) g2 (by omega) (by omega), ?_⟩
      refine ⟨some (.int (0 + (i : Int))), ?_, ?_, hil2⟩
      · rw [← Nat.add_assoc, Int.pow_succ b (fn + i), Int.pow_succ b (i + 1)]
        rfl
      · rw [head_succ, List.map_append]
        exact k3.weaken fun _ h => List.mem_cons_of_mem _ h
    · obtain ⟨y6, rfl, hS, hil⟩ := hP
      rw [Int.toNat_natCast] at hS hil ⊢
      obtain ⟨vf, hf1, hf2, _, _⟩ := hS.look
      refine ⟨_, rfl, .inl ⟨rfl, _, SqL.of hf1⟩, _, rfl, _, _, rfl, rfl, (by show 2 ≤ sizeLine; decide), fun t ht => ?_⟩
      have hS7 := hS.tup (vs := [.int (b ^ (fn + l) - 1), .int 0]) (ds := [.int (b ^ (fn + l) - 1), .int 0]) ht (.cons (.int _) (.cons (.int _) .nil))
      obtain ⟨vf2, k1, k2, k3⟩ := hS7.push (.of (List.mem_cons_self ..))
      have hl : (fsHead b fn l).length = l := by unfold fsHead; rw [List.length_map, List.length_range]
      refine ⟨p, vf2, _, rfl, rfl, k1, small1000 (by rw [k2, List.length_map, hl]; omega), ?_⟩
      have e1 : (fsHead b fn l).map ruleD ++ [PyData.tuple [.int (b ^ (fn + l) - 1), .int 0]] = (fsR b (fn : Int) l).map ruleD := by
        rw [fs_eq, List.map_append]
        rfl
      have hS8 := k3.weaken (Δ' := Δ) fun _ h => List.mem_cons_of_mem _ h
      rw [e1] at hS8
      have hS9 := hS8.freeze
      obtain ⟨vs, hL, hlen2, Δ2, rfl, hS10, hv2⟩ := hS9.lstAt (List.mem_cons_self ..)
      refine ⟨_, rfl, p, vs, rfl, .inl ⟨hL, fun u hu => ?_⟩⟩
      have hS12 := (hS10.tup hu hv2).weaken (Δ' := (V.ref u, scaleD (fsR b (fn : Int) l)) :: Δ) fun y hy => by
        rcases List.mem_cons.mp hy with rfl | hy
        · exact List.mem_cons_self ..
        · exact List.mem_cons_of_mem _ (List.mem_append_right _ (List.mem_cons_of_mem _ hy))
      have hlen40 : (fsR b (fn : Int) l).length ≤ 40 := by
        rw [fs_eq, List.length_append, hl, List.length_singleton]
        omega
      refine ⟨_, rfl, dk, Γ, _, u, fsR b (fn : Int) l, rfl, hS12, List.mem_cons_self .., hlen40, fun H2 v hS13 => ?_⟩
      obtain ⟨i, ei⟩ := serr_fs (b := b) (f := fn) b1 (show 1 ≤ fn by omega) l
      rw [ei] at hS13
      cases hh : isHeld b (fn : Int) l with
      | true =>
        rw [hh] at hS13
        obtain rfl := (Dv.of (List.mem_cons_self ..)).isNon hS13
        refine ⟨rfl, _, rfl, iteF ?_⟩
        exact ⟨_, rfl, qy hh _ _ (hS13.weaken fun _ h => List.mem_cons_of_mem _ h)⟩
      | false =>
        rw [hh] at hS13
        obtain ⟨tt, rfl⟩ := hS13.ref_of (List.mem_cons_self ..)
        refine ⟨rfl, _, rfl, iteT ?_⟩
        exact qn hh _ _ U.g (hS13.weaken fun _ h => List.mem_cons_of_mem _ (List.mem_cons_of_mem _ h))

theorem cut63 {ns : List Int} (h : ns.length ≤ 63) : cutV (ns.map V.int) none (some 63) = ns.map V.int := by
  unfold cutV
  rw [show HT.sIx (ns.map V.int).length (ns.map V.int).length (some 63) = min 63 (ns.map V.int).length from HT.sIx_nat _ _ 63, HT.sIx_none]
  rw [List.drop_zero, List.length_map]
  apply List.take_of_length_le
  rw [List.length_map]
  omega
theorem wS0 {K : PySem.W.Frag} {H : Hp} {a c d : Addr} {xs : List V} {o u : HO} (h : SqL K H a xs) (hc : H c = none) (hd : H d = some (.dK [])) : SqL K (upd (upd H c o) d u) a xs := by
  have ne : ∀ {w : HO}, H a = some w → (∀ k, w ≠ .dK k) → a ≠ c ∧ a ≠ d := fun e n => ⟨ne_of_none e hc, ne_of e hd (n [])⟩
  rcases h with (h | ⟨o, h⟩) | h
  · obtain ⟨n1, n2⟩ := ne h (by intro k z; cases z)
    exact .inl (.inl ((upd_ne n2).trans ((upd_ne n1).trans h)))
  · obtain ⟨n1, n2⟩ := ne h (by intro k z; cases z)
    exact .inl (.inr ⟨o, (upd_ne n2).trans ((upd_ne n1).trans h)⟩)
  · exact .inr h
theorem ok_law_deck {f : Addr} {fd : FuncData} (F : Fun K "_law_deck" "_law_deck" s_law_deck f fd) (nb : NB mg bnames)     : FnOk P w K mg base CX0 1 f fd ["script"] (sp_law_deck K) := by
  refine F.ok sc_law_deck (fun vs H Q E h => ?_) (fun cdv A outer s H vs Q E hr h => ?_)
  · obtain ⟨a, ns, rfl, _⟩ := h
    rfl
  · obtain ⟨a, ns, rfl, hS, hlen, q⟩ := h
    refine ⟨_, (pss_cons (ps_set (i := 1) sc_law_deck.nd rfl (.inl rfl) (pe_disp (pps_cons pe_str (pe_lst pa_nil) (pps_cons pe_str (pe_op op_add pe_int (pe_callB call_len_seq (by rfl) (nb "len" rfl) PySem.boot_len (pa_cons (pe_slice sl_list (pv 0) po_none (po_some pe_int)) pa_nil))) pps_nil)) (by rfl) (by rfl) (fun z => by cases z) (by decide)))
        (pss_cons (ps_for PassesOwn.never rfl (pi_list (pe_slice sl_list (pv 0) po_none (po_some pe_int))) (pg_name (i := 2) sc_law_deck.nd rfl (.inl rfl))
        (pss_cons (ps_set (i := 3) sc_law_deck.nd rfl (.inl rfl) (pe_callB call_abs (by rfl) (nb "abs" rfl) (by decide +kernel) (pa_cons (pv 2) pa_nil)))
        (Evl.pss_cut (ps_if (pt_cmpR op_ge (pv 3) (pe_op op_powW pe_int pe_int) (nomark _)) (pss_one (ps_dput (hu_of hr) (pv 1) pe_str (pe_op op_cat (pe_lst (pa_cons (pv 3) pa_nil)) (pe_dget (hu_of hr) (pv 1) pe_str (fun _ _ => rfl))) rfl)) pss_nil)
        (pss_cons (ps_set (i := 4) sc_law_deck.nd rfl (.inl rfl) (pe_op op_add (pe_op op_mul (pe_op op_add (pe_op op_add (pe_op op_add (pe_dget (hu_of hr) (pv 1) pe_str (fun _ _ => rfl)) (pe_op op_mul pe_int (pv 3))) (pe_callTy call_int1 (by rfl) (nb "int" rfl) (by decide +kernel) (pa_cons (pe_cmpR op_lt (pv 2) pe_int (nomark _)) pa_nil))) pe_int) pe_int) pe_int))
        (pss_one (ps_dput (hu_of hr) (pv 1) pe_str (pe_op op_mod (pe_callTy call_int1 (by rfl) (nb "int" rfl) (by decide +kernel) (pa_cons (pv 4) pa_nil)) pe_int) rfl))))))
        (pss_one (ps_ret (pv 1))))), ?_⟩
    -- deck = {'deep': [], 'state': ..}
    refine fun d hd => ⟨Nat.zero_le _, fun l hl => ?_⟩
    have nld : l ≠ d := (ne_of_none upd_same hl).symm
    have s0 : Same H (upd H d (.dK [])) := fun b o e => by rw [upd_ne (ne_of_none e hd)]; exact e
    have s1 : Same (upd H d (.dK [])) (upd (upd H d (.dK [])) l (.lst [])) := fun b o e => by rw [upd_ne (ne_of_none e hl)]; exact e
    have w1 : upd (upd H d (.dK [])) l (.lst []) d = some (.dK []) := (upd_ne nld.symm).trans upd_same
    have w2 : upd (upd H d (.dK [])) l (.lst []) l = some (.lst []) := upd_same
    have wS : SqL K (upd (upd H d (.dK [])) l (.lst [])) a (ns.map V.int) := (s0.trans s1).seq hS
    revert w1 w2 wS
    generalize upd (upd H d (.dK [])) l (.lst []) = H1
    intro w1 w2 wS
    refine ⟨_, rfl, _, rfl, a, _, rfl, wS, fun c hc => ?_⟩
    rw [cut63 hlen]
    have s2 : Same H1 (upd H1 c (.lst (ns.map V.int))) := fun b o e => by rw [upd_ne (ne_of_none e hc)]; exact e
    refine ⟨c, _, rfl, .inl (SqL.of upd_same), _, _, rfl, rfl, s2 _ _ w1, [(.inr "deep", .ref l), (.inr "state", .int _)], rfl, (by show 2 ≤ 15; decide), ?_⟩
    have hlen' : (ns.map V.int).length ≤ 63 := by rw [List.length_map]; exact hlen
    have h20 : 0 ≤ (1278805 : Int) + ((ns.map V.int).length : Nat) := by omega
    have h21 : (1278805 : Int) + ((ns.map V.int).length : Nat) < 2305843009213693951 := by omega
    revert h20 h21
    show _ → _ → _
    intro h20 h21
    have ncd : d ≠ c := ne_of_none w1 hc
    have ncl : l ≠ c := ne_of_none w2 hc
    refine ⟨_, rfl, _, rfl, a, ns.map V.int, rfl, wS0 wS hc w1, fun c2 hc2 => ?_⟩
    rw [cut63 hlen]
    refine ⟨c2, rfl, ⟨_, SqL.of upd_same⟩, ?_⟩
    have ncd2 : d ≠ c2 := ne_of_none upd_same hc2
    have ncl2 : l ≠ c2 := ne_of_none ((upd_ne nld).trans ((upd_ne ncl).trans w2)) hc2
    have st : St K (upd (upd (upd H1 c (.lst (ns.map V.int))) d (.dK (mergeK [] [(.inr "deep", .ref l), (.inr "state", .int (1278805 + ((ns.map V.int).length : Nat)))]))) c2 (.lst (ns.map V.int))) (some (d, l)) [] [(.ref c2, .list (ns.map PyData.int))] := by
      refine ⟨fun b => if b = c2 then some (.lst (ns.map V.int)) else none, fun b o e => ?_, fun p hp => ?_, fun g hg => (nomatch hg), List.Pairwise.nil, fun d' l' e => ?_⟩
      · by_cases hb : b = c2
        · subst hb
          rw [if_pos rfl] at e
          rw [← e]
          exact upd_same
        · rw [if_neg hb] at e
          cases e
      · rw [List.mem_singleton.mp hp]
        exact .lst (SqL.of (if_pos rfl)) (dps_of_ints ns)
      · cases e
        refine ⟨if_neg ncd2, if_neg ncl2, fun g hg => (nomatch hg), _, [], (upd_ne ncd2).trans ?_, (upd_ne ncl2).trans ((upd_ne nld).trans ((upd_ne ncl).trans w2)), fun x hx => (nomatch hx), by decide, h20, h21⟩
        exact upd_same
    refine for_it (n := ns.length) walkL (fun i σ H => ∃ l s xs y2 y3 y4, σ = [some (.ref a), some (.ref d), y2, y3, y4] ∧ St K H (some (d, l)) [] [(.ref c2, .list (ns.map PyData.int))] ∧ H d = some (.dK [(.inr "deep", .ref l), (.inr "state", .int s)]) ∧ H l = some (.lst (xs.map V.int)) ∧
        (∀ x ∈ xs, 0 ≤ x) ∧ xs.length ≤ i ∧ 0 ≤ s ∧ s < 2305843009213693951)
      ⟨l, _, [], _, _, _, rfl, st, (upd_ne ncd2).trans upd_same, (upd_ne ncl2).trans ((upd_ne nld).trans ((upd_ne ncl).trans w2)), fun x hx => (nomatch hx), Nat.zero_le _, h20, h21⟩ (fun i σ H _ hP => ?_) (fun i x σ H H' hi hP hy => ?_) (fun σ H hP => ?_)
    · obtain ⟨_, _, _, _, _, _, _, hS, _⟩ := hP
      obtain ⟨xs, h1, h3⟩ := hS.lenL (List.mem_cons_self ..)
      exact ⟨xs, h1, by rw [h3, List.length_map]⟩
    · obtain ⟨l, s, xs, y2, y3, y4, rfl, hS, h1, h2, h3, h4, h5, h6⟩ := hP
      obtain ⟨rfl, f⟩ := hy
      obtain ⟨dd, e1, hS1⟩ := hS.turnL (List.mem_cons_self ..) f
      rw [List.getElem?_map, List.getElem?_eq_getElem hi] at e1
      cases Option.some.inj e1
      have ex := hS1.int_of (List.mem_cons_self ..)
      subst ex
      generalize ns[i] = z at hS1 e1
      have hw : 0 ≤ (if z < 0 then -z else z) := by
        by_cases hz : z < 0
        · rw [if_pos hz]; omega
        · rw [if_neg hz]; omega
      -- whole = abs(cell)
      refine ⟨_, rfl, _, rfl, ?_⟩
      generalize (if z < 0 then -z else z) = wh at hw
      -- if whole >= 10 ** 18
      refine ⟨fun σ H => ∃ (l : Addr) (xs : List Int), σ = [some (.ref a), some (.ref d), some (.int z), some (.int wh), y4] ∧ St K H (some (d, l)) [] [(.ref c2, .list (ns.map PyData.int))] ∧ H d = some (.dK [(.inr "deep", .ref l), (.inr "state", .int s)]) ∧ H l = some (.lst (xs.map V.int)) ∧
        (∀ x ∈ xs, 0 ≤ x) ∧ xs.length ≤ i + 1, ?_, fun σ H hM => ?_⟩
      · refine ⟨_, rfl, _, _, rfl, rfl, ⟨by decide, by decide⟩, _, _, rfl, rfl, _, rfl, ite2 (fun e => ?_) (fun e => ?_)⟩
        · refine ⟨_, rfl, (by show 1 ≤ sizeLine; decide), fun t ht => ⟨_, rfl, d, .ref l, rfl, deck_deep ((upd_ne (ne_of_none h1 ht)).trans h1), t, l, _, _, rfl, rfl, upd_same, (upd_ne (ne_of_none h2 ht)).trans h2, ?_, fun m hm => ?_⟩⟩
          · rw [List.length_map]
            exact Nat.le_of_lt (small1000 (by show 1 + xs.length ≤ 1000; omega))
          · have hS2 := ((hS1.weaken (Δ' := [(.ref c2, .list (ns.map PyData.int))]) fun _ => List.mem_cons_of_mem _).lst (vs := [.int wh]) (ds := [.int wh]) ht (.cons (.int _) .nil)).weaken (Δ' := [(.ref c2, .list (ns.map PyData.int))]) fun _ => List.mem_cons_of_mem _
            have k1 := (upd_ne (o := HO.lst [V.int wh]) (ne_of_none h1 ht)).trans h1
            have ndm : d ≠ m := ne_of_none k1 hm
            have k2 := (upd_ne (H := upd _ t (.lst [.int wh])) (o := HO.lst ([V.int wh] ++ xs.map V.int)) ndm).trans k1
            have e1 : [V.int wh] ++ xs.map V.int = (wh :: xs).map V.int := rfl
            refine ⟨_, rfl, d, _, rfl, put_deep k2, m, wh :: xs, rfl, hS2.redeck hm (fun b hb hb2 => (upd_ne hb).trans (upd_ne hb2)) ⟨s, wh :: xs, upd_same, (upd_ne ndm.symm).trans upd_same, ?_, ?_, h5, h6⟩, upd_same, (upd_ne ndm.symm).trans upd_same, ?_, ?_⟩
            · intro x hx
              rcases List.mem_cons.mp hx with rfl | hx
              · exact hw
              · exact h3 x hx
            · rw [List.length_cons]
              omega
            · intro x hx
              rcases List.mem_cons.mp hx with rfl | hx
              · exact hw
              · exact h3 x hx
            · rw [List.length_cons]
              omega
        · exact ⟨l, xs, rfl, hS1.weaken fun _ => List.mem_cons_of_mem _, h1, h2, h3, by omega⟩
      · obtain ⟨l, xs, rfl, hS2, k1, k2, k3, k4⟩ := hM
        have ndl : d ≠ l := dk_ne k1 k2
        refine ⟨_, rfl, d, _, rfl, deck_state k1, _, rfl, _, _, rfl, rfl, .inl (by decide), _, _, rfl, rfl, _, rfl, _, _, rfl, rfl, .inr ⟨_, rfl, _, _, rfl, rfl, _, _, rfl, rfl, _, _, rfl, rfl, .inr (by decide), _, _, rfl, rfl, ?_⟩⟩
        refine ⟨_, rfl, .inl ⟨_, rfl, _, _, rfl, rfl, (by show (0 : Int) < 2305843009213693951; decide), _, rfl, d, _, rfl, put_state k1, ?_⟩⟩
        refine ⟨l, _, xs, _, _, _, rfl, hS2.deal (fun b hb _ => upd_ne hb) ⟨_, xs, upd_same, (upd_ne ndl.symm).trans k2, k3, by omega, Int.emod_nonneg _ (by decide), Int.emod_lt_of_pos _ (by decide)⟩, upd_same, (upd_ne ndl.symm).trans k2, k3, k4, Int.emod_nonneg _ (by decide), Int.emod_lt_of_pos _ (by decide)⟩
    · obtain ⟨l, s, xs, y2, y3, y4, rfl, hS, h1, h2, h3, h4, h5, h6⟩ := hP
      exact ⟨_, rfl, q _ d l (hS.weaken fun _ h => nomatch h)⟩

theorem ok_law_draw {f : Addr} {fd : FuncData} (F : Fun K "_law_draw" "_law_draw" s_law_draw f fd) (nb : NB mg bnames)     : FnOk P w K mg base CX0 1 f fd ["deck", "many"] (sp_law_draw K) := by
  refine F.ok sc_law_draw (fun vs H Q E h => ?_) (fun cdv A outer s H vs Q E hr h => ?_)
  · obtain ⟨d, l, m, Γ, Δ, rfl, _⟩ := h
    rfl
  · obtain ⟨d, l, m, Γ, Δ, rfl, hS, hm, q⟩ := h
    refine ⟨_, (pss_cons (ps_if (pt_cmpR op_lt (pv 1) pe_int (nomark _)) (pss_one (ps_ret pe_int)) pss_nil)
        (pss_cons (ps_if (pt_cmpR (op_neD hr.units) (pe_dget (hu_of hr) (pv 0) pe_str (fun _ _ => rfl)) (pe_lst pa_nil) (nomark _)) (pss_cons (ps_set (i := 2) sc_law_draw.nd rfl (.inl rfl) (pe_bm0 PySem.F.plainAttrs_list PySem.F.slot_list_pop PySem.F.type_list_pop mt_pop (pe_dget (hu_of hr) (pv 0) pe_str (fun _ _ => rfl))))
        (pss_cons (ps_if (pt_cmpR op_ge (pv 2) (pv 1) (nomark _)) (pss_one (ps_expr (pe_bm PySem.F.plainAttrs_list PySem.F.slot_list_append PySem.F.type_list_append mt_append (pe_dget (hu_of hr) (pv 0) pe_str (fun _ _ => rfl)) (pa_cons (pe_op op_fdivW (pv 2) (pv 1)) pa_nil)))) pss_nil)
        (pss_one (ps_ret (pe_op op_mod (pe_callTy call_int1 (by rfl) (nb "int" rfl) (by decide +kernel) (pa_cons (pv 2) pa_nil)) (pv 1)))))) pss_nil)
        (pss_cons (ps_set (i := 3) sc_law_draw.nd rfl (.inl rfl) (pe_op op_mod (pe_callTy call_int1 (by rfl) (nb "int" rfl) (by decide +kernel) (pa_cons (pe_op op_add (pe_op op_mul (pe_dget (hu_of hr) (pv 0) pe_str (fun _ _ => rfl)) pe_int) pe_int) pa_nil)) pe_int))
        (pss_cons (ps_dput (hu_of hr) (pv 0) pe_str (pv 3) rfl)
        (pss_cons (ps_set (i := 4) sc_law_draw.nd rfl (.inl rfl) (pe_op op_mod (pe_callTy call_int1 (by rfl) (nb "int" rfl) (by decide +kernel) (pa_cons (pe_op op_add (pe_op op_add (pe_op op_mulX (pv 3) (pv 3)) (pe_op op_mul pe_int (pv 3))) pe_int) pa_nil)) pe_int))
        (pss_one (ps_ret (pe_op op_mod (pe_callTy call_int1 (by rfl) (nb "int" rfl) (by decide +kernel) (pa_cons (pe_op op_fdiv (pv 4) pe_int) pa_nil)) (pv 1))))))))), ?_⟩
    refine ⟨_, rfl, _, _, rfl, rfl, _, rfl, ite2 (fun e => ?_) (fun e => ?_)⟩
    · exact q H 0 hS (Int.le_refl 0) (Or.inr rfl)
    · have hm2 : 2 ≤ m := by simpa using e
      have hpos : 0 < m := by omega
      have hdiv : ∀ z : Int, CDivW z m := fun z => wide_div hpos hm (by decide) (by decide)
      obtain ⟨s, xs, h1, h2, h3, h4, h5, h6⟩ := hS.deck
      refine ⟨_, rfl, d, .ref l, rfl, deck_deep h1, Nat.zero_le _, fun p hp => ?_⟩
      have hS1 := (hS.lst (ds := []) hp .nil).weaken fun x hx => List.mem_cons_of_mem _ hx
      have g1 := (upd_ne (H := H) (o := HO.lst []) (ne_of_none h1 hp)).trans h1
      have g2 := (upd_ne (H := H) (o := HO.lst []) (ne_of_none h2 hp)).trans h2
      have g3 : upd H p (.lst []) p = some (.lst []) := upd_same
      revert hS1 g1 g2 g3
      generalize upd H p (.lst []) = H1
      intro hS1 g1 g2 g3
      have ndl : d ≠ l := dk_ne g1 g2
      refine ne_nil_list (ds := xs.map PyData.int) (.lst (SqL.of g2) (dps_of_ints xs)) (.lst (SqL.of g3) .nil) (lay_ints xs) ⟨_, rfl, ite2 (fun e2 => ?_) (fun e2 => ?_)⟩
      · have hne : xs ≠ [] := by
          intro z
          subst z
          exact absurd e2 (by decide)
        obtain ⟨ys, z, rfl⟩ : ∃ ys z, xs = ys ++ [z] := ⟨_, _, (List.dropLast_concat_getLast hne).symm⟩
        have hz : 0 ≤ z := h3 z (by simp)
        have elast : ((ys ++ [z]).map V.int)[((ys ++ [z]).map V.int).length - 1]? = some (.int z) := by simp
        have edrop : ((ys ++ [z]).map V.int).dropLast = ys.map V.int := by simp
        refine ⟨_, rfl, d, .ref l, rfl, deck_deep g1, .inl ⟨rfl, _, SqL.of g2⟩, l, _, .int z, rfl, rfl, g2, elast, ?_⟩
        rw [edrop]
        have hl : ys.length ≤ 63 := by
          rw [List.length_append, List.length_singleton] at h4
          omega
        have k1 : upd H1 l (.lst (ys.map V.int)) d = _ := (upd_ne ndl).trans g1
        have k2 : upd H1 l (.lst (ys.map V.int)) l = some (.lst (ys.map V.int)) := upd_same
        have k3 : ∀ b, b ≠ d → b ≠ l → upd H1 l (.lst (ys.map V.int)) b = H1 b := fun b _ hb => upd_ne hb
        revert k1 k2 k3
        generalize upd H1 l (.lst (ys.map V.int)) = H2
        intro k1 k2 k3
        have hmod : 0 ≤ z % m ∧ z % m < m := ⟨Int.emod_nonneg z (by omega), Int.emod_lt_of_pos z hpos⟩
        refine ⟨_, rfl, _, rfl, _, _, rfl, rfl, _, rfl, ite2 (fun e3 => ?_) (fun e3 => ?_)⟩
        · refine ⟨_, rfl, d, .ref l, rfl, deck_deep k1, .inl ⟨rfl, _, SqL.of k2⟩, _, rfl, _, rfl, _, _, rfl, rfl, hdiv z, l, _, _, rfl, rfl, k2, ?_, ?_⟩
          · rw [List.length_map]
            exact small1000 (by omega)
          · have eapp : ys.map V.int ++ [V.int (z / m)] = (ys ++ [z / m]).map V.int := by simp
            rw [eapp]
            refine ⟨_, rfl, .inl ⟨_, rfl, _, rfl, _, _, rfl, rfl, hpos, q _ (z % m) (hS1.deal (fun b hb hb2 => (upd_ne hb2).trans (k3 b hb hb2)) ⟨s, ys ++ [z / m], (upd_ne ndl).trans k1, upd_same, ?_, ?_, h5, h6⟩) hmod.1 (Or.inl hmod.2)⟩⟩
            · intro x hx
              rcases List.mem_append.mp hx with hx | hx
              · exact h3 x (List.mem_append_left _ hx)
              · rw [List.mem_singleton.mp hx]
                exact Int.ediv_nonneg hz (by omega)
            · rw [List.length_append, List.length_singleton]
              omega
        · exact ⟨_, rfl, .inl ⟨_, rfl, _, rfl, _, _, rfl, rfl, hpos, q _ (z % m) (hS1.deal k3 ⟨s, ys, k1, k2, fun x hx => h3 x (List.mem_append_left _ hx), by omega, h5, h6⟩) hmod.1 (Or.inl hmod.2)⟩⟩
      · have o1 : 0 ≤ (s * 1181783497276652981 + 88172645463325) % 2305843009213693951 := Int.emod_nonneg _ (by decide)
        have o2 : (s * 1181783497276652981 + 88172645463325) % 2305843009213693951 < 2305843009213693951 := Int.emod_lt_of_pos _ (by decide)
        have hmul : CMulX ((s * 1181783497276652981 + 88172645463325) % 2305843009213693951) ((s * 1181783497276652981 + 88172645463325) % 2305843009213693951) := mulx_ok (a := 61) (b := 61) (by omega) (by omega) (by decide)
        refine ⟨_, rfl, d, _, rfl, deck_state g1, _, _, rfl, rfl, .inr (by decide), _, _, rfl, rfl, .inl ⟨_, rfl, _, _, rfl, rfl, (by show (0 : Int) < 2305843009213693951; decide), ?_⟩⟩
        refine ⟨_, rfl, _, rfl, d, _, rfl, put_state g1, ?_⟩
        refine ⟨_, rfl, _, rfl, _, _, rfl, rfl, hmul, _, rfl, _, _, rfl, rfl, .inl (by decide), _, _, rfl, rfl, _, _, rfl, rfl, .inl ⟨_, rfl, _, _, rfl, rfl, (by show (0 : Int) < 2305843009213693921; decide), ?_⟩⟩
        refine ⟨_, rfl, _, _, rfl, rfl, ⟨by decide, by decide⟩, .inl ⟨_, rfl, _, rfl, _, _, rfl, rfl, hpos, ?_⟩⟩
        exact q _ _ (hS1.deal (fun b hb _ => upd_ne hb) ⟨_, xs, upd_same, (upd_ne ndl.symm).trans g2, h3, h4, o1, o2⟩) (Int.emod_nonneg _ (by omega)) (Or.inl (Int.emod_lt_of_pos _ hpos))

theorem ok_law_pick {f : Addr} {fd : FuncData} (F : Fun K "_law_pick" "_law_pick" s_law_pick f fd) (nb : NB mg bnames) (F_law_draw : Fd P w K mg base "_law_draw" 1 ["deck", "many"] (sp_law_draw K))    : FnOk P w K mg base CX0 2 f fd ["deck", "items"] (sp_law_pick K) := by
  refine F.ok sc_law_pick (fun vs H Q E h => ?_) (fun cdv A outer s H vs Q E hr h => ?_)
  · obtain ⟨d, l, a, ds, Γ, Δ, rfl, _⟩ := h
    rfl
  · obtain ⟨d, l, a, ds, Γ, Δ, rfl, hS, hm, hne, hz, q⟩ := h
    refine ⟨_, (pss_one (ps_ret (pe_ix ix_list (pv 1) (pe_fd F_law_draw (hr.mono (by decide)) (by rfl) (pa_cons (pv 0) (pa_cons (pe_callB call_len_seq (by rfl) (nb "len" rfl) PySem.boot_len (pa_cons (pv 1) pa_nil)) pa_nil))) (fun _ _ => rfl)))), ?_⟩
    obtain ⟨vs, hL, hlen, Δ', rfl, hS', hv⟩ := hS.lstAt hm
    refine ⟨_, rfl, _, rfl, _, rfl, a, vs, rfl, .inl hL, d, l, _, Γ, Δ, rfl, hS, ?_, fun H' r hS2 h0 h1 => ?_⟩
    · rw [hlen]
      exact Nat.lt_of_le_of_lt (show ((ds.length : Nat) : Int).natAbs ≤ 10000 by omega) (by decide +kernel)
    · obtain ⟨us, hL2, hlen2, Δ2, rfl, hS3, hv2⟩ := hS2.lstAt hm
      have hpos : 0 < ds.length := List.length_pos_iff.mpr hne
      have hr : r.toNat < ds.length := by omega
      obtain ⟨v, e1, e2⟩ := dvs_at hv2 (List.getElem?_eq_getElem hr)
      refine ⟨a, us, r, v, rfl, rfl, hL2, atI_of h0 e1, q H' v _ (List.getElem_mem hr) ((hS3.also e2).weaken fun x hx => ?_)⟩
      rcases List.mem_cons.mp hx with rfl | hx
      · exact List.mem_cons_self ..
      · exact List.mem_cons_of_mem _ (List.mem_append_right _ hx)

theorem ok_law_raised {f : Addr} {fd : FuncData} (F : Fun K "_law_raised" "_law_raised" s_law_raised f fd) (nb : NB mg bnames)     : FnOk P w K mg base CX0 1 f fd ["base", "times"] (sp_law_raised K) := by
  refine F.ok sc_law_raised (fun vs H Q E h => ?_) (fun cdv A outer s H vs Q E hr h => ?_)
  · obtain ⟨b, t, rfl, _⟩ := h
    rfl
  · obtain ⟨b, t, rfl, h0, h1, ht, q⟩ := h
    refine ⟨_, (pss_cons (ps_set (i := 2) sc_law_raised.nd rfl (.inl rfl) pe_int)
        (pss_cons (ps_for PassesOwn.never rfl (pi_range1 (by rfl) (nb "range" rfl) (pa_cons (pv 1) pa_nil)) (pg_name (i := 3) sc_law_raised.nd rfl (.inl rfl))
        (pss_one (ps_set (i := 2) sc_law_raised.nd rfl (.inl rfl) (pe_op op_mulX (pv 2) (pv 0)))))
        (pss_one (ps_ret (pv 2))))), ?_⟩
    refine ⟨_, rfl, t, rfl, by omega, by omega, for_range (lo := 0) (n := ((t : Nat) : Int).toNat) (fun i σ H' => ∃ y, σ = [some (.int b), some (.int (t : Int)), some (.int (b ^ i)), y] ∧ H' = H ∧ i ≤ t)
      ⟨_, by rw [Int.pow_zero]; rfl, rfl, Nat.zero_le _⟩ (fun i σ H' hi hP => ?_) (fun σ H' hP => ?_)⟩
    · obtain ⟨y, rfl, rfl, hit⟩ := hP
      have hi' : i < t := by omega
      have hb : (b ^ i).natAbs < 2 ^ 10001 := by
        rw [Int.natAbs_pow]
        exact Nat.lt_of_le_of_lt (Nat.pow_le_pow_left (show b.natAbs ≤ 2 ^ 10 by omega) i) (by
          rw [← Nat.pow_mul]
          exact Nat.pow_lt_pow_right (by decide) (by omega))
      have e1 : b ^ i * b = b ^ (i + 1) := (Int.pow_succ b i).symm
      exact ⟨_, rfl, _, rfl, _, _, rfl, rfl, mulx_ok (a := 10001) (b := 10) hb (by clear hb; omega) (by decide), some (.int (0 + (i : Int))), by rw [← e1]; rfl, rfl, hi'⟩
    · obtain ⟨y, rfl, rfl, hit⟩ := hP
      exact ⟨_, rfl, q⟩

theorem ok_law_is_float {f : Addr} {fd : FuncData} (F : Fun K "_law_is_float" "_law_is_float" s_law_is_float f fd) (nb : NB mg bnames) (F_law_raised : Fd P w K mg base "_law_raised" 1 ["base", "times"] (sp_law_raised K))    : FnOk P w K mg base CX0 2 f fd ["base", "figures", "levels", "number"] (sp_law_is_float K) := by
  refine F.ok sc_law_is_float (fun vs H Q E h => ?_) (fun cdv A outer s H vs Q E hr h => ?_)
  · obtain ⟨b, f, n, l, rfl, _⟩ := h
    rfl
  · obtain ⟨b, f, n, l, rfl, ⟨b1, b2, f1, f2, l1⟩, hn, q⟩ := h
    refine ⟨_, (pss_cons (ps_par (by rfl) (i := 4) (j := 5) sc_law_is_float.nd rfl rfl (by decide) rfl rfl (pa_cons (pe_callB call_abs (by rfl) (nb "abs" rfl) (by decide +kernel) (pa_cons (pv 3) pa_nil)) (pa_cons (pe_fd F_law_raised (hr.mono (by decide)) (by rfl) (pa_cons (pv 0) (pa_cons (pv 1) pa_nil))) pa_nil)) (by rfl))
        (pss_cons (ps_for PassesOwn.never rfl (pi_range1 (by rfl) (nb "range" rfl) (pa_cons (pv 2) pa_nil)) (pg_name (i := 6) sc_law_is_float.nd rfl (.inl rfl))
        (pss_one (ps_if (PW.pt (pw_and (pt_cmpR op_ge (pv 4) (pv 5) (nomark _)) (pw_and1 (pt_cmpR op_eq (pe_op op_mod (pe_callTy call_int1 (by rfl) (nb "int" rfl) (by decide +kernel) (pa_cons (pv 4) pa_nil)) (pv 0)) pe_int (nomark _))))) (pss_one (ps_set (i := 4) sc_law_is_float.nd rfl (.inl rfl) (pe_op op_fdivW (pv 4) (pv 0)))) pss_nil)))
        (pss_one (ps_ret (pe_cmpR op_lt (pv 4) (pv 5) (nomark _)))))), ?_⟩
    obtain ⟨fn, rfl⟩ := Int.eq_ofNat_of_zero_le (show 0 ≤ f by omega)
    refine ⟨_, rfl, n, rfl, _, rfl, _, rfl, b, fn, rfl, (by show 0 ≤ b; omega), (by show b < 2 ^ 10; omega), by omega, ⟨_, _, rfl, ?_⟩⟩
    have e : isFl b (fn : Int) l n = decide (leftAt b (b ^ fn) (if n < 0 then -n else n) l < b ^ fn) := rfl
    rw [e] at q
    clear e
    generalize (if n < 0 then -n else n) = u at q ⊢
    have hdv : ∀ z : Int, CDivW z b := fun z => wide_div (by omega) (show b.natAbs < 2 ^ 10 by omega) (by decide) (by decide)
    refine ⟨_, rfl, l, rfl, by omega, by omega, for_range (lo := 0) (n := ((l : Nat) : Int).toNat) (fun i σ H' => ∃ y6, σ = [some (.int b), some (.int (fn : Int)), some (.int (l : Int)), some (.int n), some (.int (leftAt b (b ^ fn) u i)), some (.int (b ^ fn)), y6] ∧ H' = H)
      ⟨none, rfl, rfl⟩ (fun i σ H' hi hP => ?_) (fun σ H' hP => ?_)⟩
    · obtain ⟨y6, rfl, rfl⟩ := hP
      have es : leftAt b (b ^ fn) u (i + 1) = if leftAt b (b ^ fn) u i ≥ b ^ fn ∧ leftAt b (b ^ fn) u i % b = 0 then leftAt b (b ^ fn) u i / b else leftAt b (b ^ fn) u i := rfl
      rw [es]
      generalize leftAt b (b ^ fn) u i = z
      refine ⟨_, rfl, _, rfl, _, _, rfl, rfl, _, rfl, ite2 (fun e => ?_) (fun e => ?_)⟩
      · have e' : z ≥ b ^ fn := of_decide_eq_true e
        refine ⟨_, rfl, .inl ⟨_, rfl, _, rfl, _, _, rfl, rfl, (by show 0 < b; omega), rfl, _, rfl, ?_⟩⟩
        rw [dec_vint]
        refine ite2 (fun e2 => ?_) (fun e2 => ?_)
        · rw [if_pos ⟨e', of_decide_eq_true e2⟩]
          exact ⟨_, rfl, _, rfl, _, _, rfl, rfl, hdv z, some (.int (0 + (i : Int))), rfl, rfl⟩
        · rw [if_neg fun c => e2 (decide_eq_true c.2)]
          exact ⟨some (.int (0 + (i : Int))), rfl, rfl⟩
      · rw [if_neg fun c => e (decide_eq_true c.1)]
        exact ⟨some (.int (0 + (i : Int))), rfl, rfl⟩
    · obtain ⟨y6, rfl, rfl⟩ := hP
      exact ⟨_, rfl, _, rfl, _, _, rfl, rfl, q⟩

theorem ok_law_seen {f : Addr} {fd : FuncData} (F : Fun K "_law_seen" "_law_seen" s_law_seen f fd) (nb : NB mg bnames) (Ffloat_scale : FdX P w K mg base "float_scale" 6 ["base", "figures", "levels"] (spfloat_scale K mg)) (Kfloat_scale : FkX P w K mg base "float_scale" 6 ["base", "figures", "levels"] ["levels", "figures", "base"] (fun zs => zs.reverse) (spfloat_scale K mg))  {CU CE : Addr} (U : UnfitC K mg CU CE) : FnOk P w K mg base CX0 7 f fd ["base", "figures", "levels", "is_named"] (sp_law_seen K) := by
  refine F.ok sc_law_seen (fun vs H Q E h => ?_) (fun cdv A outer s H vs Q E hr h => ?_)
  · obtain ⟨dk, Γ, Δ, b, f, l, y, rfl, _⟩ := h
    rfl
  · obtain ⟨dk, Γ, Δ, b, f, l, y, rfl, hA, hS, q⟩ := h
    refine ⟨_, (pss_one (ps_try_as (i := 4) rfl rfl sc_law_seen.nd rfl rfl ⟨rfl, by decide, Or.inl U.g⟩ takes0 (fun W pn xe tk po => (pss_cons (ps_if (pt_val (pv 3)) (pss_one (ps_ret (pe_lst (pa_cons pe_str (pa_cons (pe_fkX Kfloat_scale (hr.mono (by decide)) (by rfl) (fun σ => passAt tk σ) (pk_cons (pv 2) (pk_cons (pv 1) (pk_cons (pv 0) pk_nil)))) pa_nil))))) pss_nil)
        (pss_one (ps_ret (pe_lst (pa_cons pe_str (pa_cons (pe_fdX Ffloat_scale (hr.mono (by decide)) (by rfl) (fun σ => passAt tk σ) (pa_cons (pv 0) (pa_cons (pv 1) (pa_cons (pv 2) pa_nil)))) pa_nil))))))) (fun a oe cls d pn hz hf => (pss_one (ps_ret (pe_lst (pa_cons pe_str (pa_cons (pe_callB (call_isE2 hz hf) (by rfl) (nb "isinstance" rfl) (by decide +kernel) (pa_cons (pv 4) (pa_cons (pe_glob (v := .ref CE) (by rfl) U.ge (by rfl)) pa_nil))) pa_nil)))))))), ?_⟩
    have qy : isHeld b f l = true → ∀ (H' : Hp) (v : V), EE.St K H' dk Γ ((v, scaleD (fsR b f l)) :: Δ) → ([V.str "scale", v] : List V).length ≤ sizeLine ∧ ∀ p, H' p = none → Q (.ref p) (upd H' p (.lst [.str "scale", v])) := fun hh H' v hS' => ⟨by show 2 ≤ sizeLine; decide, fun p hp => by
      have hS2 := hS'.lst (vs := [.str "scale", v]) (ds := [.str "scale", scaleD (fsR b f l)]) hp (.cons (.str _) (.cons (.of (List.mem_cons_self ..)) .nil))
      have e : seenD b f l = .list [.str "scale", scaleD (fsR b f l)] := if_pos hh
      refine q _ _ (hS2.weaken fun y hy => ?_)
      rw [e] at hy
      rcases List.mem_cons.mp hy with rfl | hy
      · exact List.mem_cons_self ..
      · exact List.mem_cons_of_mem _ (List.mem_cons_of_mem _ hy)⟩
    have qn : isHeld b f l = false → ∀ (H' : Hp), EE.St K H' dk Γ Δ → ([V.str "unfit", .bl true] : List V).length ≤ sizeLine ∧ ∀ p, H' p = none → Q (.ref p) (upd H' p (.lst [.str "unfit", .bl true])) := fun hh H' hS' => ⟨by show 2 ≤ sizeLine; decide, fun p hp => by
      have hS2 := hS'.lst (vs := [.str "unfit", .bl true]) (ds := [.str "unfit", .bool true]) hp (.cons (.str _) (.cons (.bl _) .nil))
      have e : seenD b f l = .list [.str "unfit", .bool true] := if_neg (by rw [hh]; exact Bool.false_ne_true)
      rw [e] at q
      exact q _ _ hS2⟩
    refine ⟨_, rfl, y, rfl, ?_⟩
    cases y with
    | true =>
      refine iteT ⟨_, rfl, _, rfl, _, rfl, dk, Γ, Δ, b, f, l, rfl, hA, hS, fun hh H1 v hS1 => qy hh H1 v hS1, fun hh H1 C hC hS1 => ?_⟩
      obtain rfl : C = CU := Value.ref.inj (Option.some.inj (hC.symm.trans U.g))
      refine ⟨true, U.e, fun _ a ha => ?_, fun z => Bool.noConfusion z⟩
      exact ⟨_, rfl, C, rfl, rfl, U.exc, .ref CE, .ref CE, true, rfl, fun u r => r, U.kit, qn hh H1 hS1⟩
    | false =>
      refine iteF ⟨_, rfl, _, rfl, _, rfl, dk, Γ, Δ, b, f, l, rfl, hA, hS, fun hh H1 v hS1 => qy hh H1 v hS1, fun hh H1 C hC hS1 => ?_⟩
      obtain rfl : C = CU := Value.ref.inj (Option.some.inj (hC.symm.trans U.g))
      refine ⟨true, U.e, fun _ a ha => ?_, fun z => Bool.noConfusion z⟩
      exact ⟨_, rfl, C, rfl, rfl, U.exc, .ref CE, .ref CE, true, rfl, fun u r => r, U.kit, qn hh H1 hS1⟩

theorem ok_law_due {f : Addr} {fd : FuncData} (F : Fun K "_law_due" "_law_due" s_law_due f fd) (nb : NB mg bnames) (F_law_raised : Fd P w K mg base "_law_raised" 1 ["base", "times"] (sp_law_raised K))    : FnOk P w K mg base CX0 2 f fd ["base", "figures", "levels"] (sp_law_due K) := by
  refine F.ok sc_law_due (fun vs H Q E h => ?_) (fun cdv A outer s H vs Q E hr h => ?_)
  · obtain ⟨dk, Γ, Δ, b, f, l, rfl, _⟩ := h
    rfl
  · obtain ⟨dk, Γ, Δ, b, f, l, rfl, ⟨b1, b2, f1, f2, l1⟩, hS, q⟩ := h
    refine ⟨_, (pss_cons (ps_set (i := 3) sc_law_due.nd rfl (.inl rfl) (pe_lst pa_nil))
        (pss_cons (ps_for PassesOwn.never rfl (pi_range1 (by rfl) (nb "range" rfl) (pa_cons (pv 2) pa_nil)) (pg_name (i := 4) sc_law_due.nd rfl (.inl rfl))
        (pss_one (ps_expr (pe_bm PySem.F.plainAttrs_list PySem.F.slot_list_append PySem.F.type_list_append mt_append (pv 3) (pa_cons (pe_tup (pa_cons (pe_op op_sub (pe_fd F_law_raised (hr.mono (by decide)) (by rfl) (pa_cons (pv 0) (pa_cons (pe_op op_add (pv 1) (pv 4)) pa_nil))) pe_int) (pa_cons (pe_fd F_law_raised (hr.mono (by decide)) (by rfl) (pa_cons (pv 0) (pa_cons (pe_op op_add (pv 4) pe_int) pa_nil))) pa_nil))) pa_nil)))))
        (pss_cons (ps_expr (pe_bm PySem.F.plainAttrs_list PySem.F.slot_list_append PySem.F.type_list_append mt_append (pv 3) (pa_cons (pe_tup (pa_cons (pe_op op_sub (pe_fd F_law_raised (hr.mono (by decide)) (by rfl) (pa_cons (pv 0) (pa_cons (pe_op op_add (pv 1) (pv 2)) pa_nil))) pe_int) (pa_cons pe_int pa_nil))) pa_nil)))
        (pss_one (ps_ret (pe_ifExp (pt_cmpR op_le (pe_ix ix_tup (pe_ix ix_list (pv 3) (pe_un un_neg pe_int) (fun _ _ => rfl)) pe_int (fun _ _ => rfl)) (pe_op op_powW pe_int pe_int) (nomark _)) (pe_lst (pa_cons pe_str (pa_cons (pe_callTy call_tuple_of (by rfl) (nb "tuple" rfl) (by decide +kernel) (pa_cons (pv 3) pa_nil)) pa_nil))) (pe_lst (pa_cons pe_str (pa_cons pe_bl pa_nil))))))))), ?_⟩
    obtain ⟨fn, rfl⟩ := Int.eq_ofNat_of_zero_le (show 0 ≤ f by omega)
    refine ⟨Nat.zero_le _, fun p hp => ?_⟩
    have hS1 := hS.make (ds := []) hp .nil
    refine ⟨_, rfl, l, rfl, by omega, by omega, for_range (lo := 0) (n := ((l : Nat) : Int).toNat) (fun i σ H => ∃ y4, σ = [some (.int b), some (.int (fn : Int)), some (.int (l : Int)), some (.ref p), y4] ∧
        St K H dk ((p, (fsHead b fn i).map ruleD) :: Γ) Δ ∧ i ≤ l)
      ⟨none, rfl, hS1, Nat.zero_le _⟩ (fun i σ H hi hP => ?_) (fun σ H hP => ?_)⟩
    · obtain ⟨y6, rfl, hS, hil⟩ := hP
      have hil2 : i < l := by omega
      obtain ⟨vf, hf1, hf2, _, _⟩ := hS.look
      have ea : [V.int b, V.int ((fn : Int) + (0 + (i : Int)))] = [V.int b, V.int ((fn + i : Nat) : Int)] := by rw [Int.zero_add, Int.natCast_add]
      have eb : [V.int b, V.int ((0 + (i : Int)) + 1)] = [V.int b, V.int ((i + 1 : Nat) : Int)] := by rw [Int.zero_add, Int.natCast_add]; rfl
      refine ⟨_, rfl, .inl ⟨rfl, _, SqL.of hf1⟩, _, rfl, _, rfl, _, rfl, _, _, rfl, rfl, b, fn + i, ea, (by omega), (by show b < 2 ^ 10; omega), (by omega), _, _, rfl, rfl, ?_⟩
      refine ⟨_, rfl, _, rfl, _, _, rfl, rfl, b, i + 1, eb, (by omega), (by show b < 2 ^ 10; omega), (by omega), (by show 2 ≤ sizeLine; decide), fun t ht => ?_⟩
      have hS7 := hS.tup (vs := [.int (b ^ (fn + i) - 1), .int (b ^ (i + 1))]) (ds := [.int (b ^ (fn + i) - 1), .int (b ^ (i + 1))]) ht (.cons (.int _) (.cons (.int _) .nil))
      obtain ⟨vf2, k1, k2, k3⟩ := hS7.push (.of (List.mem_cons_self ..))
      have hl : (fsHead b fn i).length = i := by unfold fsHead; rw [List.length_map, List.length_range]
      refine ⟨p, vf2, _, rfl, rfl, k1, small1000 (by rw [k2, List.length_map, hl]; omega), ?_⟩
      refine ⟨some (.int (0 + (i : Int))), rfl, ?_, hil2⟩
      rw [head_succ, List.map_append]
      exact k3.weaken fun _ h => List.mem_cons_of_mem _ h
    · obtain ⟨y6, rfl, hS, hil⟩ := hP
      rw [Int.toNat_natCast] at hS hil
      obtain ⟨vf, hf1, hf2, _, _⟩ := hS.look
      have ea : [V.int b, V.int ((fn : Int) + (l : Int))] = [V.int b, V.int ((fn + l : Nat) : Int)] := by rw [Int.natCast_add]
      refine ⟨_, rfl, .inl ⟨rfl, _, SqL.of hf1⟩, _, rfl, _, rfl, _, rfl, _, _, rfl, rfl, b, fn + l, ea, (by omega), (by show b < 2 ^ 10; omega), (by omega), _, _, rfl, rfl, (by show 2 ≤ sizeLine; decide), fun t ht => ?_⟩
      have hS7 := hS.tup (vs := [.int (b ^ (fn + l) - 1), .int 0]) (ds := [.int (b ^ (fn + l) - 1), .int 0]) ht (.cons (.int _) (.cons (.int _) .nil))
      obtain ⟨vf2, k1, k2, k3⟩ := hS7.push (.of (List.mem_cons_self ..))
      have hl : (fsHead b fn l).length = l := by unfold fsHead; rw [List.length_map, List.length_range]
      refine ⟨p, vf2, _, rfl, rfl, k1, small1000 (by rw [k2, List.length_map, hl]; omega), ?_⟩
      have e1 : (fsHead b fn l).map ruleD ++ [PyData.tuple [.int (b ^ (fn + l) - 1), .int 0]] = (fsR b (fn : Int) l).map ruleD := by
        rw [fs_eq, List.map_append]
        rfl
      have hS8 := k3.weaken (Δ' := Δ) fun _ h => List.mem_cons_of_mem _ h
      rw [e1] at hS8
      have hlast : ((fsR b (fn : Int) l).map ruleD)[((fsR b (fn : Int) l).map ruleD).length - 1]? = some (ruleD (b ^ (fn + l) - 1, 0)) := by
        rw [fs_eq, List.map_append, List.length_append, List.map_singleton, List.length_singleton, Nat.add_sub_cancel, List.getElem?_append_right (Nat.le_refl _), Nat.sub_self]
        rfl
      obtain ⟨ws, v, j1, j2, j3⟩ := hS8.last hlast
      obtain ⟨av, rfl⟩ := j3.ref_of (List.mem_cons_self ..)
      have hT := j3.pair (List.mem_cons_self ..)
      refine ⟨_, rfl, _, rfl, p, ws, -1, _, rfl, rfl, SqL.of j1, j2, av, _, 0, _, rfl, rfl, hT, atI_nat (j := 0) rfl, _, _, rfl, rfl, ⟨by decide, by decide⟩, _, _, rfl, rfl, _, rfl, ite2 (fun e => ?_) (fun e => ?_)⟩
      · have hh : isHeld b (fn : Int) l = true := e
        have hS9 := hS8.freeze
        obtain ⟨vs, hL, hlen2, Δ2, rfl, hS10, hv2⟩ := hS9.lstAt (List.mem_cons_self ..)
        refine ⟨_, rfl, p, vs, rfl, .inl ⟨hL, fun u hu => ?_⟩⟩
        have hS12 := (hS10.tup hu hv2).weaken (Δ' := (V.ref u, scaleD (fsR b (fn : Int) l)) :: Δ) fun y hy => by
          rcases List.mem_cons.mp hy with rfl | hy
          · exact List.mem_cons_self ..
          · exact List.mem_cons_of_mem _ (List.mem_append_right _ (List.mem_cons_of_mem _ hy))
        refine ⟨by show 2 ≤ sizeLine; decide, fun p2 hp2 => ?_⟩
        have hS13 := hS12.lst (vs := [.str "scale", .ref u]) (ds := [.str "scale", scaleD (fsR b (fn : Int) l)]) hp2 (.cons (.str _) (.cons (.of (List.mem_cons_self ..)) .nil))
        have es : seenD b (fn : Int) l = .list [.str "scale", scaleD (fsR b (fn : Int) l)] := if_pos hh
        refine q _ _ (hS13.weaken fun y hy => ?_)
        rw [es] at hy
        rcases List.mem_cons.mp hy with rfl | hy
        · exact List.mem_cons_self ..
        · exact List.mem_cons_of_mem _ (List.mem_cons_of_mem _ hy)
      · have hh : ¬ isHeld b (fn : Int) l = true := e
        refine ⟨by show 2 ≤ sizeLine; decide, fun p2 hp2 => ?_⟩
        have hS13 := hS8.drop.lst (vs := [.str "unfit", .bl true]) (ds := [.str "unfit", .bool true]) hp2 (.cons (.str _) (.cons (.bl _) .nil))
        have es : seenD b (fn : Int) l = .list [.str "unfit", .bool true] := if_neg hh
        rw [es] at q
        exact q _ _ hS13

theorem lt_pow {x a c : Nat} (h : x < 2 ^ a) (hc : a ≤ c) : x < 2 ^ c := Nat.lt_of_lt_of_le h (Nat.pow_le_pow_right (by decide) hc)
theorem abs_add_lt {x y : Int} {a : Nat} (hx : x.natAbs < 2 ^ a) (hy : y.natAbs < 2 ^ a) : (x + y).natAbs < 2 ^ (a + 1) := by
  have := Int.natAbs_add_le x y
  rw [Nat.pow_succ]
  omega
theorem abs_sub_lt {x y : Int} {a : Nat} (hx : x.natAbs < 2 ^ a) (hy : y.natAbs < 2 ^ a) : (x - y).natAbs < 2 ^ (a + 1) := by
  have : (x - y).natAbs ≤ x.natAbs + y.natAbs := by omega
  rw [Nat.pow_succ]
  omega
theorem abs_mul_lt {x y : Int} {a c : Nat} (hx : x.natAbs < 2 ^ a) (hy : y.natAbs < 2 ^ c) : (x * y).natAbs < 2 ^ (a + c) := by
  rw [Int.natAbs_mul, Nat.pow_add]
  exact Nat.mul_lt_mul_of_lt_of_le hx (Nat.le_of_lt hy) (Nat.pow_pos (by decide))
theorem ok_law_numbers {f : Addr} {fd : FuncData} (F : Fun K "_law_numbers" "_law_numbers" s_law_numbers f fd) (nb : NB mg bnames) (F_law_draw : Fd P w K mg base "_law_draw" 1 ["deck", "many"] (sp_law_draw K)) (F_law_pick : Fd P w K mg base "_law_pick" 2 ["deck", "items"] (sp_law_pick K)) (F_law_raised : Fd P w K mg base "_law_raised" 1 ["base", "times"] (sp_law_raised K))    : FnOk P w K mg base CX0 3 f fd ["deck", "base", "figures", "levels"] (sp_law_numbers K) := by
  refine F.ok sc_law_numbers (fun vs H Q E h => ?_) (fun cdv A outer s H vs Q E hr h => ?_)
  · obtain ⟨d, k, b, f, l, Γ, Δ, rfl, _⟩ := h
    rfl
  · obtain ⟨d, k, b, f, l, Γ, Δ, rfl, ⟨b1, b2, f1, f2, l1⟩, hS, q⟩ := h
    refine ⟨_, (pss_cons (ps_set (i := 4) sc_law_numbers.nd rfl (.inl rfl) (pe_lst (pa_cons pe_int (pa_cons pe_int (pa_cons (pe_op op_powW pe_int pe_int) (pa_cons (pe_op op_sub (pe_op op_powW pe_int pe_int) pe_int) pa_nil))))))
        (pss_cons (ps_for PassesOwn.never rfl (pi_range1 (by rfl) (nb "range" rfl) (pa_cons pe_int pa_nil)) (pg_name (i := 5) sc_law_numbers.nd rfl (.inl rfl))
        (pss_cons (ps_set (i := 6) sc_law_numbers.nd rfl (.inl rfl) (pe_fd F_law_draw (hr.mono (by decide)) (by rfl) (pa_cons (pv 0) (pa_cons (pe_op op_add (pv 3) pe_int) pa_nil))))
        (pss_cons (ps_par (by rfl) (i := 7) (j := 8) sc_law_numbers.nd rfl rfl (by decide) rfl rfl (pa_cons (pe_fd F_law_raised (hr.mono (by decide)) (by rfl) (pa_cons (pv 1) (pa_cons (pv 6) pa_nil))) (pa_cons (pe_fd F_law_raised (hr.mono (by decide)) (by rfl) (pa_cons (pv 1) (pa_cons (pe_op op_add (pv 2) (pv 6)) pa_nil))) pa_nil)) (by rfl))
        (pss_cons (ps_set (i := 9) sc_law_numbers.nd rfl (.inl rfl) (pe_fd F_law_pick (hr.mono (by decide)) (by rfl) (pa_cons (pv 0) (pa_cons (pe_lst (pa_cons (pv 8) (pa_cons (pe_op op_sub (pv 8) pe_int) (pa_cons (pe_op op_sub (pv 8) (pv 7)) (pa_cons (pe_op op_mulX (pv 7) (pe_fd F_law_draw (hr.mono (by decide)) (by rfl) (pa_cons (pv 0) (pa_cons (pe_fd F_law_raised (hr.mono (by decide)) (by rfl) (pa_cons (pv 1) (pa_cons (pv 2) pa_nil))) pa_nil)))) (pa_cons (pv 7) pa_nil)))))) pa_nil))))
        (pss_one (ps_expr (pe_bm PySem.F.plainAttrs_list PySem.F.slot_list_append PySem.F.type_list_append mt_append (pv 4) (pa_cons (pe_op op_mulX (pe_fd F_law_pick (hr.mono (by decide)) (by rfl) (pa_cons (pv 0) (pa_cons (pe_lst (pa_cons pe_int (pa_cons (pe_un un_neg pe_int) pa_nil))) pa_nil))) (pe_op op_add (pv 9) (pe_fd F_law_pick (hr.mono (by decide)) (by rfl) (pa_cons (pv 0) (pa_cons (pe_lst (pa_cons pe_int (pa_cons pe_int (pa_cons pe_int (pa_cons pe_int (pa_cons (pe_un un_neg pe_int) (pa_cons (pv 7) (pa_cons (pv 1) pa_nil)))))))) pa_nil))))) pa_nil))))))))
        (pss_one (ps_ret (pv 4))))), ?_⟩
    obtain ⟨fn, rfl⟩ := Int.eq_ofNat_of_zero_le (show 0 ≤ f by omega)
    refine ⟨_, _, rfl, rfl, ⟨by decide, by decide⟩, _, _, rfl, rfl, ⟨by decide, by decide⟩, _, _, rfl, rfl, (by show 4 ≤ sizeLine; decide), fun p hp => ?_⟩
    have hS1 : EE.St K _ (some (d, k)) ((p, ([0, 1, 10 ^ 60, 10 ^ 60 - 1] : List Int).map PyData.int) :: Γ) Δ := hS.make hp (.cons (.int _) (.cons (.int _) (.cons (.int _) (.cons (.int _) .nil))))
    refine ⟨14, rfl, by decide, by decide, for_range (lo := 0) (n := (14 : Int).toNat) (fun i σ H => ∃ (ns : List Int) (y5 y6 y7 y8 y9 : Option V), σ = [some (.ref d), some (.int b), some (.int (fn : Int)), some (.int (l : Int)), some (.ref p), y5, y6, y7, y8, y9] ∧
        St K H (some (d, k)) ((p, ns.map PyData.int) :: Γ) Δ ∧ ns.length = 4 + i ∧ ∀ n ∈ ns, n.natAbs < 2 ^ 4000)
      ⟨[0, 1, 10 ^ 60, 10 ^ 60 - 1], none, none, none, none, none, rfl, hS1, rfl, ?_⟩ (fun i σ H hi hP => ?_) (fun σ H hP => ?_)⟩
    · intro n hn
      have : n.natAbs ≤ 10 ^ 60 := by
        simp only [List.mem_cons, List.not_mem_nil, or_false] at hn
        rcases hn with rfl | rfl | rfl | rfl <;> decide
      exact Nat.lt_of_le_of_lt this (by decide +kernel)
    · obtain ⟨ns, y5, y6, y7, y8, y9, rfl, hS, hlen, hns⟩ := hP
      have hi14 : i < 14 := hi
      refine ⟨_, rfl, _, rfl, _, _, rfl, rfl, d, k, _, _, Δ, rfl, hS, small8000 (by omega) (by omega), fun H1 r hS1 r0 r1 => ?_⟩
      obtain ⟨kn, rfl⟩ := Int.eq_ofNat_of_zero_le r0
      have hk : kn ≤ 39 := by omega
      have ea : [V.int b, V.int ((fn : Int) + (kn : Int))] = [V.int b, V.int ((fn + kn : Nat) : Int)] := by rw [Int.natCast_add]
      refine ⟨_, rfl, _, rfl, b, kn, rfl, (by omega), (by show b < 2 ^ 10; omega), (by omega), _, rfl, _, rfl, _, rfl, _, _, rfl, rfl, b, fn + kn, ea, (by omega), (by show b < 2 ^ 10; omega), (by omega), _, _, rfl, ?_⟩
      have hu : (b ^ kn).natAbs < 2 ^ 1000 := lt_pow (pow_lt10 (by omega) b2) (by omega)
      have ht : (b ^ (fn + kn)).natAbs < 2 ^ 1000 := lt_pow (pow_lt10 (by omega) b2) (by omega)
      have hw : (b ^ fn).natAbs < 2 ^ 1000 := lt_pow (pow_lt10 (by omega) b2) (by omega)
      generalize b ^ (fn + kn) = top at ht
      generalize b ^ kn = un at hu
      refine ⟨_, rfl, _, rfl, _, rfl, _, _, rfl, rfl, _, rfl, _, rfl, _, _, rfl, rfl, _, rfl, _, rfl, _, rfl, _, rfl, b, fn, rfl, (by omega), (by show b < 2 ^ 10; omega), (by omega), ?_⟩
      have hw0 : 0 < b ^ fn := Int.pow_pos (by omega)
      generalize b ^ fn = wd at hw hw0
      refine ⟨d, k, wd, _, Δ, rfl, hS1, lt_pow hw (by decide), fun H2 r2 hS2 q0 q1 => ?_⟩
      have hr : r2.natAbs < 2 ^ 1000 := Nat.lt_of_le_of_lt (show r2.natAbs ≤ wd.natAbs by omega) hw
      refine ⟨_, _, rfl, rfl, mulx_ok hu hr (by decide), _, rfl, (by show 5 ≤ sizeLine; decide), fun p2 hp2 => ?_⟩
      have hS3 := hS2.lst (vs := [.int top, .int (top - 1), .int (top - un), .int (un * r2), .int un]) (ds := [.int top, .int (top - 1), .int (top - un), .int (un * r2), .int un]) hp2 (.cons (.int _) (.cons (.int _) (.cons (.int _) (.cons (.int _) (.cons (.int _) .nil)))))
      refine ⟨d, k, p2, _, _, _, rfl, hS3, List.mem_cons_self .., by simp, by show 5 ≤ 10000; decide, fun H3 v x hx hS4 => ?_⟩
      obtain ⟨c, rfl, hc⟩ : ∃ c : Int, x = .int c ∧ c.natAbs < 2 ^ 2000 := by
        simp only [List.mem_cons, List.not_mem_nil, or_false] at hx
        rcases hx with rfl | rfl | rfl | rfl | rfl
        · exact ⟨_, rfl, lt_pow ht (by decide)⟩
        · exact ⟨_, rfl, lt_pow (abs_sub_lt ht (lt_pow (a := 1) (by decide) (by decide))) (by decide)⟩
        · exact ⟨_, rfl, lt_pow (abs_sub_lt ht hu) (by decide)⟩
        · exact ⟨_, rfl, abs_mul_lt hu hr⟩
        · exact ⟨_, rfl, lt_pow hu (by decide)⟩
      obtain rfl := hS4.int_of (List.mem_cons_self ..)
      replace hS4 := hS4.weaken (Δ' := Δ) fun _ h => List.mem_cons_of_mem _ (List.mem_cons_of_mem _ h)
      obtain ⟨vf, f1', f2', _, _⟩ := hS4.look
      refine ⟨_, rfl, .inl ⟨rfl, _, SqL.of f1'⟩, _, rfl, _, rfl, (by show 2 ≤ sizeLine; decide), fun p3 hp3 => ?_⟩
      have hS5 := hS4.lst (vs := [.int 1, .int (-1)]) (ds := [.int 1, .int (-1)]) hp3 (.cons (.int _) (.cons (.int _) .nil))
      refine ⟨d, k, p3, _, _, _, rfl, hS5, List.mem_cons_self .., by simp, by show 2 ≤ 10000; decide, fun H4 v x hx hS6 => ?_⟩
      obtain ⟨g, rfl, hg⟩ : ∃ g : Int, x = .int g ∧ g.natAbs < 2 ^ 2 := by
        simp only [List.mem_cons, List.not_mem_nil, or_false] at hx
        rcases hx with rfl | rfl
        · exact ⟨_, rfl, by decide⟩
        · exact ⟨_, rfl, by decide⟩
      obtain rfl := hS6.int_of (List.mem_cons_self ..)
      replace hS6 := hS6.weaken (Δ' := Δ) fun _ h => List.mem_cons_of_mem _ (List.mem_cons_of_mem _ h)
      refine ⟨_, rfl, _, rfl, _, rfl, _, rfl, _, rfl, (by show 7 ≤ sizeLine; decide), fun p4 hp4 => ?_⟩
      have hS7 := hS6.lst (vs := [.int 0, .int 0, .int 0, .int 1, .int (-1), .int un, .int b]) (ds := [.int 0, .int 0, .int 0, .int 1, .int (-1), .int un, .int b]) hp4 (.cons (.int _) (.cons (.int _) (.cons (.int _) (.cons (.int _) (.cons (.int _) (.cons (.int _) (.cons (.int _) .nil)))))))
      refine ⟨d, k, p4, _, _, _, rfl, hS7, List.mem_cons_self .., by simp, by show 7 ≤ 10000; decide, fun H5 v x hx hS8 => ?_⟩
      obtain ⟨e, rfl, he⟩ : ∃ e : Int, x = .int e ∧ e.natAbs < 2 ^ 2000 := by
        simp only [List.mem_cons, List.not_mem_nil, or_false] at hx
        have s1 : ∀ z : Int, z.natAbs < 2 ^ 1 → z.natAbs < 2 ^ 2000 := fun z h => lt_pow h (by decide)
        rcases hx with rfl | rfl | rfl | rfl | rfl | rfl | rfl
        · exact ⟨_, rfl, s1 _ (by decide)⟩
        · exact ⟨_, rfl, s1 _ (by decide)⟩
        · exact ⟨_, rfl, s1 _ (by decide)⟩
        · exact ⟨_, rfl, s1 _ (by decide)⟩
        · exact ⟨_, rfl, s1 _ (by decide)⟩
        · exact ⟨_, rfl, lt_pow hu (by decide)⟩
        · exact ⟨_, rfl, lt_pow (a := 10) (show b.natAbs < 2 ^ 10 by omega) (by decide)⟩
      obtain rfl := hS8.int_of (List.mem_cons_self ..)
      replace hS8 := hS8.weaken (Δ' := Δ) fun _ h => List.mem_cons_of_mem _ (List.mem_cons_of_mem _ h)
      have hce := abs_add_lt hc he
      refine ⟨_, _, rfl, rfl, _, _, rfl, rfl, mulx_ok hg hce (by decide), ?_⟩
      obtain ⟨vf2, k1, k2, k3⟩ := hS8.push (Dv.int (g * (c + e)))
      refine ⟨p, vf2, _, rfl, rfl, k1, small1000 (by rw [k2, List.length_map]; omega), ?_⟩
      refine ⟨ns ++ [g * (c + e)], _, _, _, _, _, rfl, ?_, ?_, ?_⟩
      · rw [List.map_append]
        exact k3
      · rw [List.length_append, List.length_singleton, hlen]
        omega
      · intro n hn
        rcases List.mem_append.mp hn with hn | hn
        · exact hns n hn
        · rw [List.mem_singleton.mp hn]
          exact lt_pow (abs_mul_lt hg hce) (by decide)
    · obtain ⟨ns, y5, y6, y7, y8, y9, rfl, hS, hlen, hns⟩ := hP
      have hl : (14 : Int).toNat = 14 := rfl
      exact ⟨_, rfl, q _ p ns (by omega) hns hS⟩

theorem ipow_le2 {b : Int} (hb : 2 ≤ b) : ∀ k : Nat, (2 : Int) ^ k ≤ b ^ k
  | 0 => by rw [Int.pow_zero, Int.pow_zero]; exact Int.le_refl _
  | k + 1 => by
    have ih := ipow_le2 hb k
    have h2 : (0 : Int) < 2 ^ k := Int.pow_pos (by decide)
    rw [Int.pow_succ, Int.pow_succ]
    exact Int.mul_le_mul ih hb (by decide) (by omega)
theorem bound200 {b : Int} {j : Nat} (hb : 2 ≤ b) (h : b ^ (j + 1) ≤ 10 ^ 60 + 1) : j + 1 < 200 := by
  apply Decidable.byContradiction
  intro hn
  obtain ⟨i, hi⟩ : ∃ i, j + 1 = 200 + i := ⟨j + 1 - 200, by omega⟩
  have g : (2 : Int) ^ 200 * 2 ^ i ≤ b ^ (200 + i) := by
    rw [← Int.pow_add, ← hi]
    exact ipow_le2 hb (j + 1)
  have e : (10 : Int) ^ 60 + 1 < 2 ^ 200 := by decide +kernel
  have p : (1 : Int) ≤ 2 ^ i := by
    have : (0 : Int) < 2 ^ i := Int.pow_pos (by decide)
    omega
  have m : (2 : Int) ^ 200 * 1 ≤ 2 ^ 200 * 2 ^ i := Int.mul_le_mul_of_nonneg_left p (by decide)
  rw [hi] at h
  rw [Int.mul_one] at m
  omega
theorem ok_law_bounded {f : Addr} {fd : FuncData} (F : Fun K "_law_bounded" "_law_bounded" s_law_bounded f fd) (nb : NB mg bnames) (F_law_draw : Fd P w K mg base "_law_draw" 1 ["deck", "many"] (sp_law_draw K)) (F_law_pick : Fd P w K mg base "_law_pick" 2 ["deck", "items"] (sp_law_pick K))    : FnOk P w K mg base CX0 3 f fd ["deck", "base"] (sp_law_bounded K) := by
  refine F.ok sc_law_bounded (fun vs H Q E h => ?_) (fun cdv A outer s H vs Q E hr h => ?_)
  · obtain ⟨d, k, b, Γ, Δ, rfl, _⟩ := h
    rfl
  · obtain ⟨d, k, b, Γ, Δ, rfl, b1, b2, hS, q⟩ := h
    refine ⟨_, (pss_cons (ps_par (by rfl) (i := 2) (j := 3) sc_law_bounded.nd rfl rfl (by decide) rfl rfl (pa_cons pe_int (pa_cons (pv 1) pa_nil)) (by rfl))
        (pss_cons (ps_while PassesOwn.never (pt_cmpR op_le (pv 3) (pe_op op_add (pe_op op_powW pe_int pe_int) pe_int) (nomark _)) (pss_one (ps_par (by rfl) (i := 2) (j := 3) sc_law_bounded.nd rfl rfl (by decide) rfl rfl (pa_cons (pe_op op_add (pv 2) pe_int) (pa_cons (pe_op op_mulX (pv 3) (pv 1)) pa_nil)) (by rfl))))
        (pss_cons (ps_set (i := 4) sc_law_bounded.nd rfl (.inl rfl) (pe_callB (call_min2 rfl) (by rfl) (nb "min" rfl) (by decide +kernel) (pa_cons pe_int (pa_cons (pe_callB (call_max2 rfl) (by rfl) (nb "max" rfl) (by decide +kernel) (pa_cons pe_int (pa_cons (pe_op op_sub (pv 2) (pe_fd F_law_draw (hr.mono (by decide)) (by rfl) (pa_cons (pv 0) (pa_cons pe_int pa_nil)))) pa_nil))) pa_nil))))
        (pss_one (ps_ret (pe_tup (pa_cons (pv 4) (pa_cons (pe_callB (call_min2 rfl) (by rfl) (nb "min" rfl) (by decide +kernel) (pa_cons pe_int (pa_cons (pe_callB (call_max2 rfl) (by rfl) (nb "max" rfl) (by decide +kernel) (pa_cons pe_int (pa_cons (pe_op op_add (pe_op op_sub (pv 2) (pv 4)) (pe_fd F_law_pick (hr.mono (by decide)) (by rfl) (pa_cons (pv 0) (pa_cons (pe_lst (pa_cons pe_int (pa_cons pe_int (pa_cons pe_int (pa_cons (pe_un un_neg pe_int) (pa_cons pe_int pa_nil)))))) pa_nil)))) pa_nil))) pa_nil))) pa_nil)))))))), ?_⟩
    refine ⟨_, rfl, _, _, rfl, ?_⟩
    refine ⟨fun m σ H' => ∃ j : Nat, σ = [some (.ref d), some (.int b), some (.int (j : Int)), some (.int (b ^ (j + 1))), none] ∧ H' = H ∧ j ≤ 200 ∧ m = 200 - j, ⟨_, 0, ?_, rfl, Nat.zero_le _, rfl⟩, fun m σ H' hW => ?_⟩
    · rw [Int.pow_succ, Int.pow_zero, Int.one_mul]
      rfl
    obtain ⟨j, rfl, rfl, hj, rfl⟩ := hW
    refine ⟨_, rfl, _, _, rfl, rfl, ⟨by decide, by decide⟩, _, _, rfl, rfl, _, _, rfl, rfl, _, rfl, ite2 (fun e => ?_) (fun e => ?_)⟩
    · have e' : b ^ (j + 1) ≤ 10 ^ 60 + 1 := of_decide_eq_true e
      have hj2 : j + 1 < 200 := bound200 b1 e'
      have g1 := pow_lt10 (b := b) (k := j + 1) (by omega) b2
      refine ⟨fun σ2 H2 => σ2 = [some (.ref d), some (.int b), some (.int ((j + 1 : Nat) : Int)), some (.int (b ^ (j + 1 + 1))), none] ∧ H2 = H', fun σ2 H2 hN => ?_, ?_⟩
      · obtain ⟨rfl, rfl⟩ := hN
        exact ⟨_, by omega, j + 1, rfl, rfl, by omega, rfl⟩
      · refine ⟨_, rfl, _, _, rfl, rfl, _, rfl, _, rfl, _, _, rfl, rfl, mulx_ok (b := 10) g1 (by omega) (by omega), _, _, rfl, ?_⟩
        rw [Int.pow_succ b (j + 1)]
        exact ⟨rfl, rfl⟩
    · refine ⟨_, rfl, _, rfl, d, k, 40, Γ, Δ, rfl, hS, by decide +kernel, fun H2 r hS2 r0 r1 => ⟨_, _, rfl, rfl, _, _, rfl, _, _, rfl, ?_⟩⟩
      have hf : ∃ f : Int, (if (if (j : Int) - r > 1 then (j : Int) - r else 1) < 60 then (if (j : Int) - r > 1 then (j : Int) - r else 1) else 60) = f ∧ 1 ≤ f ∧ f ≤ 60 := by
        refine ⟨_, rfl, ?_, ?_⟩
        · split
          · split <;> omega
          · omega
        · split <;> omega
      obtain ⟨f, ef, hf1, hf2⟩ := hf
      rw [ef]
      refine ⟨_, rfl, _, rfl, _, rfl, _, _, rfl, rfl, _, rfl, _, rfl, (by show 5 ≤ sizeLine; decide), fun p hp => ?_⟩
      have hS4 := hS2.lst (vs := [.int 0, .int 0, .int 1, .int (-1), .int 2]) (ds := [.int 0, .int 0, .int 1, .int (-1), .int 2]) hp (.cons (.int _) (.cons (.int _) (.cons (.int _) (.cons (.int _) (.cons (.int _) .nil)))))
      refine ⟨d, k, p, _, _, _, rfl, hS4, List.mem_cons_self .., by simp, by show 5 ≤ 10000; decide, fun H4 v x hx hS5 => ?_⟩
      obtain ⟨c, rfl⟩ : ∃ c : Int, x = .int c := by
        simp only [List.mem_cons, List.not_mem_nil, or_false] at hx
        rcases hx with rfl | rfl | rfl | rfl | rfl <;> exact ⟨_, rfl⟩
      obtain rfl := hS5.int_of (List.mem_cons_self ..)
      refine ⟨_, _, rfl, rfl, _, _, rfl, _, _, rfl, ?_⟩
      have hl : ∃ l : Nat, (if (if (j : Int) - f + c > 0 then (j : Int) - f + c else 0) < 39 then (if (j : Int) - f + c > 0 then (j : Int) - f + c else 0) else 39) = (l : Int) ∧ l ≤ 39 := by
        refine ⟨((if (if (j : Int) - f + c > 0 then (j : Int) - f + c else 0) < 39 then (if (j : Int) - f + c > 0 then (j : Int) - f + c else 0) else 39) : Int).toNat, ?_, ?_⟩
        · rw [Int.toNat_of_nonneg]
          split
          · split <;> omega
          · omega
        · have : (if (if (j : Int) - f + c > 0 then (j : Int) - f + c else 0) < 39 then (if (j : Int) - f + c > 0 then (j : Int) - f + c else 0) else 39) ≤ 39 := by
            split <;> omega
          omega
      obtain ⟨l, el, hl1⟩ := hl
      rw [el]
      refine ⟨by show 2 ≤ sizeLine; decide, fun u hu => ?_⟩
      refine q _ _ f l hf1 hf2 hl1 ((hS5.tup (vs := [.int f, .int (l : Int)]) (ds := [.int f, .int (l : Int)]) hu (.cons (.int _) (.cons (.int _) .nil))).weaken fun y hy => ?_)
      rcases List.mem_cons.mp hy with rfl | hy
      · exact List.mem_cons_self ..
      · exact List.mem_cons_of_mem _ (List.mem_cons_of_mem _ (List.mem_cons_of_mem _ hy))

theorem oklaw {f : Addr} {fd : FuncData} (F : Fun K "law" "law" slaw f fd) (nb : NB mg bnames) (F_law_bounded : Fd P w K mg base "_law_bounded" 3 ["deck", "base"] (sp_law_bounded K)) (F_law_deck : Fd P w K mg base "_law_deck" 1 ["script"] (sp_law_deck K)) (F_law_draw : Fd P w K mg base "_law_draw" 1 ["deck", "many"] (sp_law_draw K)) (F_law_due : Fd P w K mg base "_law_due" 2 ["base", "figures", "levels"] (sp_law_due K)) (F_law_is_float : Fd P w K mg base "_law_is_float" 2 ["base", "figures", "levels", "number"] (sp_law_is_float K)) (F_law_numbers : Fd P w K mg base "_law_numbers" 3 ["deck", "base", "figures", "levels"] (sp_law_numbers K)) (F_law_pick : Fd P w K mg base "_law_pick" 2 ["deck", "items"] (sp_law_pick K)) (F_law_seen : Fd P w K mg base "_law_seen" 7 ["base", "figures", "levels", "is_named"] (sp_law_seen K)) (Ffits : Fd P w K mg base "fits" 3 ["scale", "number"] (spfits K)) (Fscale_error : Fd P w K mg base "scale_error" 5 ["value"] (spscale_error K))    : FnG P w K mg base 8 f fd ["script"] (splaw K) := by
  refine okG F sclaw (fun vs H Q E h => ?_) (fun cdv A outer s H vs Q E hg hr h => ?_)
  · obtain ⟨a, ns, rfl, _⟩ := h
    rfl
  · obtain ⟨a0, ns0, rfl, hS, hlen, q⟩ := h
    refine ⟨_, (pss_cons (ps_set (i := 1) sclaw.nd rfl (.inl rfl) (pe_fd F_law_deck (hr.mono (by decide)) (by rfl) (pa_cons (pv 0) pa_nil)))
        (pss_cons (ps_for PassesOwn.never rfl (pi_range1 (by rfl) (nb "range" rfl) (pa_cons pe_int pa_nil)) (pg_name (i := 2) sclaw.nd rfl (.inl rfl))
        (pss_cons (ps_set (i := 3) sclaw.nd rfl (.inl rfl) (pe_fd F_law_pick (hr.mono (by decide)) (by rfl) (pa_cons (pv 1) (pa_cons (pe_lst (pa_cons pe_int (pa_cons pe_int (pa_cons pe_int (pa_cons pe_int (pa_cons pe_int (pa_cons pe_int (pa_cons (pe_op op_add pe_int (pe_fd F_law_draw (hr.mono (by decide)) (by rfl) (pa_cons (pv 1) (pa_cons pe_int pa_nil)))) pa_nil)))))))) pa_nil))))
        (pss_cons (ps_par (by rfl) (i := 4) (j := 5) sclaw.nd rfl rfl (by decide) rfl rfl (pa_cons (pe_op op_add pe_int (pe_fd F_law_draw (hr.mono (by decide)) (by rfl) (pa_cons (pv 1) (pa_cons pe_int pa_nil)))) (pa_cons (pe_fd F_law_draw (hr.mono (by decide)) (by rfl) (pa_cons (pv 1) (pa_cons pe_int pa_nil))) pa_nil)) (by rfl))
        (Evl.pss_cut (ps_if (pt_cmpR op_lt (pv 2) pe_int (nomark _)) (pss_one (ps_asg (pe_fd F_law_bounded (hr.mono (by decide)) (by rfl) (pa_cons (pv 1) (pa_cons (pv 3) pa_nil))) (pg_tup (by rfl) (pgs_cons (pg_name (i := 4) sclaw.nd rfl (.inl rfl)) (pgs_cons (pg_name (i := 5) sclaw.nd rfl (.inl rfl)) pgs_nil))))) pss_nil)
        (Evl.pss_cut (ps_if (pt_cmpR op_eq (pv 2) pe_int (nomark _)) (pss_one (ps_par3 (by rfl) (i := 3) (j := 4) (l := 5) sclaw.nd rfl rfl rfl (by decide) (by decide) (by decide) rfl rfl rfl (pa_cons (pe_fd F_law_pick (hr.mono (by decide)) (by rfl) (pa_cons (pv 1) (pa_cons (pe_lst (pa_cons pe_int (pa_cons pe_int (pa_cons pe_int (pa_cons pe_int pa_nil))))) pa_nil))) (pa_cons (pe_op op_add pe_int (pe_fd F_law_draw (hr.mono (by decide)) (by rfl) (pa_cons (pv 1) (pa_cons pe_int pa_nil)))) (pa_cons (pe_fd F_law_draw (hr.mono (by decide)) (by rfl) (pa_cons (pv 1) (pa_cons pe_int pa_nil))) pa_nil))) (by rfl))) pss_nil)
        (pss_cons (ps_par (by rfl) (i := 6) (j := 7) sclaw.nd rfl rfl (by decide) rfl rfl (pa_cons (pe_fd F_law_seen (hr.mono (by decide)) (by rfl) (pa_cons (pv 3) (pa_cons (pv 4) (pa_cons (pv 5) (pa_cons (pe_cmpR op_eq (pv 2) pe_int (nomark _)) pa_nil))))) (pa_cons (pe_fd F_law_due (hr.mono (by decide)) (by rfl) (pa_cons (pv 3) (pa_cons (pv 4) (pa_cons (pv 5) pa_nil)))) pa_nil)) (by rfl))
        (pss_cons (ps_if (pt_cmpR op_ne (pe_callB (call_repr hg (by have := hr.units; exact this)) (by rfl) (nb "repr" rfl) (by decide +kernel) (pa_cons (pe_lst (pa_cons (pv 6) (pa_cons (pe_fd F_law_seen (hr.mono (by decide)) (by rfl) (pa_cons (pv 3) (pa_cons (pv 4) (pa_cons (pv 5) (pa_cons pe_bl pa_nil))))) pa_nil))) pa_nil)) (pe_callB (call_repr hg (by have := hr.units; exact this)) (by rfl) (nb "repr" rfl) (by decide +kernel) (pa_cons (pe_lst (pa_cons (pv 7) (pa_cons (pv 7) pa_nil))) pa_nil)) (nomark _)) (pss_one (ps_ret pe_bl)) pss_nil)
        (pss_cons (ps_set (i := 8) sclaw.nd rfl (.inl rfl) (pe_ifExp (pt_cmpR op_eq (pe_ix ix_list (pv 6) pe_int (fun _ _ => rfl)) pe_str (nomark _)) (pe_fd F_law_numbers (hr.mono (by decide)) (by rfl) (pa_cons (pv 1) (pa_cons (pv 3) (pa_cons (pv 4) (pa_cons (pv 5) pa_nil))))) (pe_lst pa_nil)))
        (Evl.pss_cut (ps_if (pt_cmpR op_eq (pv 2) pe_int (nomark _)) (pss_one (ps_set (i := 8) sclaw.nd rfl (.inl rfl) (pe_op op_cat (pe_listRg rfl (by rfl) (nb "list" rfl) (prg_2 (by rfl) (nb "range" rfl) (pe_un un_neg pe_int) pe_int)) (pv 8)))) pss_nil)
        (pss_cons (ps_for PassesOwn.never rfl (pi_list (pv 8)) (pg_name (i := 9) sclaw.nd rfl (.inl rfl))
        (pss_one (ps_if (pt_cmpR op_ne (pe_callB call_repr_bool (by rfl) (nb "repr" rfl) (by decide +kernel) (pa_cons (pe_fd Ffits (hr.mono (by decide)) (by rfl) (pa_cons (pe_ix ix_list (pv 6) pe_int (fun _ _ => rfl)) (pa_cons (pv 9) pa_nil))) pa_nil)) (pe_callB call_repr_bool (by rfl) (nb "repr" rfl) (by decide +kernel) (pa_cons (pe_fd F_law_is_float (hr.mono (by decide)) (by rfl) (pa_cons (pv 3) (pa_cons (pv 4) (pa_cons (pv 5) (pa_cons (pv 9) pa_nil))))) pa_nil)) (nomark _)) (pss_one (ps_ret pe_bl)) pss_nil)))
        (pss_one (ps_if (PW.pt (pw_and (pt_cmpR op_eq (pe_ix ix_list (pv 6) pe_int (fun _ _ => rfl)) pe_str (nomark _)) (pw_and1 (pt_cmpR op_notN (pe_fd Fscale_error (hr.mono (by decide)) (by rfl) (pa_cons (pe_ix ix_list (pv 6) pe_int (fun _ _ => rfl)) pa_nil)) pe_non (nomark _))))) (pss_one (ps_ret pe_bl)) pss_nil))))))))))))
        (pss_one (ps_ret pe_bl)))), ?_⟩
    -- deck = _law_deck(script)
    refine go_set ⟨_, rfl, a0, ns0, rfl, hS, hlen, fun H1 d l hS1 => ?_⟩
    dsimp only [L2.start]
    -- for turn in range(6)
    refine ⟨6, rfl, by decide, by decide, for_range (lo := 0) (n := 6) (fun i σ H => ∃ y2 y3 y4 y5 y6 y7 y8 y9 : Option V, σ = [some (.ref a0), some (.ref d), y2, y3, y4, y5, y6, y7, y8, y9] ∧ St K H (some (d, l)) [] [])
      ⟨_, _, _, _, _, _, _, _, rfl, hS1⟩ (fun i σ H hi hP => ?_) (fun σ H hP => q H)⟩
    obtain ⟨y2, y3, y4, y5, y6, y7, y8, y9, rfl, hS⟩ := hP
    dsimp only [gName, List.set_cons_succ, List.set_cons_zero]
    -- base
    refine go_set ⟨_, rfl, _, rfl, d, l, 999, [], [], rfl, hS, by decide +kernel, fun H1 r hS1 r0 r1 => ⟨_, _, rfl, rfl, (by show 7 ≤ sizeLine; decide), fun p hp => ?_⟩⟩
    have hS2 := hS1.lst (vs := [.int 2, .int 3, .int 7, .int 10, .int 16, .int 1000, .int (2 + r)]) (ds := [.int 2, .int 3, .int 7, .int 10, .int 16, .int 1000, .int (2 + r)]) hp (.cons (.int _) (.cons (.int _) (.cons (.int _) (.cons (.int _) (.cons (.int _) (.cons (.int _) (.cons (.int _) .nil)))))))
    refine ⟨d, l, p, _, _, _, rfl, hS2, List.mem_cons_self .., by simp, by show 7 ≤ 10000; decide, fun H2 v x hx hS3 => ?_⟩
    obtain ⟨b, rfl, hb1, hb2⟩ : ∃ b : Int, x = .int b ∧ 2 ≤ b ∧ b ≤ 1000 := by
      simp only [List.mem_cons, List.not_mem_nil, or_false] at hx
      rcases hx with rfl | rfl | rfl | rfl | rfl | rfl | rfl <;> exact ⟨_, rfl, by omega, by omega⟩
    obtain rfl := hS3.int_of (List.mem_cons_self ..)
    replace hS3 := hS3.weaken (Δ' := []) fun _ h => nomatch h
    dsimp only [gName, List.set_cons_succ, List.set_cons_zero]
    -- figures, levels
    refine go_seq ⟨_, rfl, d, l, 60, [], [], rfl, hS3, by decide +kernel, fun H3 f0 hS4 f01 f02 => ⟨_, _, rfl, rfl, _, rfl, d, l, 40, [], [], rfl, hS4, by decide +kernel, fun H4 l0 hS5 l01 l02 => ⟨_, _, rfl, ?_⟩⟩⟩
    dsimp only [gName, List.set_cons_succ, List.set_cons_zero]
    refine go_cut (fun σ H' => ∃ (f : Int) (lv : Nat), σ = [some (.ref a0), some (.ref d), some (.int (0 + (i : Int))), some (.int b), some (.int f), some (.int (lv : Int)), y6, y7, y8, y9] ∧ St K H' (some (d, l)) [] [] ∧ 1 ≤ f ∧ f ≤ 60 ∧ lv ≤ 39) ?_ (fun σ H5 hM => ?_)
    · refine go_if ⟨_, rfl, _, _, rfl, rfl, _, rfl, ite2 (fun e => ?_) (fun e => ?_)⟩
      · refine ⟨_, rfl, _, rfl, d, l, b, [], [], rfl, hb1, hb2, hS5, fun H' v f lv f1 f2 l1 hS' => ?_⟩
        obtain ⟨t, rfl⟩ := hS'.ref_of (List.mem_cons_self ..)
        have hT := hS'.pair (List.mem_cons_self ..)
        refine ⟨t, _, rfl, hT, rfl, _, _, rfl, _, _, rfl, rfl, ?_⟩
        exact ⟨f, lv, rfl, hS'.weaken (fun _ h => nomatch h), f1, f2, l1⟩
      · obtain ⟨ln, rfl⟩ := Int.eq_ofNat_of_zero_le l01
        exact ⟨1 + f0, ln, rfl, hS5, by omega, by omega, by omega⟩
    obtain ⟨f, lv, rfl, hS6, f1, f2, l1⟩ := hM
    refine go_cut (fun σ H' => ∃ (b f : Int) (lv : Nat), σ = [some (.ref a0), some (.ref d), some (.int (0 + (i : Int))), some (.int b), some (.int f), some (.int (lv : Int)), y6, y7, y8, y9] ∧ St K H' (some (d, l)) [] [] ∧ Args3 b f lv ∧ (0 + (i : Int) = 4 → b ≤ 10 ∧ f ≤ 2 ∧ lv ≤ 2)) ?_ (fun σ H7 hM => ?_)
    · refine go_if ⟨_, rfl, rfl, _, rfl, ?_⟩
      rw [dec_vint]
      refine ite2 (fun e => ?_) (fun e => ?_)
      · refine ⟨_, rfl, (by show 4 ≤ sizeLine; decide), fun p hp => ?_⟩
        have hS7 := hS6.lst (vs := [.int 2, .int 3, .int 5, .int 10]) (ds := [.int 2, .int 3, .int 5, .int 10]) hp (.cons (.int _) (.cons (.int _) (.cons (.int _) (.cons (.int _) .nil))))
        refine ⟨d, l, p, _, _, _, rfl, hS7, List.mem_cons_self .., by simp, by show 4 ≤ 10000; decide, fun H2 v x hx hS8 => ?_⟩
        obtain ⟨b', rfl, c1, c2⟩ : ∃ b : Int, x = .int b ∧ 2 ≤ b ∧ b ≤ 10 := by
          simp only [List.mem_cons, List.not_mem_nil, or_false] at hx
          rcases hx with rfl | rfl | rfl | rfl <;> exact ⟨_, rfl, by omega, by omega⟩
        obtain rfl := hS8.int_of (List.mem_cons_self ..)
        replace hS8 := hS8.weaken (Δ' := []) fun _ h => nomatch h
        refine ⟨_, rfl, d, l, 2, [], [], rfl, hS8, by decide +kernel, fun H3 f0 hS9 f01 f02 => ⟨_, _, rfl, rfl, _, rfl, d, l, 3, [], [], rfl, hS9, by decide +kernel, fun H4 l0 hS10 l01 l02 => ⟨_, _, _, rfl, ?_⟩⟩⟩
        obtain ⟨ln, rfl⟩ := Int.eq_ofNat_of_zero_le l01
        exact ⟨b', 1 + f0, ln, rfl, hS10, ⟨c1, by omega, by omega, by omega, by omega⟩, fun _ => ⟨c2, by omega, by omega⟩⟩
      · exact ⟨b, f, lv, rfl, hS6, ⟨hb1, hb2, f1, f2, l1⟩, fun c => absurd (decide_eq_true c) e⟩
    clear hS hS1 hS2 hS3 hS4 hS5 hS6 f1 f2 l1 hb1 hb2
    obtain ⟨b, f, lv, rfl, hS, hA, hc4⟩ := hM
    -- seen, due
    refine go_seq (EvDs.go (B := []) (ds := [seenD b f lv, seenD b f lv]) (eds_cons (ed_seen (eds_cons (ed_varI rfl) (eds_cons (ed_varI rfl) (eds_cons (ed_varI rfl) (eds_cons (ed_eqI (ed_varI rfl) ed_int) eds_nil)))) hA) (eds_cons (ed_due (eds_cons (ed_varI rfl) (eds_cons (ed_varI rfl) (eds_cons (ed_varI rfl) eds_nil))) hA) eds_nil)) sub_nil hS (fun vs H' Δ' s' hS' dvs => ?_))
    cases dvs with | cons d1 r => cases r with | cons d2 r =>
    cases r
    rename_i v1 v2
    have hSa := ((hS'.also d2).also (d1.sub (Sub.cons .rfl'))).weaken (Δ' := [(v1, seenD b f lv), (v2, seenD b f lv)]) fun y hy => by
      simp only [List.mem_cons, List.not_mem_nil, or_false] at hy
      rcases hy with rfl | rfl
      · exact List.mem_cons_self ..
      · exact List.mem_cons_of_mem _ (List.mem_cons_self ..)
    clear hS' hS d1 d2 s'
    refine ⟨_, _, rfl, ?_⟩
    dsimp only [gName, List.set_cons_succ, List.set_cons_zero]
    have B1 : Dv [(v1, seenD b f lv), (v2, seenD b f lv)] v1 (seenD b f lv) := .of (List.mem_cons_self ..)
    have B2 : Dv [(v1, seenD b f lv), (v2, seenD b f lv)] v2 (seenD b f lv) := .of (List.mem_cons_of_mem _ (List.mem_cons_self ..))
    have smP : Sm 300000 4 (.list [seenD b f lv, seenD b f lv]) := (sm_list (ds := [seenD b f lv, seenD b f lv]) fun x hx => by
      simp only [List.mem_cons, List.not_mem_nil, or_false] at hx
      rcases hx with rfl | rfl <;> exact sm_seen hA).mono (by show 2 * (110000 + 2) + 3 ≤ 300000; decide) (Nat.le_refl _)
    -- if repr([seen, ..]) != repr([due, due])
    refine go_if (EvD.test (b := !decide ((PyData.list [seenD b f lv, seenD b f lv]).shown = (PyData.list [seenD b f lv, seenD b f lv]).shown)) (B := [(v1, seenD b f lv), (v2, seenD b f lv)])
      (ed_neS (ed_repr (ed_lst (eds_cons (ed_var rfl B1) (eds_cons (ed_seen (eds_cons (ed_varI rfl) (eds_cons (ed_varI rfl) (eds_cons (ed_varI rfl) (eds_cons ed_bl eds_nil)))) hA) eds_nil)) (by show 2 ≤ 10000; decide)) trivial smP (by decide) (by decide))
        (ed_repr (ed_lst (eds_cons (ed_var rfl B2) (eds_cons (ed_var rfl B2) eds_nil)) (by show 2 ≤ 10000; decide)) trivial smP (by decide) (by decide))) .rfl' hSa (fun H8 hS8 => ?_))
    rw [decide_eq_true rfl]
    refine iteF ?_
    refine go_next ?_
    dsimp only [gName, List.set_cons_succ, List.set_cons_zero]
    -- numbers
    refine go_set (cps (fun v H' => ∃ (pn : Addr) (ns : List Int), v = .ref pn ∧ St K H' (some (d, l)) [(pn, ns.map PyData.int)] [(v1, seenD b f lv), (v2, seenD b f lv)] ∧ ns.length ≤ 100 ∧ (∀ n ∈ ns, n.natAbs < 2 ^ 4000) ∧ (ns ≠ [] → isHeld b f lv = true)) (fun Q' q' => ?_) (fun v H9 hv => ?_))
    · refine go_ite (EvD.test (b := isHeld b f lv) (B := [(v1, seenD b f lv), (v2, seenD b f lv)]) (ed_first (ed_var rfl B1)) .rfl' hS8 (fun H9 hS9 => ?_))
      cases hh : isHeld b f lv with
      | true => exact iteT ⟨_, rfl, _, rfl, _, rfl, _, rfl, d, l, b, f, lv, [], _, rfl, hA, hS9, fun H' p ns h1 h2 hS' => q' _ _ ⟨p, ns, rfl, hS', h1, h2, fun _ => hh⟩⟩
      | false => exact iteF ⟨Nat.zero_le _, fun p hp => q' _ _ ⟨p, [], rfl, hS9.make (ds := []) hp .nil, Nat.zero_le _, fun n hn => (nomatch hn), fun z => absurd rfl z⟩⟩
    obtain ⟨pn, ns, rfl, hS10, hnl, hns, hne⟩ := hv
    dsimp only [gName, List.set_cons_succ, List.set_cons_zero]
    refine go_cut (fun σ H' => ∃ (pn : Addr) (ns : List Int), σ = [some (.ref a0), some (.ref d), some (.int (0 + (i : Int))), some (.int b), some (.int f), some (.int (lv : Int)), some v1, some v2, some (.ref pn), y9] ∧
      St K H' (some (d, l)) [] [(.ref pn, .list (ns.map PyData.int)), (v1, seenD b f lv), (v2, seenD b f lv)] ∧ (∀ n ∈ ns, n.natAbs < 2 ^ 4000) ∧ (ns ≠ [] → isHeld b f lv = true)) ?_ (fun σ H11 hM => ?_)
    · refine go_if ⟨_, rfl, rfl, _, rfl, ?_⟩
      rw [dec_vint]
      refine ite2 (fun e => ?_) (fun e => ?_)
      · obtain ⟨c1, c2, c3⟩ := hc4 (of_decide_eq_true e)
        have hh := held_small hA c2 c3
        refine ⟨_, rfl, _, _, rfl, rfl, ⟨by decide, by decide, by decide, by decide, by decide⟩, fun p hp => ?_⟩
        rw [show -(5 : Int) = -5 from rfl] at *
        rw [rg_eq]
        have hS11 := hS10.make (ds := rgI.map PyData.int) hp (dv_ints rgI)
        obtain ⟨xs, zs, x1, x2, x3, x4, x5⟩ := hS11.cat
        have hr : rgI.length = 205 := by unfold rgI; rw [List.length_map, List.length_range]
        refine ⟨_, rfl, p, pn, xs, zs, rfl, rfl, x1, x2, Nat.le_of_lt (small1000 (by rw [x3, x4, List.length_map, List.length_map, hr]; omega)), fun t ht => ?_⟩
        have hS12 := (x5 t ht).freeze.drop.drop
        rw [← List.map_append] at hS12
        refine ⟨t, rgI ++ ns, rfl, hS12, fun n hn => ?_, fun _ => hh⟩
        rcases List.mem_append.mp hn with hn | hn
        · exact rg_small n hn
        · exact hns n hn
      · exact ⟨pn, ns, rfl, hS10.freeze, hns, hne⟩
    clear hS8 hS10 hSa hns hne hnl
    obtain ⟨pn, ns, rfl, hS, hns, hne⟩ := hM
    have B1 : Dv [(V.ref pn, PyData.list (ns.map PyData.int)), (v1, seenD b f lv), (v2, seenD b f lv)] v1 (seenD b f lv) := .of (List.mem_cons_of_mem _ (List.mem_cons_self ..))
    obtain ⟨xs0, hL0, hx0⟩ := hS.lenL (List.mem_cons_self ..)
    refine go_for (go_walkL ⟨_, rfl, pn, rfl, ⟨xs0, hL0⟩, for_it (n := ns.length) walkL (fun k σ H => ∃ y9 : Option V, σ = [some (.ref a0), some (.ref d), some (.int (0 + (i : Int))), some (.int b), some (.int f), some (.int (lv : Int)), some v1, some v2, some (.ref pn), y9] ∧
      St K H (some (d, l)) [] [(.ref pn, .list (ns.map PyData.int)), (v1, seenD b f lv), (v2, seenD b f lv)])
      ⟨_, rfl, hS⟩ (fun k σ H _ hP => ?_) (fun k x σ H H' hk hP hy => ?_) (fun σ H hP => ?_)⟩)
    · obtain ⟨_, _, hS⟩ := hP
      obtain ⟨xs, h1, h3⟩ := hS.lenL (List.mem_cons_self ..)
      exact ⟨xs, h1, by rw [h3, List.length_map]⟩
    · obtain ⟨y9, rfl, hS⟩ := hP
      obtain ⟨rfl, ff⟩ := hy
      obtain ⟨dd, e1, hS1⟩ := hS.turnL (List.mem_cons_self ..) ff
      rw [List.getElem?_map, List.getElem?_eq_getElem hk] at e1
      cases Option.some.inj e1
      obtain rfl := hS1.int_of (List.mem_cons_self ..)
      have hh : isHeld b f lv = true := hne fun z => by
        rw [z] at hk
        exact absurd hk (Nat.not_lt_zero k)
      have hn := hns _ (List.getElem_mem hk)
      generalize ns[k] = n at hn
      have hS2 := hS1.weaken (Δ' := [(.ref pn, .list (ns.map PyData.int)), (v1, seenD b f lv), (v2, seenD b f lv)]) fun _ => List.mem_cons_of_mem _
      dsimp only [gName, List.set_cons_succ, List.set_cons_zero]
      have fe : fitsAll (fsR b f lv) n = isFl b f lv n := by
        obtain ⟨fn, rfl⟩ := Int.eq_ofNat_of_zero_le (show 0 ≤ f by have := hA.2.2.1; omega)
        exact float_is hA.1
      refine go_if (EvD.test (b := !decide ((if fitsAll (fsR b f lv) n = true then ("True" : Str) else ("False" : Str)) = (if isFl b f lv n = true then ("True" : Str) else ("False" : Str)))) (B := [(V.ref pn, PyData.list (ns.map PyData.int)), (v1, seenD b f lv), (v2, seenD b f lv)])
        (ed_neS (ed_reprB (ed_fits (ed_second hh (ed_var rfl B1)) (ed_varI rfl) (fs_nonneg hA.1))) (ed_reprB (ed_isfl (eds_cons (ed_varI rfl) (eds_cons (ed_varI rfl) (eds_cons (ed_varI rfl) (eds_cons (ed_varI rfl) eds_nil)))) hA hn))) .rfl' hS2 (fun H8 hS8 => ?_))
      rw [fe, decide_eq_true rfl]
      refine iteF ?_
      exact ⟨_, rfl, hS8⟩
    · obtain ⟨y9, rfl, hS⟩ := hP
      have se : isHeld b f lv = true → serrD (fsR b f lv) = .none := fun hh => by
        obtain ⟨fn, rfl⟩ := Int.eq_ofNat_of_zero_le (show 0 ≤ f by have := hA.2.2.1; omega)
        obtain ⟨j, ej⟩ := serr_fs (b := b) (f := fn) hA.1 (by have := hA.2.2.1; omega) lv
        rw [ej, if_pos hh]
      have fin : ∀ H', St K H' (some (d, l)) [] [(V.ref pn, PyData.list (ns.map PyData.int)), (v1, seenD b f lv), (v2, seenD b f lv)] → St K H' (some (d, l)) [] [] := fun H' h => h.weaken fun _ h => nomatch h
      refine go_if (go_and (EvD.test (b := isHeld b f lv) (B := [(V.ref pn, PyData.list (ns.map PyData.int)), (v1, seenD b f lv), (v2, seenD b f lv)]) (ed_first (ed_var rfl B1)) .rfl' hS (fun H9 hS9 => ?_)))
      cases hh : isHeld b f lv with
      | true =>
        refine iteT (EvD.test (b := false) (B := [(V.ref pn, PyData.list (ns.map PyData.int)), (v1, seenD b f lv), (v2, seenD b f lv)]) (ed_notN0 ?_) .rfl' hS9 (fun H10 hS10 => iteF ⟨_, _, _, _, _, _, _, _, rfl, fin _ hS10⟩))
        rw [← se hh]
        exact ed_serr (ed_second hh (ed_var rfl B1)) (by rw [fs_length]; have := hA.2.2.2.2; omega)
      | false => exact iteF (iteF ⟨_, _, _, _, _, _, _, _, rfl, fin _ hS9⟩)

end
theorem all_mk {l : PySem.W.OpenLaw} {w : World} {K : PySem.W.Frag} {h : Heap} {mg : Str → Option Value} {fa : Addr} (X : K.In h) (G : h.Ns mainGlobals mg) (hfa : mg "law" = some (.ref fa))
    {f0 : Addr} {od0 an0 : Option Addr} {sl0 : Array (Option Value)} {oc0 kV0 dc0 pm0 cd0 ct0 : Value}
    {f1 : Addr} {od1 an1 : Option Addr} {sl1 : Array (Option Value)} {oc1 kV1 dc1 pm1 cd1 ct1 : Value}
    {f2 : Addr} {od2 an2 : Option Addr} {sl2 : Array (Option Value)} {oc2 kV2 dc2 pm2 cd2 ct2 : Value}
    {f3 : Addr} {od3 an3 : Option Addr} {sl3 : Array (Option Value)} {oc3 kV3 dc3 pm3 cd3 ct3 : Value}
    {f4 : Addr} {od4 an4 : Option Addr} {sl4 : Array (Option Value)} {oc4 kV4 dc4 pm4 cd4 ct4 : Value}
    {f5 : Addr} {od5 an5 : Option Addr} {sl5 : Array (Option Value)} {oc5 kV5 dc5 pm5 cd5 ct5 : Value}
    {f6 : Addr} {od6 an6 : Option Addr} {sl6 : Array (Option Value)} {oc6 kV6 dc6 pm6 cd6 ct6 : Value}
    {f7 : Addr} {od7 an7 : Option Addr} {sl7 : Array (Option Value)} {oc7 kV7 dc7 pm7 cd7 ct7 : Value}
    {f8 : Addr} {od8 an8 : Option Addr} {sl8 : Array (Option Value)} {oc8 kV8 dc8 pm8 cd8 ct8 : Value}
    {f9 : Addr} {od9 an9 : Option Addr} {sl9 : Array (Option Value)} {oc9 kV9 dc9 pm9 cd9 ct9 : Value}
    {f10 : Addr} {od10 an10 : Option Addr} {sl10 : Array (Option Value)} {oc10 kV10 dc10 pm10 cd10 ct10 : Value}
    {f11 : Addr} {od11 an11 : Option Addr} {sl11 : Array (Option Value)} {oc11 kV11 dc11 pm11 cd11 ct11 : Value}
    {f12 : Addr} {od12 an12 : Option Addr} {sl12 : Array (Option Value)} {oc12 kV12 dc12 pm12 cd12 ct12 : Value}
    {f13 : Addr} {od13 an13 : Option Addr} {sl13 : Array (Option Value)} {oc13 kV13 dc13 pm13 cd13 ct13 : Value}
    {f14 : Addr} {od14 an14 : Option Addr} {sl14 : Array (Option Value)} {oc14 kV14 dc14 pm14 cd14 ct14 : Value}
    {f15 : Addr} {od15 an15 : Option Addr} {sl15 : Array (Option Value)} {oc15 kV15 dc15 pm15 cd15 ct15 : Value}
    {f16 : Addr} {od16 an16 : Option Addr} {sl16 : Array (Option Value)} {oc16 kV16 dc16 pm16 cd16 ct16 : Value}
    {f17 : Addr} {od17 an17 : Option Addr} {sl17 : Array (Option Value)} {oc17 kV17 dc17 pm17 cd17 ct17 : Value}
    {f18 : Addr} {od18 an18 : Option Addr} {sl18 : Array (Option Value)} {oc18 kV18 dc18 pm18 cd18 ct18 : Value}
    {f19 : Addr} {od19 an19 : Option Addr} {sl19 : Array (Option Value)} {oc19 kV19 dc19 pm19 cd19 ct19 : Value}
    {f20 : Addr} {od20 an20 : Option Addr} {sl20 : Array (Option Value)} {oc20 kV20 dc20 pm20 cd20 ct20 : Value}
    {f21 : Addr} {od21 an21 : Option Addr} {sl21 : Array (Option Value)} {oc21 kV21 dc21 pm21 cd21 ct21 : Value}
    (a0 : PySem.W.nsIn K mainGlobals "is_integer" = some (some (.ref f0))) (l0 : K.lookup f0 = some ⟨oc0, od0, .func (PySem.W.fnOf "is_integer" "is_integer" (defArgs sis_integer) (defBody sis_integer) (defScope sis_integer) .none kV0 dc0 pm0 an0 cd0 ct0), sl0⟩) (c0 : PySem.W.codeIn K cd0 "is_integer" = true) (k0 : PySem.W.keepIn K (.ref f0) = true)
    (a1 : PySem.W.nsIn K mainGlobals "is_row" = some (some (.ref f1))) (l1 : K.lookup f1 = some ⟨oc1, od1, .func (PySem.W.fnOf "is_row" "is_row" (defArgs sis_row) (defBody sis_row) (defScope sis_row) .none kV1 dc1 pm1 an1 cd1 ct1), sl1⟩) (c1 : PySem.W.codeIn K cd1 "is_row" = true) (k1 : PySem.W.keepIn K (.ref f1) = true)
    (a2 : PySem.W.nsIn K mainGlobals "is_step" = some (some (.ref f2))) (l2 : K.lookup f2 = some ⟨oc2, od2, .func (PySem.W.fnOf "is_step" "is_step" (defArgs sis_step) (defBody sis_step) (defScope sis_step) .none kV2 dc2 pm2 an2 cd2 ct2), sl2⟩) (c2 : PySem.W.codeIn K cd2 "is_step" = true) (k2 : PySem.W.keepIn K (.ref f2) = true)
    (a3 : PySem.W.nsIn K mainGlobals "is_rule" = some (some (.ref f3))) (l3 : K.lookup f3 = some ⟨oc3, od3, .func (PySem.W.fnOf "is_rule" "is_rule" (defArgs sis_rule) (defBody sis_rule) (defScope sis_rule) .none kV3 dc3 pm3 an3 cd3 ct3), sl3⟩) (c3 : PySem.W.codeIn K cd3 "is_rule" = true) (k3 : PySem.W.keepIn K (.ref f3) = true)
    (a4 : PySem.W.nsIn K mainGlobals "row_error" = some (some (.ref f4))) (l4 : K.lookup f4 = some ⟨oc4, od4, .func (PySem.W.fnOf "row_error" "row_error" (defArgs srow_error) (defBody srow_error) (defScope srow_error) .none kV4 dc4 pm4 an4 cd4 ct4), sl4⟩) (c4 : PySem.W.codeIn K cd4 "row_error" = true) (k4 : PySem.W.keepIn K (.ref f4) = true)
    (a5 : PySem.W.nsIn K mainGlobals "common_step" = some (some (.ref f5))) (l5 : K.lookup f5 = some ⟨oc5, od5, .func (PySem.W.fnOf "common_step" "common_step" (defArgs scommon_step) (defBody scommon_step) (defScope scommon_step) .none kV5 dc5 pm5 an5 cd5 ct5), sl5⟩) (c5 : PySem.W.codeIn K cd5 "common_step" = true) (k5 : PySem.W.keepIn K (.ref f5) = true)
    (a6 : PySem.W.nsIn K mainGlobals "scale_error" = some (some (.ref f6))) (l6 : K.lookup f6 = some ⟨oc6, od6, .func (PySem.W.fnOf "scale_error" "scale_error" (defArgs sscale_error) (defBody sscale_error) (defScope sscale_error) .none kV6 dc6 pm6 an6 cd6 ct6), sl6⟩) (c6 : PySem.W.codeIn K cd6 "scale_error" = true) (k6 : PySem.W.keepIn K (.ref f6) = true)
    (a7 : PySem.W.nsIn K mainGlobals "fits_rule" = some (some (.ref f7))) (l7 : K.lookup f7 = some ⟨oc7, od7, .func (PySem.W.fnOf "fits_rule" "fits_rule" (defArgs sfits_rule) (defBody sfits_rule) (defScope sfits_rule) .none kV7 dc7 pm7 an7 cd7 ct7), sl7⟩) (c7 : PySem.W.codeIn K cd7 "fits_rule" = true) (k7 : PySem.W.keepIn K (.ref f7) = true)
    (a8 : PySem.W.nsIn K mainGlobals "broken" = some (some (.ref f8))) (l8 : K.lookup f8 = some ⟨oc8, od8, .func (PySem.W.fnOf "broken" "broken" (defArgs sbroken) (defBody sbroken) (defScope sbroken) .none kV8 dc8 pm8 an8 cd8 ct8), sl8⟩) (c8 : PySem.W.codeIn K cd8 "broken" = true) (k8 : PySem.W.keepIn K (.ref f8) = true)
    (a9 : PySem.W.nsIn K mainGlobals "fits" = some (some (.ref f9))) (l9 : K.lookup f9 = some ⟨oc9, od9, .func (PySem.W.fnOf "fits" "fits" (defArgs sfits) (defBody sfits) (defScope sfits) .none kV9 dc9 pm9 an9 cd9 ct9), sl9⟩) (c9 : PySem.W.codeIn K cd9 "fits" = true) (k9 : PySem.W.keepIn K (.ref f9) = true)
    (a10 : PySem.W.nsIn K mainGlobals "power" = some (some (.ref f10))) (l10 : K.lookup f10 = some ⟨oc10, od10, .func (PySem.W.fnOf "power" "power" (defArgs spower) (defBody spower) (defScope spower) .none kV10 dc10 pm10 an10 cd10 ct10), sl10⟩) (c10 : PySem.W.codeIn K cd10 "power" = true) (k10 : PySem.W.keepIn K (.ref f10) = true)
    (a11 : PySem.W.nsIn K mainGlobals "float_scale" = some (some (.ref f11))) (l11 : K.lookup f11 = some ⟨oc11, od11, .func (PySem.W.fnOf "float_scale" "float_scale" (defArgs sfloat_scale) (defBody sfloat_scale) (defScope sfloat_scale) .none kV11 dc11 pm11 an11 cd11 ct11), sl11⟩) (c11 : PySem.W.codeIn K cd11 "float_scale" = true) (k11 : PySem.W.keepIn K (.ref f11) = true)
    (a12 : PySem.W.nsIn K mainGlobals "_law_deck" = some (some (.ref f12))) (l12 : K.lookup f12 = some ⟨oc12, od12, .func (PySem.W.fnOf "_law_deck" "_law_deck" (defArgs s_law_deck) (defBody s_law_deck) (defScope s_law_deck) .none kV12 dc12 pm12 an12 cd12 ct12), sl12⟩) (c12 : PySem.W.codeIn K cd12 "_law_deck" = true) (k12 : PySem.W.keepIn K (.ref f12) = true)
    (a13 : PySem.W.nsIn K mainGlobals "_law_draw" = some (some (.ref f13))) (l13 : K.lookup f13 = some ⟨oc13, od13, .func (PySem.W.fnOf "_law_draw" "_law_draw" (defArgs s_law_draw) (defBody s_law_draw) (defScope s_law_draw) .none kV13 dc13 pm13 an13 cd13 ct13), sl13⟩) (c13 : PySem.W.codeIn K cd13 "_law_draw" = true) (k13 : PySem.W.keepIn K (.ref f13) = true)
    (a14 : PySem.W.nsIn K mainGlobals "_law_pick" = some (some (.ref f14))) (l14 : K.lookup f14 = some ⟨oc14, od14, .func (PySem.W.fnOf "_law_pick" "_law_pick" (defArgs s_law_pick) (defBody s_law_pick) (defScope s_law_pick) .none kV14 dc14 pm14 an14 cd14 ct14), sl14⟩) (c14 : PySem.W.codeIn K cd14 "_law_pick" = true) (k14 : PySem.W.keepIn K (.ref f14) = true)
    (a15 : PySem.W.nsIn K mainGlobals "_law_raised" = some (some (.ref f15))) (l15 : K.lookup f15 = some ⟨oc15, od15, .func (PySem.W.fnOf "_law_raised" "_law_raised" (defArgs s_law_raised) (defBody s_law_raised) (defScope s_law_raised) .none kV15 dc15 pm15 an15 cd15 ct15), sl15⟩) (c15 : PySem.W.codeIn K cd15 "_law_raised" = true) (k15 : PySem.W.keepIn K (.ref f15) = true)
    (a16 : PySem.W.nsIn K mainGlobals "_law_is_float" = some (some (.ref f16))) (l16 : K.lookup f16 = some ⟨oc16, od16, .func (PySem.W.fnOf "_law_is_float" "_law_is_float" (defArgs s_law_is_float) (defBody s_law_is_float) (defScope s_law_is_float) .none kV16 dc16 pm16 an16 cd16 ct16), sl16⟩) (c16 : PySem.W.codeIn K cd16 "_law_is_float" = true) (k16 : PySem.W.keepIn K (.ref f16) = true)
    (a17 : PySem.W.nsIn K mainGlobals "_law_seen" = some (some (.ref f17))) (l17 : K.lookup f17 = some ⟨oc17, od17, .func (PySem.W.fnOf "_law_seen" "_law_seen" (defArgs s_law_seen) (defBody s_law_seen) (defScope s_law_seen) .none kV17 dc17 pm17 an17 cd17 ct17), sl17⟩) (c17 : PySem.W.codeIn K cd17 "_law_seen" = true) (k17 : PySem.W.keepIn K (.ref f17) = true)
    (a18 : PySem.W.nsIn K mainGlobals "_law_due" = some (some (.ref f18))) (l18 : K.lookup f18 = some ⟨oc18, od18, .func (PySem.W.fnOf "_law_due" "_law_due" (defArgs s_law_due) (defBody s_law_due) (defScope s_law_due) .none kV18 dc18 pm18 an18 cd18 ct18), sl18⟩) (c18 : PySem.W.codeIn K cd18 "_law_due" = true) (k18 : PySem.W.keepIn K (.ref f18) = true)
    (a19 : PySem.W.nsIn K mainGlobals "_law_numbers" = some (some (.ref f19))) (l19 : K.lookup f19 = some ⟨oc19, od19, .func (PySem.W.fnOf "_law_numbers" "_law_numbers" (defArgs s_law_numbers) (defBody s_law_numbers) (defScope s_law_numbers) .none kV19 dc19 pm19 an19 cd19 ct19), sl19⟩) (c19 : PySem.W.codeIn K cd19 "_law_numbers" = true) (k19 : PySem.W.keepIn K (.ref f19) = true)
    (a20 : PySem.W.nsIn K mainGlobals "_law_bounded" = some (some (.ref f20))) (l20 : K.lookup f20 = some ⟨oc20, od20, .func (PySem.W.fnOf "_law_bounded" "_law_bounded" (defArgs s_law_bounded) (defBody s_law_bounded) (defScope s_law_bounded) .none kV20 dc20 pm20 an20 cd20 ct20), sl20⟩) (c20 : PySem.W.codeIn K cd20 "_law_bounded" = true) (k20 : PySem.W.keepIn K (.ref f20) = true)
    (a21 : PySem.W.nsIn K mainGlobals "law" = some (some (.ref f21))) (l21 : K.lookup f21 = some ⟨oc21, od21, .func (PySem.W.fnOf "law" "law" (defArgs slaw) (defBody slaw) (defScope slaw) .none kV21 dc21 pm21 an21 cd21 ct21), sl21⟩) (c21 : PySem.W.codeIn K cd21 "law" = true) (k21 : PySem.W.keepIn K (.ref f21) = true)
    {tMAX_NUMBER : Tok} (gMAX_NUMBER : PySem.W.nsIn K mainGlobals "MAX_NUMBER" = some (some (.int (1000000000000000000000000000000000000000000000000000000000000) tMAX_NUMBER)))
    {tMAX_RULES : Tok} (gMAX_RULES : PySem.W.nsIn K mainGlobals "MAX_RULES" = some (some (.int (40) tMAX_RULES)))
    {tMAX_STEP : Tok} (gMAX_STEP : PySem.W.nsIn K mainGlobals "MAX_STEP" = some (some (.int (1000000000000000000000000000000000000000000000000000000000000) tMAX_STEP)))
    {CU CE : Addr}
    (glcm : PySem.W.nsIn K mainGlobals "lcm" = some (some (.builtin "math.lcm")))
    (u1 : PySem.W.nsIn K mainGlobals "Unfit" = some (some (.ref CU)))
    (u2 : PySem.W.nsIn K mainGlobals "ExactError" = some (some (.ref CE)))
    (u3 : PySem.W.excIn K CU [.type "ValueError", .type "Exception", .type "BaseException", .type "object"] "ValueError.__new__" = true)
    (u4 : PySem.W.keepIn K (.ref CU) = true)
    (u5 : PySem.W.subIn K (.ref CU) (.type "BaseException") = some true)
    (u6 : PySem.W.typeIn K (.ref CU) = some (.type "type"))
    (u7 : PySem.W.isClsIn K CU = true)
    (u8 : PySem.W.subIn K (.ref CU) (.ref CU) = some true)
    (u9 : PySem.W.hasDictIn K CU = true)
    (v1 : PySem.W.findIn K (.ref CU) "__getattribute__" = some (some (.builtin "BaseException.__getattribute__")))
    (v2 : PySem.W.findIn K (.ref CU) "__getattr__" = some none)
    (v3 : PySem.W.findIn K (.ref CU) "__class__" = some (some (.builtin "object.__class__")))
    (v4 : PySem.W.specialIn K (.builtin "object.__class__") "__get__" = some (some (.builtin "getset_descriptor.__get__")))
    (v5 : PySem.W.takesIn K (.builtin "object.__class__") = some true)
    (v6 : PySem.W.mroIn K CU (.type "object") = some true)
    (v7 : PySem.W.isClsIn K CE = true)
    (v8 : PySem.W.typeIn K (.ref CE) = some (.type "type"))
    (v9 : PySem.W.subIn K (.ref CU) (.ref CE) = some true)
    (hz : ∀ x : Str, bnames.contains x = true → PySem.W.nsIn K mainGlobals x = some none) :
    ∃ fd : FuncData, (∀ (s : Shared) (v : Value), BindsTo s fd ⟨[v], []⟩ [("script", v)]) ∧ ∀ base : Heap, K.In base → base.Ns mainGlobals mg → FnG l.prog w K mg base 8 fa fd ["script"] (splaw K) := by
  have e := hfa.symm.trans (PySem.W.mg_of X G a21)
  cases e
  have U : UnfitC K mg CU CE := ⟨PySem.W.mg_of X G u1, PySem.W.mg_of X G u2, u3, u4, u5, u6, exm_self u5 u7 u6 u8, ⟨v1, v2, u5, u9, v3, v4, v5, v6⟩, kit_own v7 v8 v9⟩
  have nb : NB mg bnames := fun x hx => PySem.W.mg_none_of X G (hz x hx)
  have F0 := fun_mk (st := sis_integer) l0 c0 k0
  have b0 := F0.binds (ps := ["value"]) fun _ _ _ _ _ _ us hl => match us, hl with | [_], _ => rfl
  have F1 := fun_mk (st := sis_row) l1 c1 k1
  have b1 := F1.binds (ps := ["value", "many"]) fun _ _ _ _ _ _ us hl => match us, hl with | [_, _], _ => rfl
  have F2 := fun_mk (st := sis_step) l2 c2 k2
  have b2 := F2.binds (ps := ["value"]) fun _ _ _ _ _ _ us hl => match us, hl with | [_], _ => rfl
  have F3 := fun_mk (st := sis_rule) l3 c3 k3
  have b3 := F3.binds (ps := ["value"]) fun _ _ _ _ _ _ us hl => match us, hl with | [_], _ => rfl
  have F4 := fun_mk (st := srow_error) l4 c4 k4
  have b4 := F4.binds (ps := ["value", "most", "word", "is_right"]) fun _ _ _ _ _ _ us hl => match us, hl with | [_, _, _, _], _ => rfl
  have F5 := fun_mk (st := scommon_step) l5 c5 k5
  have b5 := F5.binds (ps := ["rules"]) fun _ _ _ _ _ _ us hl => match us, hl with | [_], _ => rfl
  have F6 := fun_mk (st := sscale_error) l6 c6 k6
  have b6 := F6.binds (ps := ["value"]) fun _ _ _ _ _ _ us hl => match us, hl with | [_], _ => rfl
  have F7 := fun_mk (st := sfits_rule) l7 c7 k7
  have b7 := F7.binds (ps := ["rule", "number"]) fun _ _ _ _ _ _ us hl => match us, hl with | [_, _], _ => rfl
  have F8 := fun_mk (st := sbroken) l8 c8 k8
  have b8 := F8.binds (ps := ["scale", "number"]) fun _ _ _ _ _ _ us hl => match us, hl with | [_, _], _ => rfl
  have F9 := fun_mk (st := sfits) l9 c9 k9
  have b9 := F9.binds (ps := ["scale", "number"]) fun _ _ _ _ _ _ us hl => match us, hl with | [_, _], _ => rfl
  have F10 := fun_mk (st := spower) l10 c10 k10
  have b10 := F10.binds (ps := ["base", "exponent"]) fun _ _ _ _ _ _ us hl => match us, hl with | [_, _], _ => rfl
  have F11 := fun_mk (st := sfloat_scale) l11 c11 k11
  have b11 := F11.binds (ps := ["base", "figures", "levels"]) fun _ _ _ _ _ _ us hl => match us, hl with | [_, _, _], _ => rfl
  have F12 := fun_mk (st := s_law_deck) l12 c12 k12
  have b12 := F12.binds (ps := ["script"]) fun _ _ _ _ _ _ us hl => match us, hl with | [_], _ => rfl
  have F13 := fun_mk (st := s_law_draw) l13 c13 k13
  have b13 := F13.binds (ps := ["deck", "many"]) fun _ _ _ _ _ _ us hl => match us, hl with | [_, _], _ => rfl
  have F14 := fun_mk (st := s_law_pick) l14 c14 k14
  have b14 := F14.binds (ps := ["deck", "items"]) fun _ _ _ _ _ _ us hl => match us, hl with | [_, _], _ => rfl
  have F15 := fun_mk (st := s_law_raised) l15 c15 k15
  have b15 := F15.binds (ps := ["base", "times"]) fun _ _ _ _ _ _ us hl => match us, hl with | [_, _], _ => rfl
  have F16 := fun_mk (st := s_law_is_float) l16 c16 k16
  have b16 := F16.binds (ps := ["base", "figures", "levels", "number"]) fun _ _ _ _ _ _ us hl => match us, hl with | [_, _, _, _], _ => rfl
  have F17 := fun_mk (st := s_law_seen) l17 c17 k17
  have b17 := F17.binds (ps := ["base", "figures", "levels", "is_named"]) fun _ _ _ _ _ _ us hl => match us, hl with | [_, _, _, _], _ => rfl
  have F18 := fun_mk (st := s_law_due) l18 c18 k18
  have b18 := F18.binds (ps := ["base", "figures", "levels"]) fun _ _ _ _ _ _ us hl => match us, hl with | [_, _, _], _ => rfl
  have F19 := fun_mk (st := s_law_numbers) l19 c19 k19
  have b19 := F19.binds (ps := ["deck", "base", "figures", "levels"]) fun _ _ _ _ _ _ us hl => match us, hl with | [_, _, _, _], _ => rfl
  have F20 := fun_mk (st := s_law_bounded) l20 c20 k20
  have b20 := F20.binds (ps := ["deck", "base"]) fun _ _ _ _ _ _ us hl => match us, hl with | [_, _], _ => rfl
  have F21 := fun_mk (st := slaw) l21 c21 k21
  refine ⟨PySem.W.fnOf "law" "law" (defArgs slaw) (defBody slaw) (defScope slaw) .none kV21 dc21 pm21 an21 cd21 ct21, fun s v => .of_eq rfl, fun base _ _ => ?_⟩
  have D_law_draw : Fd l.prog w K mg base "_law_draw" 1 ["deck", "many"] (sp_law_draw K) := .mk' F13 (ok_law_draw F13 nb    ) (PySem.W.mg_of X G a13) b13
  have D_law_pick : Fd l.prog w K mg base "_law_pick" 2 ["deck", "items"] (sp_law_pick K) := .mk' F14 (ok_law_pick F14 nb D_law_draw   ) (PySem.W.mg_of X G a14) b14
  have D_law_bounded : Fd l.prog w K mg base "_law_bounded" 3 ["deck", "base"] (sp_law_bounded K) := .mk' F20 (ok_law_bounded F20 nb D_law_draw D_law_pick   ) (PySem.W.mg_of X G a20) b20
  have D_law_deck : Fd l.prog w K mg base "_law_deck" 1 ["script"] (sp_law_deck K) := .mk' F12 (ok_law_deck F12 nb    ) (PySem.W.mg_of X G a12) b12
  have D_law_raised : Fd l.prog w K mg base "_law_raised" 1 ["base", "times"] (sp_law_raised K) := .mk' F15 (ok_law_raised F15 nb    ) (PySem.W.mg_of X G a15) b15
  have D_law_due : Fd l.prog w K mg base "_law_due" 2 ["base", "figures", "levels"] (sp_law_due K) := .mk' F18 (ok_law_due F18 nb D_law_raised   ) (PySem.W.mg_of X G a18) b18
  have D_law_is_float : Fd l.prog w K mg base "_law_is_float" 2 ["base", "figures", "levels", "number"] (sp_law_is_float K) := .mk' F16 (ok_law_is_float F16 nb D_law_raised   ) (PySem.W.mg_of X G a16) b16
  have D_law_numbers : Fd l.prog w K mg base "_law_numbers" 3 ["deck", "base", "figures", "levels"] (sp_law_numbers K) := .mk' F19 (ok_law_numbers F19 nb D_law_draw D_law_pick D_law_raised   ) (PySem.W.mg_of X G a19) b19
  have Dpower : Fd l.prog w K mg base "power" 1 ["base", "exponent"] (sppower K) := .mk' F10 (okpower F10 nb    ) (PySem.W.mg_of X G a10) b10
  have Dcommon_step : Fd l.prog w K mg base "common_step" 1 ["rules"] (spcommon_step K) := .mk' F5 (okcommon_step F5 nb    (PySem.W.mg_of X G glcm)) (PySem.W.mg_of X G a5) b5
  have Dis_integer : Fd l.prog w K mg base "is_integer" 1 ["value"] (spis_integer K) := .mk' F0 (okis_integer F0 nb    ) (PySem.W.mg_of X G a0) b0
  have Dis_row : Fd l.prog w K mg base "is_row" 1 ["value", "many"] (spis_row K) := .mk' F1 (okis_row F1 nb    ) (PySem.W.mg_of X G a1) b1
  have Dis_step : Fd l.prog w K mg base "is_step" 2 ["value"] (spis_step K) := .mk' F2 (okis_step F2 nb Dis_integer  ⟨_, PySem.W.mg_of X G gMAX_STEP⟩ ) (PySem.W.mg_of X G a2) b2
  have Dis_rule : Fd l.prog w K mg base "is_rule" 3 ["value"] (spis_rule K) := .mk' F3 (okis_rule F3 nb Dis_integer Dis_row Dis_step  ⟨_, PySem.W.mg_of X G gMAX_NUMBER⟩ ) (PySem.W.mg_of X G a3) b3
  have Drow_error : Fd l.prog w K mg base "row_error" 4 ["value", "most", "word", "is_right"] (sprow_error K mg) := .mk' F4 (okrow_error F4 nb Dis_rule   ) (PySem.W.mg_of X G a4) b4
  have Dscale_error : Fd l.prog w K mg base "scale_error" 5 ["value"] (spscale_error K) := .mk' F6 (okscale_error F6 nb Dcommon_step Dis_rule Drow_error  ⟨_, PySem.W.mg_of X G gMAX_RULES⟩ ⟨_, PySem.W.mg_of X G gMAX_STEP⟩ ) (PySem.W.mg_of X G a6) b6
  have Dfloat_scale : FdX l.prog w K mg base "float_scale" 6 ["base", "figures", "levels"] (spfloat_scale K mg) := .mk' F11 (okfloat_scale F11 nb Dpower Dscale_error   U) (PySem.W.mg_of X G a11) b11
  have Efloat_scale : FkX l.prog w K mg base "float_scale" 6 ["base", "figures", "levels"] ["levels", "figures", "base"] (fun zs => zs.reverse) (spfloat_scale K mg) := ⟨_, _, _, okfloat_scale F11 nb Dpower Dscale_error   U, PySem.W.mg_of X G a11, F11.kp, F11.kb fun _ _ _ _ _ _ us hl => match us, hl with | [_, _, _], _ => rfl⟩
  have D_law_seen : Fd l.prog w K mg base "_law_seen" 7 ["base", "figures", "levels", "is_named"] (sp_law_seen K) := .mk' F17 (ok_law_seen F17 nb Dfloat_scale Efloat_scale  U) (PySem.W.mg_of X G a17) b17
  have Dfits_rule : Fd l.prog w K mg base "fits_rule" 1 ["rule", "number"] (spfits_rule K) := .mk' F7 (okfits_rule F7 nb    ) (PySem.W.mg_of X G a7) b7
  have Dbroken : Fd l.prog w K mg base "broken" 2 ["scale", "number"] (spbroken K) := .mk' F8 (okbroken F8 nb Dfits_rule   ) (PySem.W.mg_of X G a8) b8
  have Dfits : Fd l.prog w K mg base "fits" 3 ["scale", "number"] (spfits K) := .mk' F9 (okfits F9 nb Dbroken   ) (PySem.W.mg_of X G a9) b9
  exact oklaw F21 nb D_law_bounded D_law_deck D_law_draw D_law_due D_law_is_float D_law_numbers D_law_pick D_law_seen Dfits Dscale_error   
end K05
open PySem PySem.W PyProof.Rows
set_option maxRecDepth 100000 in
set_option maxHeartbeats 0 in
theorem PySem.Challenge.cw_everyexact_k05_whole_scales_of_floats_holds : PySem.Challenge.rw_everyexact_k05_whole_scales_of_floats.Holds := by
  w_on; o_law; k_head; (case hw => w_witness2)
  k_fill
  refine EE.walk_ofG (l := PySem.Challenge.rw_everyexact_k05_whole_scales_of_floats) (n := 63) (k := 8) (x := "script") (sp := K05.splaw) rfl (by decide) rfl ⟨rfl, by decide, by decide⟩ (fun w h Y => PySem.W.kIn_of Y) ?F (fun K H a ns hl _ hS => ⟨a, ns, rfl, hS, hl, fun _ => rfl⟩)
  case F =>
    intro w mg fa h KX G hmg
    refine' K05.all_mk KX G hmg ?a0 ?l0 ?c0 ?k0 ?a1 ?l1 ?c1 ?k1 ?a2 ?l2 ?c2 ?k2 ?a3 ?l3 ?c3 ?k3 ?a4 ?l4 ?c4 ?k4 ?a5 ?l5 ?c5 ?k5 ?a6 ?l6 ?c6 ?k6 ?a7 ?l7 ?c7 ?k7 ?a8 ?l8 ?c8 ?k8 ?a9 ?l9 ?c9 ?k9 ?a10 ?l10 ?c10 ?k10 ?a11 ?l11 ?c11 ?k11 ?a12 ?l12 ?c12 ?k12 ?a13 ?l13 ?c13 ?k13 ?a14 ?l14 ?c14 ?k14 ?a15 ?l15 ?c15 ?k15 ?a16 ?l16 ?c16 ?k16 ?a17 ?l17 ?c17 ?k17 ?a18 ?l18 ?c18 ?k18 ?a19 ?l19 ?c19 ?k19 ?a20 ?l20 ?c20 ?k20 ?a21 ?l21 ?c21 ?k21 ?gMAX_NUMBER ?gMAX_RULES ?gMAX_STEP ?glcm ?u1 ?u2 ?u3 ?u4 ?u5 ?u6 ?u7 ?u8 ?u9 ?v1 ?v2 ?v3 ?v4 ?v5 ?v6 ?v7 ?v8 ?v9 ?hz
    (case a0 => k_is); (case l0 => k_is); (case c0 => k_is); (case k0 => k_is)
    (case a1 => k_is); (case l1 => k_is); (case c1 => k_is); (case k1 => k_is)
    (case a2 => k_is); (case l2 => k_is); (case c2 => k_is); (case k2 => k_is)
    (case a3 => k_is); (case l3 => k_is); (case c3 => k_is); (case k3 => k_is)
    (case a4 => k_is); (case l4 => k_is); (case c4 => k_is); (case k4 => k_is)
    (case a5 => k_is); (case l5 => k_is); (case c5 => k_is); (case k5 => k_is)
    (case a6 => k_is); (case l6 => k_is); (case c6 => k_is); (case k6 => k_is)
    (case a7 => k_is); (case l7 => k_is); (case c7 => k_is); (case k7 => k_is)
    (case a8 => k_is); (case l8 => k_is); (case c8 => k_is); (case k8 => k_is)
    (case a9 => k_is); (case l9 => k_is); (case c9 => k_is); (case k9 => k_is)
    (case a10 => k_is); (case l10 => k_is); (case c10 => k_is); (case k10 => k_is)
    (case a11 => k_is); (case l11 => k_is); (case c11 => k_is); (case k11 => k_is)
    (case a12 => k_is); (case l12 => k_is); (case c12 => k_is); (case k12 => k_is)
    (case a13 => k_is); (case l13 => k_is); (case c13 => k_is); (case k13 => k_is)
    (case a14 => k_is); (case l14 => k_is); (case c14 => k_is); (case k14 => k_is)
    (case a15 => k_is); (case l15 => k_is); (case c15 => k_is); (case k15 => k_is)
    (case a16 => k_is); (case l16 => k_is); (case c16 => k_is); (case k16 => k_is)
    (case a17 => k_is); (case l17 => k_is); (case c17 => k_is); (case k17 => k_is)
    (case a18 => k_is); (case l18 => k_is); (case c18 => k_is); (case k18 => k_is)
    (case a19 => k_is); (case l19 => k_is); (case c19 => k_is); (case k19 => k_is)
    (case a20 => k_is); (case l20 => k_is); (case c20 => k_is); (case k20 => k_is)
    (case a21 => k_is); (case l21 => k_is); (case c21 => k_is); (case k21 => k_is)
    (case gMAX_NUMBER => k_is)
    (case gMAX_RULES => k_is)
    (case gMAX_STEP => k_is)
    (case glcm => k_is)
    (case u1 => k_is)
    (case u2 => k_is)
    (case u3 => k_exc)
    (case u4 => k_is)
    (case u5 => k_is)
    (case u6 => k_is)
    (case u7 => k_is)
    (case u8 => first | rfl | k_is)
    (case u9 => k_is)
    (case v1 => k_is)
    (case v2 => k_is)
    (case v3 => k_is)
    (case v4 => k_is)
    (case v5 => k_is)
    (case v6 => k_is)
    (case v7 => k_is)
    (case v8 => k_is)
    (case v9 => k_is)
    case hz =>
      intro x hx
      simp only [EE.bnames, List.contains_cons, List.contains_nil, Bool.or_false, Bool.or_eq_true, beq_iff_eq] at hx
      rcases hx with rfl | rfl | rfl | rfl | rfl | rfl | rfl | rfl | rfl | rfl | rfl | rfl | rfl | rfl | rfl | rfl | rfl | rfl | rfl | rfl <;> k_is
