import PyProof.Rows.All
import Wide.All
import OpenK.AllK
import Wide.FinOn
import HandS.ForMost
import HandS.Wide
import HandS.TupAny
import HandS.Style
import HandS.Walk
import HandS.Flow
import HandS.Zip
import HandS.IsInst
import KE.GoesEnum
import HandS.WideBits
import HandS.More
import HandS.Evl
import PyProof.ReprLen
import PyProof.Rows.StrJoinMade
import PySem.Challenge.RW_everyexact_k02_whole_what_fits
set_option Elab.async false
set_option linter.all false
set_option maxRecDepth 100000
set_option maxHeartbeats 8000000
namespace EE
open PySem PySem.Spec PyProof.Rows L2

/-! ### data in the heap -/
theorem Same.sqT {K : PySem.W.Frag} {H H' : Hp} {a : Addr} {xs : List V} (e : Same H H') (h : SqT K H a xs) : SqT K H' a xs := by
  rcases h with (h | ⟨o, h⟩) | h
  · exact Or.inl (Or.inl (e a _ h))
  · exact Or.inl (Or.inr ⟨o, e a _ h⟩)
  · exact Or.inr h
mutual
theorem dp_up {K : PySem.W.Frag} {H H' : Hp} (e : Same H H') : ∀ {d : PyData} {v : V}, Dp K H v d → Dp K H' v d
  | .none, _, h => by cases h; exact .non
  | .bool b, _, h => by cases h; exact .bl b
  | .int i, _, h => by cases h; exact .int i
  | .str x, _, h => by cases h; exact .str x
  | .list ds, _, h => by
    cases h with
    | lst hs ha => exact .lst (e.seq hs) (dps_up e ha)
  | .tuple ds, _, h => by
    cases h with
    | tup hs ha => exact .tup (Same.sqT e hs) (dps_up e ha)
  | .dict _, _, h => by cases h
theorem dps_up {K : PySem.W.Frag} {H H' : Hp} (e : Same H H') : ∀ {ds : List PyData} {vs : List V}, DpAll K H vs ds → DpAll K H' vs ds
  | [], _, h => by cases h; exact .nil
  | d :: ds, _, h => by
    cases h with
    | cons h1 h2 => exact .cons (dp_up e h1) (dps_up e h2)
end
theorem dps_len {K : PySem.W.Frag} {H : Hp} : ∀ {ds : List PyData} {vs : List V}, DpAll K H vs ds → vs.length = ds.length
  | [], _, h => by cases h; rfl
  | d :: ds, _, h => by
    cases h with
    | cons h1 h2 => rw [List.length_cons, List.length_cons, dps_len h2]
theorem dps_at {K : PySem.W.Frag} {H : Hp} : ∀ {ds : List PyData} {vs : List V} {i : Nat} {d : PyData}, DpAll K H vs ds → ds[i]? = some d → ∃ v, vs[i]? = some v ∧ Dp K H v d
  | [], _, i, _, h, e => by simp at e
  | d :: ds, _, 0, d', h, e => by
    cases h with
    | cons h1 h2 =>
      have : d = d' := by simpa using e
      subst this
      exact ⟨_, rfl, h1⟩
  | d :: ds, _, i + 1, d', h, e => by
    cases h with
    | cons h1 h2 =>
      obtain ⟨v, h3, h4⟩ := dps_at (i := i) (d := d') h2 (by simpa using e)
      exact ⟨v, by simpa using h3, h4⟩
theorem dps_at' {K : PySem.W.Frag} {H : Hp} {ds : List PyData} {vs : List V} {i : Nat} {v : V} (h : DpAll K H vs ds) (e : vs[i]? = some v) : ∃ d, ds[i]? = some d ∧ Dp K H v d := by
  have hl := dps_len h
  obtain ⟨hi, _⟩ := List.getElem?_eq_some_iff.mp e
  have hd : ds[i]? = some (ds[i]'(by omega)) := List.getElem?_eq_getElem _
  obtain ⟨v', h1, h2⟩ := dps_at h hd
  rw [e] at h1
  cases h1
  exact ⟨_, hd, h2⟩
theorem dps_app {K : PySem.W.Frag} {H : Hp} : ∀ {ds es : List PyData} {vs us : List V}, DpAll K H vs ds → DpAll K H us es → DpAll K H (vs ++ us) (ds ++ es)
  | [], _, _, _, h, k => by cases h; exact k
  | d :: ds, _, _, _, h, k => by
    cases h with
    | cons h1 h2 => exact .cons h1 (dps_app h2 k)
theorem dps_erase {K : PySem.W.Frag} {H : Hp} : ∀ {ds : List PyData} {vs : List V} (i : Nat), DpAll K H vs ds → DpAll K H (vs.eraseIdx i) (ds.eraseIdx i)
  | [], _, _, h => by cases h; exact .nil
  | d :: ds, _, 0, h => by
    cases h with
    | cons h1 h2 => exact h2
  | d :: ds, _, i + 1, h => by
    cases h with
    | cons h1 h2 => exact .cons h1 (dps_erase i h2)
theorem dps_set {K : PySem.W.Frag} {H : Hp} {w : V} {e : PyData} (k : Dp K H w e) : ∀ {ds : List PyData} {vs : List V} (i : Nat), DpAll K H vs ds → DpAll K H (vs.set i w) (ds.set i e)
  | [], _, _, h => by cases h; exact .nil
  | d :: ds, _, 0, h => by
    cases h with
    | cons h1 h2 => exact .cons k h2
  | d :: ds, _, i + 1, h => by
    cases h with
    | cons h1 h2 => exact .cons h1 (dps_set k i h2)
theorem dps_take {K : PySem.W.Frag} {H : Hp} : ∀ {ds : List PyData} {vs : List V} (i : Nat), DpAll K H vs ds → DpAll K H (vs.take i) (ds.take i)
  | _, _, 0, h => .nil
  | [], _, _ + 1, h => by cases h; exact .nil
  | d :: ds, _, i + 1, h => by
    cases h with
    | cons h1 h2 => exact .cons h1 (dps_take i h2)
theorem dps_drop {K : PySem.W.Frag} {H : Hp} : ∀ {ds : List PyData} {vs : List V} (i : Nat), DpAll K H vs ds → DpAll K H (vs.drop i) (ds.drop i)
  | _, _, 0, h => h
  | [], _, _ + 1, h => by cases h; exact .nil
  | d :: ds, _, i + 1, h => by
    cases h with
    | cons h1 h2 => exact dps_drop i h2
theorem dps_ints {K : PySem.W.Frag} {H : Hp} : ∀ {ns : List Int} {vs : List V}, DpAll K H vs (ns.map PyData.int) → vs = ns.map V.int
  | [], _, h => by cases h; rfl
  | n :: ns, _, h => by
    cases h with
    | cons h1 h2 =>
      cases h1
      rw [dps_ints h2]
      rfl
theorem dps_of_ints {K : PySem.W.Frag} {H : Hp} : ∀ (ns : List Int), DpAll K H (ns.map V.int) (ns.map PyData.int)
  | [] => .nil
  | n :: ns => .cons (.int n) (dps_of_ints ns)
theorem dps_bls {K : PySem.W.Frag} {H : Hp} : ∀ {ns : List Bool} {vs : List V}, DpAll K H vs (ns.map PyData.bool) → vs = ns.map V.bl
  | [], _, h => by cases h; rfl
  | n :: ns, _, h => by
    cases h with
    | cons h1 h2 =>
      cases h1
      rw [dps_bls h2]
      rfl

/-! ### repr of data -/
def rRepr (K : PySem.W.Frag) : List V → Hp → VK → Prop := fun vs H Q => ∃ a d, vs = [.ref a] ∧ Dp K H (.ref a) d ∧ d.showable = true ∧ d.depth ≤ 60 ∧ d.shown.length ≤ sizeLine ∧ Q (.str d.shown) H
mutual
theorem dp_noDict {K : PySem.W.Frag} {H : Hp} : ∀ {d : PyData} {v : V}, Dp K H v d → d.hasDict = false
  | .none, _, _ => by simp only [PyData.hasDict]
  | .bool _, _, _ => by simp only [PyData.hasDict]
  | .int _, _, _ => by simp only [PyData.hasDict]
  | .str _, _, _ => by simp only [PyData.hasDict]
  | .list ds, _, h => by
    cases h with
    | lst _ ha => simp only [PyData.hasDict]; exact dps_noDict ha
  | .tuple ds, _, h => by
    cases h with
    | tup _ ha => simp only [PyData.hasDict]; exact dps_noDict ha
  | .dict _, _, h => by cases h
theorem dps_noDict {K : PySem.W.Frag} {H : Hp} : ∀ {ds : List PyData} {vs : List V}, DpAll K H vs ds → PyData.hasDictAll ds = false
  | [], _, _ => by simp only [PyData.hasDictAll]
  | d :: ds, _, h => by
    cases h with
    | cons h1 h2 => simp only [PyData.hasDictAll, dp_noDict h1, dps_noDict h2, Bool.or_false]
end

section
variable {X : Cx}
theorem call_repr (hg : X.A.guards = some []) (hu : X.A.units + 64 < cLine) : CallR X (.builtin "repr") (rRepr X.K) := by
  intro pins s σ H xs us Q I r h
  obtain ⟨a, d, rfl, hd, hs, hdp, hz, q⟩ := h
  obtain ⟨u, rfl, ru⟩ := vals1 r
  obtain ⟨as, rd⟩ := Dp.reads I d (.ref a) u hd ru
  cases ru
  exact repr_of_reads' rd hs (PyData.noDict_hsm (dp_noDict hd)) hg (by omega) (fun _ _ e => e) (fun h' u tk k => ⟨.str d.shown, H, I.kept k, ⟨_, rfl⟩, q⟩) hz
/-! ### enumerate of a tuple -/
theorem meets_enumNew1 {v : Value} {o : Obj} {G : Heap → Prop} (B : Begins v o G) :
    Meets (Builtin.«enumerate.__new__» ⟨[.type "enumerate", v], []⟩) (fun _ R s => G s.heap ∧
      R (.ok (.ret (.ref (s.heap.push o).objs.size)))
        { s with heap := (s.heap.push o).push { cls := .type "enumerate", data := .fields #[.none, .bool false, .ref s.heap.objs.size, rawInt 0, .none, .none] } }) :=
  .of_wp fun prog w A R s h => by
    obtain ⟨hp, g, d, tk, os⟩ := s
    obtain ⟨g1, h⟩ := h
    have sub := sub_enumerate
    have its : ∀ {A' : Around} {E : Value → Shared → Prop} {Q : Value → Shared → Prop}, Q (.ref hp.objs.size) ⟨hp.push o, g, d, tk, os⟩ → wpAny (model prog w) A' (pyIter v) Q E ⟨hp, g, d, tk, os⟩ :=
      fun {A' E Q} q => B.iter prog w A' E ⟨hp, g, d, tk, os⟩ Q g1 q
    wp_walk using its
    refine wpAny_stack_any fun st => wpAny_pure ?_
    split
    · rename_i c _ _ _ _ _
      cases (c == Value.type "enumerate") <;> (wp_walk using its; exact ⟨_, rfl, h⟩)
    · wp_walk using its
      exact ⟨_, rfl, h⟩
theorem enum_tuple1 {prog : Program} {w : World} {A : Around} {E : Value → Shared → Prop} {s : Shared} {t : Addr} {items : Array Value} {Q : Value → Shared → Prop} (ht : s.heap.IsTuple t items)
    (h : ∀ h', IsEnum h' (s.heap.objs.size + 1) s.heap.objs.size 0 .none → h'.IsTupleIter s.heap.objs.size t 0 →
      (∀ b o, s.heap.get? b = some o → h'.get? b = some o) → Q (.ref (s.heap.objs.size + 1)) { s with heap := h' }) :
    wpAny (model prog w) A (call (.type "enumerate") [.ref t]) Q E s := by
  have B := begins_tuple t items
  refine callType_new F.called_enumerate (by decide) (F.typeCall_enumerate_1 _) (F.newCall_enumerate_1 _) (fun obj => F.args_object_init_2 obj _) F.entry_enumerate_new (meets_enumNew1 B) ⟨ht, ?_⟩
  generalize ho : ({ cls := .type "tuple_iterator", data := .fields #[.ref t, .int 0 0] } : Obj) = o at B
  have hz : (s.heap.push o).objs.size = s.heap.objs.size + 1 := Heap.size_push ..
  have g2 : ((s.heap.push o).push { cls := .type "enumerate", data := .fields #[.none, .bool false, .ref s.heap.objs.size, rawInt 0, .none, .none] }).get? (s.heap.objs.size + 1)
      = some { cls := .type "enumerate", data := .fields #[.none, .bool false, .ref s.heap.objs.size, rawInt 0, .none, .none] } := by
    rw [← hz]
    exact Heap.get?_push_size _ rfl
  have g1 : ((s.heap.push o).push { cls := .type "enumerate", data := .fields #[.none, .bool false, .ref s.heap.objs.size, rawInt 0, .none, .none] }).get? s.heap.objs.size = some o :=
    Heap.get?_push_of_some _ (Heap.get?_push_size _ B.free)
  show _ ∧ _
  rw [hz]
  subst ho
  exact ⟨⟨_, g2, rfl⟩, h _ g2 ⟨_, g1, rfl, rfl⟩ fun b ob e => Heap.get?_push_of_some _ (Heap.get?_push_of_some _ e)⟩
theorem enumT_end {prog : Program} {w : World} {A : Around} {E : Value → Shared → Prop} {s : Shared} {e it t : Addr} {i : Nat} {items : Array Value} {old : Value} {Q : Option Value → Shared → Prop} (hh : A.handled = none)
    (he : IsEnum s.heap e it ((i : Nat) : Int) old) (hit : s.heap.IsTupleIter it t i) (ht : s.heap.IsTuple t items) (hx : items[i]? = none)
    (h : ∀ h', Heap.ExtBut it s.heap h' → Q none { s with heap := h' }) : wpAny (model prog w) A (pyNext (.ref e)) Q E s := by
  have hT : s.TypeIs (.ref e) "enumerate" := ⟨_, he, rfl⟩
  unfold pyNext
  refine wpAny_bind (wpAny_attempt (wpAny_callSpecial?_slot (name := Str.ofString "__next__") hT F.slot_enumerate_next (wpAny_call_entry F.slot_enumerate_next hT F.entry_enumerate_next ?_ (F.args_enumerate_next_1 _))))
  show wpAny _ _ (field (.ref e) 2 >>= _) _ _ _
  refine wpAny_bind (wpAny_field he rfl (x := .ref it) rfl ?_)
  refine wpAny_bind (wpAny_nextOf_tuple_end (A := A.in1) hh hit ht hx fun h' x he' hx' => ?_)
  obtain ⟨o, ho, hc⟩ := hx'
  exact wpAny_bind (wpAny_isInstance (T := "StopIteration") (b := true) ⟨o, ho, hc⟩ isSubtype_stop (wpAny_pure (h _ he')))
def Itet (K : PySem.W.Frag) (a : Addr) : It where
  go := fun i H => ∃ (xs : List V) (x : V), SqT K H a xs ∧ xs[i]? = some x
  yld := fun i H v H' => ∃ T x, v = .ref T ∧ H T = none ∧ H' = upd H T (.tup [.int (i : Nat), x]) ∧ ∀ xs, SqT K H a xs → xs[i]? = some x
  stop := fun i H => ∃ xs : List V, SqT K H a xs ∧ xs.length ≤ i
theorem turn_enumT {P : Program} {w : World} {K : PySem.W.Frag} {elts : List Expr} {kk : Nat} {tpos : Pos} (a e it : Addr) :
    Turn P w K (.Tuple elts kk tpos) (Itet K a) [e, it] e (fun i h => (∃ old, IsEnum h e it ((i : Nat) : Int) old) ∧ h.IsTupleIter it a i ∧ e ≠ it) where
  mem := List.mem_cons_self ..
  obj := fun i h st b hb => by
    obtain ⟨⟨old, he⟩, ⟨o, ho, hc, hd⟩, _⟩ := st
    simp only [List.mem_cons, List.not_mem_nil, or_false] at hb
    rcases hb with rfl | rfl
    · exact ⟨_, he, fun v q => nomatch q⟩
    · exact ⟨o, ho, fun v q => by rw [hd] at q; cases q⟩
  keep := fun i h h' st k => by
    obtain ⟨⟨old, he⟩, hit, hne⟩ := st
    exact ⟨⟨old, k e (List.mem_cons_self ..) _ he⟩, hit.at fun o q => k it (List.mem_cons_of_mem _ (List.mem_cons_self ..)) o q, hne⟩
  item := by
    intro X hP hw hK hc i pins s σ H E I hf st hg
    subst hP hw hK
    obtain ⟨⟨old, he⟩, hit, hne⟩ := st
    obtain ⟨xs, x, hq, hx⟩ := hg
    obtain ⟨its, rv, p, hz⟩ := I.tuple hq
    have pT : s.heap.IsTuple a its.toArray := p
    have hai : a ≠ it := fun z => by
      obtain ⟨o, ho, hcl, _⟩ := hit
      obtain ⟨o2, ho2, hcl2, _⟩ := p
      rw [z, ho] at ho2
      cases ho2
      rw [hcl] at hcl2
      exact absurd hcl2 (by decide)
    obtain ⟨u, hu, ru⟩ := rv.get hx
    obtain ⟨hi', _⟩ := List.getElem?_eq_some_iff.mp hu
    have D := Draws.tuple (prog := X.prog) (w := X.w) (A := X.A.in1) (I.ok.hd hc) it a hai its.toArray
    have hea : e ≠ a := fun z => by
      obtain ⟨o2, ho2, hcl2, _⟩ := p
      rw [← z, show s.heap.get? e = some _ from he] at ho2
      cases ho2
      have bad : Value.type "enumerate" = Value.type "tuple" := hcl2
      exact absurd bad (by decide)
    have hfp : e ∉ [it, a] := by
      simp only [List.mem_cons, List.not_mem_nil, or_false, not_or]
      exact ⟨hne, hea⟩
    refine wpAny_pyNext_enum_itemD D he ⟨hit, pT⟩ (by simpa using hi') hne hfp fun y h' tk hy ho hst' hT hsz hk => ?_
    have ey : y = u := by
      have : its[i]? = some y := by simpa using hy
      rw [this] at hu
      exact Option.some.inj hu
    subst ey
    refine ⟨_, rfl, wpAny_letOwnedTupleGo_enum (s := { s with heap := h', toks := tk + 1 }) ho fun h2 he2 sb => ?_⟩
    have el : e < s.heap.objs.size := Heap.lt_size he
    have il : it < s.heap.objs.size := by
      obtain ⟨_, q, _⟩ := hit
      exact Heap.lt_size q
    have hT2 : h2.get? s.heap.objs.size = some { cls := .type "tuple", data := .seq #[.int i tk, y] } := (sb.2 _ (Nat.ne_of_gt el)).trans hT
    have new : ObjOk X.prog X.w (upd H s.heap.objs.size (.tup [.int (i : Nat), x])) h2 s.heap.objs.size (.tup [.int (i : Nat), x]) :=
      ⟨by show 2 ≤ sizeLine; decide, _, .cons ⟨tk, rfl⟩ (.cons ru .nil), ⟨_, hT2, rfl, _, rfl⟩⟩
    have I1 := I.turnedNew (h' := h2) (t' := tk + 1) (ch := [e, it]) (fun b ob hb q => by
      simp only [List.mem_cons, List.not_mem_nil, or_false, not_or] at hb
      exact (sb.2 b hb.1).trans (hk b ob hb.1 hb.2 q)) hf (Nat.le_refl _) new
    refine ⟨.ref s.heap.objs.size, _, I1, rfl, ⟨_, x, rfl, I.hok.fresh (Nat.le_refl _), rfl, fun ys hy2 => ?_⟩, ⟨⟨y, ?_⟩, hst'.1.at fun o q => (sb.2 it (Ne.symm hne)).trans q, hne⟩, fun b hb => ?_⟩
    · rw [I.tuple_inj hy2 hq]
      exact hx
    · rw [show ((i + 1 : Nat) : Int) = (i : Int) + 1 by omega]
      exact he2
    · have h0 := (hf b hb).1
      simp only [List.mem_cons, List.not_mem_nil, or_false] at hb
      have nb : b ≠ s.heap.objs.size := by
        rcases hb with z | z
        · rw [z]; exact Nat.ne_of_lt el
        · rw [z]; exact Nat.ne_of_lt il
      rw [upd_ne nb]
      exact h0
  done := by
    intro X hP hw hK hc i pins s σ H E I hf st hg
    subst hP hw hK
    obtain ⟨⟨old, he⟩, hit, hne⟩ := st
    obtain ⟨xs, hq, hx⟩ := hg
    obtain ⟨its, rv, p, hz⟩ := I.tuple hq
    have pT : s.heap.IsTuple a its.toArray := p
    have hai : a ≠ it := fun z => by
      obtain ⟨o, ho, hcl, _⟩ := hit
      obtain ⟨o2, ho2, hcl2, _⟩ := p
      rw [z, ho] at ho2
      cases ho2
      rw [hcl] at hcl2
      exact absurd hcl2 (by decide)
    obtain ⟨f0, f1, f2, f3, f4, f5⟩ := hf it (List.mem_cons_of_mem _ (List.mem_cons_self ..))
    have hl := rv.length
    exact enumT_end (I.ok.hd hc) he hit pT (by simp; omega) fun h' eb => ⟨rfl, I.turned (t' := s.toks) (fun b o hb q => eb b o hb q) f0 f1 f3 f4 f5⟩
  self := fun A i s Q E st h => let ⟨⟨_, he⟩, _⟩ := st; wpAny_pyIter_enum he h
def iEnumT (K : PySem.W.Frag) (ta : TA) : TI := fun σ H R => ta σ H fun vs H1 => ∃ a xs, vs = [.ref a] ∧ SqT K H1 a xs ∧ R (Itet K a) H1
theorem pi_enumT {e : Expr} {ta : TA} {p pos tpos : Pos} {elts : List Expr} {kk : Nat} (hg : Gl X "enumerate") (hm : X.mg "enumerate" = none) (ha : PA X [e] ta) (hs : starEach [e] X.env = [(false, eval e X.env)] := by rfl) :
    PI X (.Tuple elts kk tpos) (.Call (.Name "enumerate" p) [e] [] pos) (iEnumT X.K ta) := by
  refine ⟨fun pins s σ H R I h => ?_⟩
  have arg := ha.run pos pins s σ H _ I h
  refine Call_ (ld_blt I hg hm boot_enumerate (PyProof.Rows.callWith_type1 (thn arg fun us s1 ⟨vs, H1, I1, r1, q1⟩ => ?_) hs rfl))
  obtain ⟨a, xs, ex, hq, q⟩ := q1
  subst ex
  obtain rfl := Vals.ref1 r1
  obtain ⟨its, rv, p', hz⟩ := I1.tuple hq
  refine enum_tuple1 (items := its.toArray) p' fun h' he hit hk => wpAny_pyIter_enum he ?_
  refine ⟨s1.heap.objs.size + 1, [s1.heap.objs.size + 1, s1.heap.objs.size], _, _, H1, rfl, I1.kept (t' := s1.toks) hk, turn_enumT a _ s1.heap.objs.size, ⟨⟨.none, he⟩, hit, Nat.succ_ne_self _⟩, fun b hb => ?_, q⟩
  simp only [List.mem_cons, List.not_mem_nil, or_false] at hb
  have hle : s1.heap.objs.size ≤ b := by
    rcases hb with z | z
    · rw [z]; exact Nat.le_succ _
    · rw [z]; exact Nat.le_refl _
  exact I1.fpOk hle (I1.hok.fresh hle)
theorem walk_enumT {K : PySem.W.Frag} {a : Addr} {xs : List V} : Walk (Itet K a) xs.length (fun H => SqT K H a xs) (YPair (fun i => some (.int (i : Nat))) (fun i => xs[i]?)) := by
  refine ⟨fun i H hi q => ⟨xs, xs[i], q, List.getElem?_eq_getElem hi⟩, fun H q => ⟨xs, q, Nat.le_refl _⟩, fun i H v H' hi q y => ?_⟩
  obtain ⟨T, x, h1, h2, h3, h4⟩ := y
  exact ⟨T, .int (i : Nat), x, h1, h2, h3, rfl, h4 xs q⟩
end
end EE

namespace EE
open PySem PySem.Spec PyProof.Rows L2
/-! ### a def that shows things: it is called where nothing is being shown -/
structure FnG (P : Program) (w : World) (K : PySem.W.Frag) (mg : Str → Option Value) (base : Heap) (k : Nat) (f : Addr) (fd : FuncData) (ps : List Str) (sp : Sp) : Prop where
  len : ∀ vs H Q E, sp vs H Q E → vs.length = ps.length
  run : ∀ (A : Around) (outer : List Env) (s : Shared) (H : Hp) (args : Args) (us : List Value) (vs : List V) (Q : VK) (E : XK), A.guards = some [] → Room k A →
    Env0 P w K mg base A outer s H → BindsTo s fd args (ps.zip us) → Vals vs us → sp vs H Q E → codeAny (model P w) A (.call (.ref f) args) (CR CX0 outer P w H s Q E) s
section
variable {P : Program} {w : World} {K : PySem.W.Frag} {mg : Str → Option Value} {base : Heap}
theorem okG {x qual : Str} {st : Stmt} {f : Addr} {fd : FuncData} {N ps : List Str} {k : Nat} {sp : Sp} (F : Fun K x qual st f fd) (S : FnScope N ps (defScope st)) (len : ∀ vs H Q E, sp vs H Q E → vs.length = ps.length)
    (hb : ∀ (cdv : Value) (A : Around) (outer : List Env) (s : Shared) (H : Hp) (vs : List V) (Q : VK) (E : XK), (A.deeper (envOfC qual (defScope st) s.heap.objs.size f cdv)).guards = some [] →
      Room k (A.deeper (envOfC qual (defScope st) s.heap.objs.size f cdv)) → sp vs H Q E →
      ∃ t, PSs (cxOf CX0 P w K mg base N qual (defScope st) f cdv A outer s H E).nox (defBody st) t ∧ t { nx := fun _ H' => Q .non H', rt := Q } (start N vs) H) : FnG P w K mg base (k + 1) f fd ps sp := by
  obtain ⟨oc, od, kV, doc, pm, an, cdv, ct, osl, rfl, lk, hcd⟩ := F.ex
  constructor
  · exact len
  intro A outer s H args us vs Q E hg hr e0 hbd r hsp
  have KX := e0.mod.kin.keeps (h' := s.heap) fun b o e => (e0.bs b o e).1
  have lim := e0.mod.nolimit.keeps (h' := s.heap) fun b o e => (e0.bs b o e).1
  obtain ⟨t, ht, hq⟩ := hb cdv A outer s H vs Q E hg (hr.deeper _) hsp
  refine codeAny_call_function hr.depth (KX _ _ lk) rfl S.co S.gen rfl (PySem.W.codeRec_of KX hcd) (hbd _ _ _ _ (wpAny_newFunctionEnv_cells S.kind (fun y hy => ?_) fun env he s1 xx => ?_))
  · obtain ⟨n, v⟩ := y
    have hm := (List.of_mem_zip hy).1
    rcases S.par n hm with q | q
    · exact Or.inl q
    · exact Or.inr ⟨q, PySem.W.cellsFrom_some _ _ _ (Or.inl q)⟩
  · subst he
    refine ⟨lim.keeps xx.toInCall.keep, codeAny_func ?_⟩
    have I := inv_start (CX := CX0) (E := E) (cd := cdv) (f := f) (qual := qual) S hr.hd e0 (len _ _ _ _ hsp) r xx
    refine wpAny_mono (ht.nox.run [] s1 (start N vs) H _ I hq) (fun fl s' hs => ?_) fun e s' hs => hs
    cases fl with
    | next =>
      obtain ⟨σ', H', J, q⟩ := hs
      exact ⟨V.non, H', J.os, J.bare, J.base, J.hok, rfl, q⟩
    | brk => obtain ⟨_, _, _, q⟩ := hs; exact q.elim
    | cont => obtain ⟨_, _, _, q⟩ := hs; exact q.elim
    | ret u =>
      obtain ⟨v, σ', H', J, rv, q⟩ := hs
      exact ⟨v, H', J.os, J.bare, J.base, J.hok, rv, q⟩
/-- the end: the law's def, called at the top -/
theorem call_lawG {mb : Str → Option Value} {k : Nat} {fa a : Addr} {fd : FuncData} {x : Str} {sp : Sp} {s₁ : Shared} {vs : List Value} {ns : List Int}
    (KX : K.In s₁.heap) (hns : s₁.heap.Ns mainGlobals mg) (hb : s₁.heap.Ns builtinsNs mb) (hbb : ∀ x : Str, x ≠ "__name__" → mb x = bootBuiltins x) (hlim : s₁.heap.NoLimit) (hg : s₁.gens = #[])
    (ha : s₁.heap.get? a = some { cls := .type "list", data := .seq vs.toArray }) (hi : IntsAre vs ns) (hl : ns.length ≤ sizeLine) (hr : Room k callerA)
    (F : ∀ base : Heap, K.In base → base.Ns mainGlobals mg → FnG P w K mg base k fa fd [x] sp) (hbind : ∀ (s : Shared) (u : Value), BindsTo s fd ⟨[u], []⟩ [(x, u)])
    (hsp : ∀ H : Hp, Only H → SqL K H a (ns.map V.int) → sp [.ref a] H (fun v _ => v = .bl true) fun _ _ _ => False) :
    codeAny (model P w) callerA (.call (.ref fa) ⟨[.ref a], []⟩) (fun r s' => r = .ok (.ret (.bool true)) ∧ OldK s₁.heap s'.heap ∧ s'.os = s₁.os ∧ AllBare s'.gens) s₁ := by
  have rv : Vals (ns.map V.int) vs := vals_of_ints hi
  have lenV := hi.length
  obtain ⟨H, hO, hS, hok, hA, hK⟩ : ∃ H : Hp, Only H ∧ SqL K H a (ns.map V.int) ∧ HOk P w H s₁.heap ∧ (∀ b, H b ≠ none → b = a) ∧ (H a ≠ none → K.lookup a = none) := by
    cases hk : K.lookup a with
    | some o =>
      have e := (KX a o hk).symm.trans ha
      cases e
      refine ⟨fun _ => none, fun _ => Or.inl rfl, Or.inr ⟨_, vs.toArray, _, hk, rfl, rfl, rfl, ?_, ?_⟩, fun b u z => (nomatch z), fun b z => absurd rfl z, fun z => absurd rfl z⟩
      · rw [List.size_toArray, lenV]
        exact hl
      · simpa using rv
    | none =>
      have at_a : (fun b => if b = a then some (HO.frz { cls := .type "list", data := .seq vs.toArray } (.lst (ns.map V.int))) else none : Hp) a = some (HO.frz { cls := .type "list", data := .seq vs.toArray } (.lst (ns.map V.int))) := if_pos rfl
      refine ⟨fun b => if b = a then some (.frz { cls := .type "list", data := .seq vs.toArray } (.lst (ns.map V.int))) else none, fun b => ?_, Or.inl (Or.inr ⟨_, at_a⟩), fun b u z => ?_, fun b z => ?_, fun _ => rfl⟩
      · by_cases e : b = a
        · exact Or.inr ⟨_, _, if_pos e⟩
        · exact Or.inl (if_neg e)
      · by_cases e : b = a
        · subst e
          rw [at_a] at z
          cases z
          refine ⟨ha, ?_, vs, 0, rv, ha⟩
          rw [List.length_map]
          exact hl
        · exact nomatch (if_neg e).symm.trans z
      · exact Decidable.byContradiction fun e => z (if_neg e)
  have hid : ∀ {b : Addr} {o : Obj}, s₁.heap.get? b = some o → H b = none → (hidT s₁.heap H).get? b = some o := fun e n => hidT_get e n
  have noA : ∀ {b : Addr} {o : Obj} {es : Array DictEntry} {ep : Nat}, s₁.heap.get? b = some o → o.data = .dict es ep → H b = none := fun {b o es ep} e d =>
    Decidable.byContradiction fun q => by
      have e' := hA b q
      subst e'
      have eo := ha.symm.trans e
      cases eo
      have d' : Data.seq vs.toArray _ = Data.dict es ep := d
      cases d'
  have nsK : ∀ {b : Addr} {m : Str → Option Value}, s₁.heap.Ns b m → (hidT s₁.heap H).Ns b m := fun n => by
    obtain ⟨o, es, ep, e, d, r⟩ := n
    exact ⟨o, es, ep, hid e (noA e d), d, r⟩
  have hKb : K.In (hidT s₁.heap H) := fun b o e => hid (KX b o e) (Decidable.byContradiction fun q => by
    have e' := hA b q
    subst e'
    rw [hK q] at e
    cases e)
  have e0 : Env0 P w K mg (hidT s₁.heap H) callerA [] s₁ H := by
    refine ⟨rfl, ⟨hKb, nsK hns, ⟨mb, nsK hb, hbb⟩, ?_⟩, fun b o e => of_hidT e, Nat.le_of_eq (hidT_size _ _), trivial, fun b hb => ?_, hok, .of_eq hg⟩
    · obtain ⟨mc, h1, h2⟩ := hlim
      exact ⟨mc, nsK h1, h2⟩
    · exact absurd (show b ∈ ([] : List Addr) from hb) (List.not_mem_nil)
  have run := (F _ hKb (nsK hns)).run callerA [] s₁ H ⟨[.ref a], []⟩ [.ref a] [.ref a] _ _ rfl hr e0 (hbind s₁ (.ref a)) (.cons rfl .nil) (hsp H hO hS)
  refine codeAny_mono run fun r s' h => ?_
  cases r with
  | error e => exact (show False from h).elim
  | ok fl =>
    cases fl with
    | next => exact (show False from h).elim
    | brk => exact (show False from h).elim
    | cont => exact (show False from h).elim
    | ret u =>
      obtain ⟨v, H', os, bare, un, hok', r', q⟩ := h
      obtain rfl : v = .bl true := q
      obtain rfl : u = Value.bool true := r'
      refine ⟨rfl, OldK.of_keep fun b o e => ?_, os, bare⟩
      rcases hO b with z | ⟨ob, xs, z⟩
      · exact un.keep b o e z (by intro y; exact absurd (show b ∈ ([] : List Addr) from y) List.not_mem_nil) List.not_mem_nil
      · have e1 := (hok b _ z).1
        have e2 := (hok' b _ (un.frzs b ob _ z)).1
        rw [e1] at e
        cases e
        exact e2
end
theorem walk_ofG {l : PySem.W.OpenLaw} {n k : Nat} {q : Program} {loose : List Str} {XP : (Str → Option Value) → Heap → Prop} {YP : World → Heap → Prop} {d : DefRec} {K : Params → PySem.W.Frag} {sp : PySem.W.Frag → Sp} {x : Str}
    (hn : l.most = some n) (hn2 : n ≤ sizeLine) (hdf : d.params.defaults = []) (hr : Room k callerA)
    (hY : ∀ (w : World) (h : Heap), YP w h → (K w.params).In h)
    (F : ∀ (w : World) (mg : Str → Option Value) (fa : Addr) (h : Heap), (K w.params).In h → h.Ns mainGlobals mg → mg d.name = some (.ref fa) →
      ∃ fd : FuncData, (∀ (s : Shared) (u : Value), BindsTo s fd ⟨[u], []⟩ [(x, u)]) ∧
        ∀ base : Heap, (K w.params).In base → base.Ns mainGlobals mg → FnG l.prog w (K w.params) mg base k fa fd [x] (sp (K w.params)))
    (hsp : ∀ (K : PySem.W.Frag) (H : Hp) (a : Addr) (ns : List Int), ns.length ≤ n → Only H → SqL K H a (ns.map V.int) → sp K [.ref a] H (fun v _ => v = .bl true) fun _ _ _ => False) :
    PySem.W.WalkO q loose XP YP l.row.toRowW d [] (fun f vs => PySem.call f vs) :=
  Att.attach_call hn hdf fun w s₀ s₁ mg mb fa o pm cd doc a vs ns G Y ho hd hcd hmg hobj hints hlen hg => by
    have KX := hY w _ Y
    obtain ⟨fd, hb, hF⟩ := F w mg fa _ KX G.T.g hmg
    exact call_lawG KX G.T.g G.T.b G.T.builtins G.T.nolimit hg hobj hints (Nat.le_trans hlen hn2) hr hF hb (fun H hO hS => hsp _ H a ns hlen hO hS)
end EE

namespace EE
open PySem PySem.Spec PyProof.Rows L2
abbrev D := PyData
/-! ### what is known of the heap: lists that may change (Γ), things that stay (Δ), the deck -/
def DeckAt (H : Hp) (d l : Addr) : Prop := ∃ (s : Int) (xs : List Int), H d = some (.dK [(.inr "deep", .ref l), (.inr "state", .int s)]) ∧ H l = some (.lst (xs.map V.int)) ∧
  (∀ x ∈ xs, 0 ≤ x) ∧ xs.length ≤ 64 ∧ 0 ≤ s ∧ s < 2305843009213693951
abbrev Dk := Option (Addr × Addr)
structure StI (K : PySem.W.Frag) (H0 H : Hp) (dk : Dk) (Γ : List (Addr × List D)) (Δ : List (V × D)) : Prop where
  le : Same H0 H
  data : ∀ p ∈ Δ, Dp K H0 p.1 p.2
  lists : ∀ g ∈ Γ, H0 g.1 = none ∧ ∃ vs, H g.1 = some (.lst vs) ∧ DpAll K H0 vs g.2
  nd : (Γ.map (·.1)).Nodup
  deck : ∀ d l, dk = some (d, l) → H0 d = none ∧ H0 l = none ∧ (∀ g ∈ Γ, g.1 ≠ d ∧ g.1 ≠ l) ∧ DeckAt H d l
def St (K : PySem.W.Frag) (H : Hp) (dk : Dk) (Γ : List (Addr × List D)) (Δ : List (V × D)) : Prop := ∃ H0, StI K H0 H dk Γ Δ
/-- a value that is known as a datum -/
inductive Dv (Δ : List (V × D)) : V → D → Prop
  | of {v d} : (v, d) ∈ Δ → Dv Δ v d
  | non : Dv Δ .non .none
  | bl (b : Bool) : Dv Δ (.bl b) (.bool b)
  | int (i : Int) : Dv Δ (.int i) (.int i)
  | str (x : Str) : Dv Δ (.str x) (.str x)
inductive DvAll (Δ : List (V × D)) : List V → List D → Prop
  | nil : DvAll Δ [] []
  | cons {v vs d ds} : Dv Δ v d → DvAll Δ vs ds → DvAll Δ (v :: vs) (d :: ds)
theorem dps_zip {K : PySem.W.Frag} {H : Hp} : ∀ {ds : List D} {vs : List V}, DpAll K H vs ds → ∀ q ∈ vs.zip ds, Dp K H q.1 q.2
  | [], _, h, q, hq => by cases h; cases hq
  | d :: ds, _, h, q, hq => by
    cases h with
    | cons h1 h2 =>
      rcases List.mem_cons.mp (show q ∈ (_, d) :: List.zip _ ds from hq) with rfl | hq
      · exact h1
      · exact dps_zip h2 q hq
theorem dvs_zip_ : ∀ {ds : List D} {vs : List V} {Δ : List (V × D)}, vs.length = ds.length → (∀ q ∈ vs.zip ds, q ∈ Δ) → DvAll Δ vs ds
  | [], [], _, _, _ => .nil
  | [], _ :: _, _, h, _ => by cases h
  | _ :: _, [], _, h, _ => by cases h
  | d :: ds, v :: vs, Δ, h, k => .cons (.of (k _ (List.mem_cons_self ..))) (dvs_zip_ (by simpa using h) fun q hq => k q (List.mem_cons_of_mem _ hq))
theorem dvs_zip {ds : List D} {vs : List V} {Δ : List (V × D)} (h : vs.length = ds.length) : DvAll (vs.zip ds ++ Δ) vs ds := dvs_zip_ h fun q hq => List.mem_append_left _ hq
section
variable {K : PySem.W.Frag} {H0 H H' : Hp} {dk : Dk} {Γ Γ' : List (Addr × List D)} {Δ Δ' : List (V × D)} {v : V} {d : D} {vs : List V} {ds : List D} {p a l : Addr}
theorem Dv.sub (s : ∀ x ∈ Δ, x ∈ Δ') (h : Dv Δ v d) : Dv Δ' v d := by
  cases h with
  | of m => exact .of (s _ m)
  | non => exact .non
  | bl b => exact .bl b
  | int i => exact .int i
  | str x => exact .str x
theorem DvAll.sub (s : ∀ x ∈ Δ, x ∈ Δ') : ∀ {vs : List V} {ds : List D}, DvAll Δ vs ds → DvAll Δ' vs ds
  | _, _, .nil => .nil
  | _, _, .cons h t => .cons (h.sub s) (DvAll.sub s t)
theorem Dv.dp (hd : ∀ p ∈ Δ, Dp K H0 p.1 p.2) (h : Dv Δ v d) : Dp K H0 v d := by
  cases h with
  | of m => exact hd _ m
  | non => exact .non
  | bl b => exact .bl b
  | int i => exact .int i
  | str x => exact .str x
theorem DvAll.dp (hd : ∀ p ∈ Δ, Dp K H0 p.1 p.2) : ∀ {vs : List V} {ds : List D}, DvAll Δ vs ds → DpAll K H0 vs ds
  | _, _, .nil => .nil
  | _, _, .cons h t => .cons (h.dp hd) (DvAll.dp hd t)
theorem DvAll.len : ∀ {vs : List V} {ds : List D}, DvAll Δ vs ds → vs.length = ds.length
  | _, _, .nil => rfl
  | _, _, .cons _ t => by rw [List.length_cons, List.length_cons, t.len]
theorem St.dp (h : St K H dk Γ Δ) (k : Dv Δ v d) : Dp K H v d := by
  obtain ⟨H0, I⟩ := h
  exact dp_up I.le (k.dp I.data)
theorem St.weaken (h : St K H dk Γ Δ) (s : ∀ x ∈ Δ', x ∈ Δ) : St K H dk Γ Δ' := by
  obtain ⟨H0, I⟩ := h
  exact ⟨H0, I.le, fun p hp => I.data p (s p hp), I.lists, I.nd, I.deck⟩
theorem St.ints (h : St K H dk Γ Δ) (k : ∀ x ∈ Δ', Dv Δ x.1 x.2) : St K H dk Γ (Δ' ++ Δ) := by
  obtain ⟨H0, I⟩ := h
  refine ⟨H0, I.le, fun p hp => ?_, I.lists, I.nd, I.deck⟩
  rcases List.mem_append.mp hp with hp | hp
  · exact (k p hp).dp I.data
  · exact I.data p hp
theorem St.also (h : St K H dk Γ Δ) (k : Dv Δ v d) : St K H dk Γ ((v, d) :: Δ) := h.ints (Δ' := [(v, d)]) fun x hx => by
  rw [List.mem_singleton.mp hx]
  exact k
/-- a new thing that stays -/
theorem St.new_ (h : St K H dk Γ Δ) (hp : H p = none) {o : HO} (hd : ∀ H0 : Hp, H0 p = some o → (∀ q ∈ Δ, Dp K H0 q.1 q.2) → Dp K H0 (.ref p) d) : St K (upd H p o) dk Γ ((.ref p, d) :: Δ) := by
  obtain ⟨H0, I⟩ := h
  have h0 : H0 p = none := I.le.free hp
  have s1 : Same H0 (upd H0 p o) := fun b u e => by rw [upd_ne (ne_of_none e h0)]; exact e
  have s2 : Same (upd H0 p o) (upd H p o) := fun b u e => by
    by_cases hb : b = p
    · subst hb; rw [upd_same] at e ⊢; exact e
    · rw [upd_ne hb] at e ⊢; exact I.le b u e
  have old : ∀ q ∈ Δ, Dp K (upd H0 p o) q.1 q.2 := fun q hq => dp_up s1 (I.data q hq)
  refine ⟨upd H0 p o, s2, fun q hq => ?_, fun g hg => ?_, I.nd, fun d l e => ?_⟩
  · rcases List.mem_cons.mp hq with rfl | hq
    · exact hd _ upd_same old
    · exact old q hq
  · obtain ⟨g0, vs, g1, g2⟩ := I.lists g hg
    have ne : g.1 ≠ p := ne_of_none g1 hp
    rw [upd_ne ne, upd_ne ne]
    exact ⟨g0, vs, g1, dps_up s1 g2⟩
  · obtain ⟨a1, a2, a3, s, xs, b1, b2, b3⟩ := I.deck d l e
    have n1 := ne_of_none b1 hp
    have n2 := ne_of_none b2 hp
    rw [upd_ne n1, upd_ne n2]
    refine ⟨a1, a2, a3, s, xs, ?_, ?_, b3⟩
    · rw [upd_ne n1]; exact b1
    · rw [upd_ne n2]; exact b2
theorem St.tup (h : St K H dk Γ Δ) (hp : H p = none) (k : DvAll Δ vs ds) : St K (upd H p (.tup vs)) dk Γ ((.ref p, .tuple ds) :: Δ) := h.new_ hp fun H0 e q => .tup (SqT.of e) (k.dp q)
theorem St.lst (h : St K H dk Γ Δ) (hp : H p = none) (k : DvAll Δ vs ds) : St K (upd H p (.lst vs)) dk Γ ((.ref p, .list ds) :: Δ) := h.new_ hp fun H0 e q => .lst (SqL.of e) (k.dp q)
/-- a new list that may change -/
theorem St.make_ (h : St K H dk Γ Δ) (hp : H p = none) (k : ∀ H0, StI K H0 H dk Γ Δ → DpAll K H0 vs ds) : St K (upd H p (.lst vs)) dk ((p, ds) :: Γ) Δ := by
  obtain ⟨H0, I⟩ := h
  have h0 : H0 p = none := I.le.free hp
  refine ⟨H0, fun b u e => ?_, I.data, fun g hg => ?_, ?_, fun d l e => ?_⟩
  · rw [upd_ne (ne_of_none (I.le b u e) hp)]
    exact I.le b u e
  · rcases List.mem_cons.mp hg with rfl | hg
    · exact ⟨h0, vs, upd_same, k H0 I⟩
    · obtain ⟨g0, vs', g1, g2⟩ := I.lists g hg
      exact ⟨g0, vs', by rw [upd_ne (ne_of_none g1 hp)]; exact g1, g2⟩
  · rw [List.map_cons, List.nodup_cons]
    refine ⟨fun hm => ?_, I.nd⟩
    obtain ⟨g, hg, e⟩ := List.mem_map.mp hm
    obtain ⟨_, _, g1, _⟩ := I.lists g hg
    exact ne_of_none g1 hp e
  · obtain ⟨a1, a2, a3, s, xs, b1, b2, b3⟩ := I.deck d l e
    have n1 := ne_of_none b1 hp
    have n2 := ne_of_none b2 hp
    refine ⟨a1, a2, fun g hg => ?_, s, xs, ?_, ?_, b3⟩
    · rcases List.mem_cons.mp hg with rfl | hg
      · exact ⟨n1.symm, n2.symm⟩
      · exact a3 g hg
    · rw [upd_ne n1]; exact b1
    · rw [upd_ne n2]; exact b2
theorem St.make (h : St K H dk Γ Δ) (hp : H p = none) (k : DvAll Δ vs ds) : St K (upd H p (.lst vs)) dk ((p, ds) :: Γ) Δ := h.make_ hp fun H0 I => k.dp I.data
/-- what changes no more -/
theorem St.freeze (h : St K H dk ((p, ds) :: Γ) Δ) : St K H dk Γ ((.ref p, .list ds) :: Δ) := by
  obtain ⟨H0, I⟩ := h
  obtain ⟨g0, vs, g1, g2⟩ := I.lists (p, ds) (List.mem_cons_self ..)
  have nd := I.nd
  rw [List.map_cons, List.nodup_cons] at nd
  have s1 : Same H0 (upd H0 p (.lst vs)) := fun b u e => by rw [upd_ne (ne_of_none e g0)]; exact e
  have old : ∀ q ∈ Δ, Dp K (upd H0 p (.lst vs)) q.1 q.2 := fun q hq => dp_up s1 (I.data q hq)
  refine ⟨upd H0 p (.lst vs), fun b u e => ?_, fun q hq => ?_, fun g hg => ?_, nd.2, fun d l e => ?_⟩
  · by_cases hb : b = p
    · subst hb; rw [upd_same] at e; rw [← e]; exact g1
    · rw [upd_ne hb] at e; exact I.le b u e
  · rcases List.mem_cons.mp hq with rfl | hq
    · exact .lst (SqL.of upd_same) (dps_up s1 g2)
    · exact old q hq
  · obtain ⟨k0, vs', k1, k2⟩ := I.lists g (List.mem_cons_of_mem _ hg)
    have ne : g.1 ≠ p := fun e => nd.1 (List.mem_map.mpr ⟨g, hg, e⟩)
    rw [upd_ne ne]
    exact ⟨k0, vs', k1, dps_up s1 k2⟩
  · obtain ⟨a1, a2, a3, r⟩ := I.deck d l e
    have ap := a3 (p, ds) (List.mem_cons_self ..)
    rw [upd_ne ap.1.symm, upd_ne ap.2.symm]
    exact ⟨a1, a2, fun g hg => a3 g (List.mem_cons_of_mem _ hg), r⟩
/-- the first list as it stands -/
theorem St.look (h : St K H dk ((p, ds) :: Γ) Δ) : ∃ vs, H p = some (.lst vs) ∧ vs.length = ds.length ∧ (∀ (i : Nat) (x : D), ds[i]? = some x → ∃ v, vs[i]? = some v ∧ St K H dk ((p, ds) :: Γ) ((v, x) :: Δ)) ∧ (∀ H0, StI K H0 H dk ((p, ds) :: Γ) Δ → DpAll K H0 vs ds) := by
  obtain ⟨H0, I⟩ := h
  obtain ⟨g0, vs, g1, g2⟩ := I.lists (p, ds) (List.mem_cons_self ..)
  refine ⟨vs, g1, dps_len g2, fun i x e => ?_, fun H1 J => ?_⟩
  · obtain ⟨v, e1, e2⟩ := dps_at g2 e
    exact ⟨v, e1, H0, I.le, fun q hq => by rcases List.mem_cons.mp hq with rfl | hq; exact e2; exact I.data q hq, I.lists, I.nd, I.deck⟩
  · obtain ⟨_, vs', k1, k2⟩ := J.lists (p, ds) (List.mem_cons_self ..)
    rw [g1] at k1
    cases k1
    exact k2
/-- the first list changes -/
theorem St.put (h : St K H dk ((p, ds) :: Γ) Δ) {es : List D} {us : List V} (k : ∀ H0, StI K H0 H dk ((p, ds) :: Γ) Δ → DpAll K H0 us es) : St K (upd H p (.lst us)) dk ((p, es) :: Γ) Δ := by
  obtain ⟨H0, I⟩ := h
  obtain ⟨g0, vs, g1, g2⟩ := I.lists (p, ds) (List.mem_cons_self ..)
  have nd := I.nd
  rw [List.map_cons, List.nodup_cons] at nd
  refine ⟨H0, fun b u e => ?_, I.data, fun g hg => ?_, I.nd, fun d l e => ?_⟩
  · rw [upd_ne (ne_of_none e g0)]
    exact I.le b u e
  · rcases List.mem_cons.mp hg with rfl | hg
    · exact ⟨g0, us, upd_same, k H0 I⟩
    · obtain ⟨k0, vs', k1, k2⟩ := I.lists g (List.mem_cons_of_mem _ hg)
      exact ⟨k0, vs', by rw [upd_ne fun e => nd.1 (List.mem_map.mpr ⟨g, hg, e⟩)]; exact k1, k2⟩
  · obtain ⟨a1, a2, a3, s, xs, b1, b2, b3⟩ := I.deck d l e
    have ap := a3 (p, ds) (List.mem_cons_self ..)
    refine ⟨a1, a2, fun g hg => ?_, s, xs, ?_, ?_, b3⟩
    · rcases List.mem_cons.mp hg with rfl | hg
      · exact ap
      · exact a3 g (List.mem_cons_of_mem _ hg)
    · rw [upd_ne ap.1.symm]; exact b1
    · rw [upd_ne ap.2.symm]; exact b2
theorem St.swap {q : Addr} {es : List D} (h : St K H dk ((p, ds) :: (q, es) :: Γ) Δ) : St K H dk ((q, es) :: (p, ds) :: Γ) Δ := by
  obtain ⟨H0, I⟩ := h
  have mm : ∀ g, g ∈ (q, es) :: (p, ds) :: Γ → g ∈ (p, ds) :: (q, es) :: Γ := fun g hg => by
    simp only [List.mem_cons] at hg ⊢
    rcases hg with h | h | h
    · exact Or.inr (Or.inl h)
    · exact Or.inl h
    · exact Or.inr (Or.inr h)
  have nd := I.nd
  simp only [List.map_cons, List.nodup_cons, List.mem_cons, not_or] at nd
  refine ⟨H0, I.le, I.data, fun g hg => I.lists g (mm g hg), ?_, fun d l e => ?_⟩
  · simp only [List.map_cons, List.nodup_cons, List.mem_cons, not_or]
    exact ⟨⟨fun e => nd.1.1 e.symm, nd.2.1⟩, nd.1.2, nd.2.2⟩
  · obtain ⟨a1, a2, a3, r⟩ := I.deck d l e
    exact ⟨a1, a2, fun g hg => a3 g (mm g hg), r⟩
theorem St.drop (h : St K H dk ((p, ds) :: Γ) Δ) : St K H dk Γ Δ := h.freeze.weaken fun _ => List.mem_cons_of_mem _
/-- the deck -/
theorem St.deck {d l : Addr} (h : St K H (some (d, l)) Γ Δ) : DeckAt H d l := by
  obtain ⟨H0, I⟩ := h
  exact (I.deck d l rfl).2.2.2
theorem St.deal {d l : Addr} (h : St K H (some (d, l)) Γ Δ) (k : ∀ b, b ≠ d → b ≠ l → H' b = H b) (q : DeckAt H' d l) : St K H' (some (d, l)) Γ Δ := by
  obtain ⟨H0, I⟩ := h
  obtain ⟨a1, a2, a3, _⟩ := I.deck d l rfl
  refine ⟨H0, fun b u e => ?_, I.data, fun g hg => ?_, I.nd, fun d' l' e => ?_⟩
  · rw [k b (ne_of_none e a1) (ne_of_none e a2)]
    exact I.le b u e
  · obtain ⟨g0, vs, g1, g2⟩ := I.lists g hg
    rw [k _ (a3 g hg).1 (a3 g hg).2]
    exact ⟨g0, vs, g1, g2⟩
  · cases e
    exact ⟨a1, a2, a3, q⟩
theorem St.redeck {d l m : Addr} (h : St K H (some (d, l)) Γ Δ) (hm : H m = none) (k : ∀ b, b ≠ d → b ≠ m → H' b = H b) (q : DeckAt H' d m) : St K H' (some (d, m)) Γ Δ := by
  obtain ⟨H0, I⟩ := h
  obtain ⟨a1, a2, a3, _⟩ := I.deck d l rfl
  refine ⟨H0, fun b u e => ?_, I.data, fun g hg => ?_, I.nd, fun d' l' e => ?_⟩
  · have e' := I.le b u e
    rw [k b (ne_of_none e a1) (ne_of_none e' hm)]
    exact e'
  · obtain ⟨g0, vs, g1, g2⟩ := I.lists g hg
    rw [k _ (a3 g hg).1 (ne_of_none g1 hm)]
    exact ⟨g0, vs, g1, g2⟩
  · cases e
    exact ⟨a1, I.le.free hm, fun g hg => ⟨(a3 g hg).1, by obtain ⟨_, vs, g1, _⟩ := I.lists g hg; exact ne_of_none g1 hm⟩, q⟩
/-- a tuple, a list that stays: its items -/
theorem St.tupAt {a : Addr} (h : St K H dk Γ Δ) (k : (V.ref a, PyData.tuple ds) ∈ Δ) : ∃ vs, SqT K H a vs ∧ vs.length = ds.length ∧ ∃ Δ', Δ' = vs.zip ds ++ Δ ∧ St K H dk Γ Δ' ∧ DvAll Δ' vs ds := by
  obtain ⟨H0, I⟩ := h
  cases I.data _ k with
  | tup hs ha =>
    rename_i vs
    have hl := dps_len ha
    refine ⟨vs, Same.sqT I.le hs, hl, _, rfl, ⟨H0, I.le, fun q hq => ?_, I.lists, I.nd, I.deck⟩, ?_⟩
    · rcases List.mem_append.mp hq with hq | hq
      · exact dps_zip ha q hq
      · exact I.data q hq
    · exact dvs_zip hl
theorem St.lstAt {a : Addr} (h : St K H dk Γ Δ) (k : (V.ref a, PyData.list ds) ∈ Δ) : ∃ vs, SqL K H a vs ∧ vs.length = ds.length ∧ ∃ Δ', Δ' = vs.zip ds ++ Δ ∧ St K H dk Γ Δ' ∧ DvAll Δ' vs ds := by
  obtain ⟨H0, I⟩ := h
  cases I.data _ k with
  | lst hs ha =>
    rename_i vs
    have hl := dps_len ha
    refine ⟨vs, I.le.seq hs, hl, _, rfl, ⟨H0, I.le, fun q hq => ?_, I.lists, I.nd, I.deck⟩, ?_⟩
    · rcases List.mem_append.mp hq with hq | hq
      · exact dps_zip ha q hq
      · exact I.data q hq
    · exact dvs_zip hl
theorem dvs_at : ∀ {vs : List V} {ds : List D} {i : Nat} {x : D}, DvAll Δ vs ds → ds[i]? = some x → ∃ v, vs[i]? = some v ∧ Dv Δ v x
  | _, _, _, _, .nil, e => by simp at e
  | _, _, 0, _, .cons h _, e => by
    cases Option.some.inj (show some _ = some _ from e)
    exact ⟨_, rfl, h⟩
  | _, _, i + 1, _, .cons _ t, e => by
    obtain ⟨v, h1, h2⟩ := dvs_at (i := i) t (by simpa using e)
    exact ⟨v, by simpa using h1, h2⟩
theorem St.popAt (h : St K H dk ((p, ds) :: Γ) Δ) {k : Nat} {x : D} (hk : ds[k]? = some x) : ∃ vs y, H p = some (.lst vs) ∧ vs.length = ds.length ∧ vs[k]? = some y ∧ St K (upd H p (.lst (vs.eraseIdx k))) dk ((p, ds.eraseIdx k) :: Γ) ((y, x) :: Δ) := by
  obtain ⟨vs, h1, h2, h3, h4⟩ := h.look
  obtain ⟨y, h5, h6⟩ := h3 k x hk
  refine ⟨vs, y, h1, h2, h5, h6.put fun H0 I => ?_⟩
  obtain ⟨_, vs', k1, k2⟩ := I.lists (p, ds) (List.mem_cons_self ..)
  rw [h1] at k1
  cases k1
  exact dps_erase k k2
theorem St.push (h : St K H dk ((p, ds) :: Γ) Δ) {y : V} {x : D} (hy : Dv Δ y x) : ∃ vs, H p = some (.lst vs) ∧ vs.length = ds.length ∧ St K (upd H p (.lst (vs ++ [y]))) dk ((p, ds ++ [x]) :: Γ) Δ := by
  obtain ⟨vs, h1, h2, h3, h4⟩ := h.look
  exact ⟨vs, h1, h2, h.put fun H0 I => dps_app (h4 H0 I) (.cons (hy.dp I.data) .nil)⟩
theorem St.setAt (h : St K H dk ((p, ds) :: Γ) Δ) {y : V} {x : D} (hy : Dv Δ y x) (k : Nat) : ∃ vs, H p = some (.lst vs) ∧ vs.length = ds.length ∧ St K (upd H p (.lst (vs.set k y))) dk ((p, ds.set k x) :: Γ) Δ := by
  obtain ⟨vs, h1, h2, h3, h4⟩ := h.look
  exact ⟨vs, h1, h2, h.put fun H0 I => dps_set (hy.dp I.data) k (h4 H0 I)⟩
theorem St.insAt (h : St K H dk ((p, ds) :: Γ) Δ) {y : V} {x : D} (hy : Dv Δ y x) (k : Nat) : ∃ vs, H p = some (.lst vs) ∧ vs.length = ds.length ∧ St K (upd H p (.lst (vs.take k ++ [y] ++ vs.drop k))) dk ((p, ds.take k ++ [x] ++ ds.drop k) :: Γ) Δ := by
  obtain ⟨vs, h1, h2, h3, h4⟩ := h.look
  exact ⟨vs, h1, h2, h.put fun H0 I => dps_app (dps_app (dps_take k (h4 H0 I)) (.cons (hy.dp I.data) .nil)) (dps_drop k (h4 H0 I))⟩
theorem St.int_of (h : St K H dk Γ Δ) {i : Int} (k : (v, PyData.int i) ∈ Δ) : v = .int i := by
  obtain ⟨H0, I⟩ := h
  cases I.data _ k
  rfl
theorem St.ints_of (h : St K H dk Γ Δ) {ns : List Int} (k : DvAll Δ vs (ns.map PyData.int)) : vs = ns.map V.int := by
  obtain ⟨H0, I⟩ := h
  exact dps_ints (k.dp I.data)
/-- a tuple of two ints -/
theorem St.pair (h : St K H dk Γ Δ) {a : Addr} {i j : Int} (k : (V.ref a, PyData.tuple [.int i, .int j]) ∈ Δ) : SqT K H a [.int i, .int j] := by
  obtain ⟨vs, h1, h2, Δ', e, h3, h4⟩ := h.tupAt k
  have := h3.ints_of (ns := [i, j]) h4
  rw [this] at h1
  exact h1
theorem St.ref_of (h : St K H dk Γ Δ) (k : (v, PyData.tuple ds) ∈ Δ) : ∃ a, v = .ref a := by
  obtain ⟨H0, I⟩ := h
  cases I.data _ k
  exact ⟨_, rfl⟩
theorem St.lref_of (h : St K H dk Γ Δ) (k : (v, PyData.list ds) ∈ Δ) : ∃ a, v = .ref a := by
  obtain ⟨H0, I⟩ := h
  cases I.data _ k
  exact ⟨_, rfl⟩
end
theorem ixN_of {n : Nat} {i : Int} (h0 : 0 ≤ i) (h : i < n) : ixN n i = some i.toNat := by
  unfold ixN
  rw [if_pos h0, if_pos h]
theorem seq_of {n : Nat} {i : Int} (h0 : 0 ≤ i) (h : i < n) : seqIndex? i n = some i.toNat := (ixN_seq (ixN_of h0 h)).1
theorem atI_of {α : Type} {xs : List α} {i : Int} {v : α} (h0 : 0 ≤ i) (h : xs[i.toNat]? = some v) : atI xs i = some v := by
  have e : i = ((i.toNat : Nat) : Int) := by omega
  rw [e]
  exact atI_nat h
section
variable {K : PySem.W.Frag} {a : Addr} {n : Nat}
theorem walkT : Walk (Itt K a) n (fun H => ∃ xs, SqT K H a xs ∧ xs.length = n) (fun i H x H' => H' = H ∧ ∀ xs, SqT K H a xs → xs[i]? = some x) :=
  ⟨fun i H hi q => by obtain ⟨xs, h1, rfl⟩ := q; exact ⟨xs, xs[i], h1, List.getElem?_eq_getElem hi⟩, fun H q => by obtain ⟨xs, h1, rfl⟩ := q; exact ⟨xs, h1, Nat.le_refl _⟩, fun i H x H' hi q y => y⟩
theorem walkL : Walk (Itl K a) n (fun H => ∃ xs, SqL K H a xs ∧ xs.length = n) (fun i H x H' => H' = H ∧ ∀ xs, SqL K H a xs → xs[i]? = some x) :=
  ⟨fun i H hi q => by obtain ⟨xs, h1, rfl⟩ := q; exact ⟨xs, xs[i], h1, List.getElem?_eq_getElem hi⟩, fun H q => by obtain ⟨xs, h1, rfl⟩ := q; exact ⟨xs, h1, Nat.le_refl _⟩, fun i H x H' hi q y => y⟩
theorem walkET : Walk (Itet K a) n (fun H => ∃ xs, SqT K H a xs ∧ xs.length = n) (fun i H v H' => ∃ T x, v = .ref T ∧ H T = none ∧ H' = upd H T (.tup [.int (i : Nat), x]) ∧ ∀ xs, SqT K H a xs → xs[i]? = some x) :=
  ⟨fun i H hi q => by obtain ⟨xs, h1, rfl⟩ := q; exact ⟨xs, xs[i], h1, List.getElem?_eq_getElem hi⟩, fun H q => by obtain ⟨xs, h1, rfl⟩ := q; exact ⟨xs, h1, Nat.le_refl _⟩, fun i H x H' hi q y => y⟩
theorem walkEL : Walk (Ite K a) n (fun H => ∃ xs, SqL K H a xs ∧ xs.length = n) (fun i H v H' => ∃ T x, v = .ref T ∧ H T = none ∧ H' = upd H T (.tup [.int (i : Nat), x]) ∧ ∀ xs, SqL K H a xs → xs[i]? = some x) :=
  ⟨fun i H hi q => by obtain ⟨xs, h1, rfl⟩ := q; exact ⟨xs, xs[i], h1, List.getElem?_eq_getElem hi⟩, fun H q => by obtain ⟨xs, h1, rfl⟩ := q; exact ⟨xs, h1, Nat.le_refl _⟩, fun i H x H' hi q y => y⟩
end
section
variable {K : PySem.W.Frag} {H H' : Hp} {dk : Dk} {Γ : List (Addr × List D)} {Δ : List (V × D)} {x : V} {d : D} {ds : List D} {a T : Addr} {i : Nat}
theorem dvs_back : ∀ {vs : List V} {ds : List D} {i : Nat} {v : V}, DvAll Δ vs ds → vs[i]? = some v → ∃ x, ds[i]? = some x ∧ Dv Δ v x
  | _, _, _, _, .nil, e => by simp at e
  | _, _, 0, _, .cons h _, e => by
    cases Option.some.inj (show some _ = some _ from e)
    exact ⟨_, rfl, h⟩
  | _, _, i + 1, _, .cons _ t, e => by
    obtain ⟨v, h1, h2⟩ := dvs_back (i := i) t (by simpa using e)
    exact ⟨v, by simpa using h1, h2⟩
/-- a tuple that stays is walked: the item of this turn -/
theorem St.turnT (h : St K H dk Γ Δ) (k : (V.ref a, PyData.tuple ds) ∈ Δ) (f : ∀ xs, SqT K H a xs → xs[i]? = some x) : ∃ d, ds[i]? = some d ∧ St K H dk Γ ((x, d) :: Δ) := by
  obtain ⟨vs, h1, h2, Δ', rfl, h3, h4⟩ := h.tupAt k
  obtain ⟨d, e1, e2⟩ := dvs_back h4 (f vs h1)
  refine ⟨d, e1, (h3.also e2).weaken fun q hq => ?_⟩
  rcases List.mem_cons.mp hq with rfl | hq
  · exact List.mem_cons_self ..
  · exact List.mem_cons_of_mem _ (List.mem_append_right _ hq)
theorem St.turnL (h : St K H dk Γ Δ) (k : (V.ref a, PyData.list ds) ∈ Δ) (f : ∀ xs, SqL K H a xs → xs[i]? = some x) : ∃ d, ds[i]? = some d ∧ St K H dk Γ ((x, d) :: Δ) := by
  obtain ⟨vs, h1, h2, Δ', rfl, h3, h4⟩ := h.lstAt k
  obtain ⟨d, e1, e2⟩ := dvs_back h4 (f vs h1)
  refine ⟨d, e1, (h3.also e2).weaken fun q hq => ?_⟩
  rcases List.mem_cons.mp hq with rfl | hq
  · exact List.mem_cons_self ..
  · exact List.mem_cons_of_mem _ (List.mem_append_right _ hq)
theorem St.lenT (h : St K H dk Γ Δ) (k : (V.ref a, PyData.tuple ds) ∈ Δ) : ∃ xs, SqT K H a xs ∧ xs.length = ds.length := by
  obtain ⟨vs, h1, h2, _⟩ := h.tupAt k
  exact ⟨vs, h1, h2⟩
theorem St.lenL (h : St K H dk Γ Δ) (k : (V.ref a, PyData.list ds) ∈ Δ) : ∃ xs, SqL K H a xs ∧ xs.length = ds.length := by
  obtain ⟨vs, h1, h2, _⟩ := h.lstAt k
  exact ⟨vs, h1, h2⟩
/-- the pair of enumerate -/
theorem St.enumd (h : St K H dk Γ ((x, d) :: Δ)) (hT : H T = none) : St K (upd H T (.tup [.int (i : Nat), x])) dk Γ ((x, d) :: Δ) :=
  (h.tup (ds := [.int (i : Nat), d]) hT (.cons (.int _) (.cons (.of (List.mem_cons_self ..)) .nil))).weaken fun _ => List.mem_cons_of_mem _
end
end EE

namespace EE
open PySem PySem.Spec PyProof.Rows L2
/-! ### defs of the text, by what they promise -/
structure Fd (P : Program) (w : World) (K : PySem.W.Frag) (mg : Str → Option Value) (base : Heap) (x : Str) (k : Nat) (ps : List Str) (sp : Sp) : Prop where
  ex : ∃ (f : Addr) (fd : FuncData), FnOk P w K mg base CX0 k f fd ps sp ∧ mg x = some (.ref f) ∧ PySem.W.keepIn K (.ref f) = true ∧ Binds K fd ps []
section
variable {P : Program} {w : World} {K : PySem.W.Frag} {mg : Str → Option Value} {base : Heap}
theorem Fd.mk' {x qual : Str} {st : Stmt} {f : Addr} {fd : FuncData} {k : Nat} {ps : List Str} {sp : Sp} (F : Fun K x qual st f fd) (G : FnOk P w K mg base CX0 k f fd ps sp) (hm : mg x = some (.ref f)) (hb : Binds K fd ps []) : Fd P w K mg base x k ps sp :=
  ⟨f, fd, G, hm, F.kp, hb⟩
end
section
variable {X : Cx} {k : Nat} {ps : List Str} {sp : Sp} {x : Str} {p pos : Pos} {e : Expr} {es : List Expr} {t : TA}
theorem pe_fd (F : Fd X.prog X.w X.K X.mg X.base x k ps sp) (hr : Room k X.A) (hg : Gl X x) (ha : PA X (e :: es) t) (hx : Passes CX0 X E0 := by exact pass0) (hdb : (x == ("__debug__" : Str)) = false := by decide) (he : starEach (e :: es) X.env = (false, eval e X.env) :: starEach es X.env := by rfl)
    (hpl : (backTo pos (starEach es X.env)).any (·.1) = false := by rfl) : PE X (.Call (.Name x p) (e :: es) [] pos) (tCall sp [] E0 t) := by
  obtain ⟨f, fd, G, hm, hk, hb⟩ := F.ex
  exact pe_call G hr hg hm hk hb .nil hx ha hdb he hpl
theorem pe_k {x : Str} {i : Int} {pos : Pos} (hm : ∃ t, X.mg x = some (.int i t)) (hg : Gl X x) (hd : (x == ("__debug__" : Str)) = false := by decide) : PE X (.Name x pos) (tC (.int i)) := by
  obtain ⟨t, hm⟩ := hm
  exact pe_glob hg hm ⟨_, rfl⟩ hd
end
/-- the built-in names stand as they were -/
def bnames : List Str := ["len", "abs", "max", "min", "int", "list", "tuple", "range", "enumerate", "repr", "isinstance", "sum", "sorted", "str", "any", "all", "zip", "bool", "set", "dict"]
def NB (mg : Str → Option Value) (l : List Str) : Prop := ∀ x, l.contains x = true → mg x = none
/-! ### f(k = v, ..), all by name -/
structure KB (fdk : FuncData) (K : PySem.W.Frag) (ps ks : List Str) (g : List Value → List Value) (gV : List V → List V) : Prop where
  to : ∀ (s : Shared) (ws : List Value), K.In s.heap → (g ws).length = ps.length → BindsTo s fdk ⟨[], ks.zip ws⟩ (ps.zip (g ws))
  rel : ∀ {zs : List V} {ws : List Value}, Vals zs ws → Vals (gV zs) (g ws)
structure Fk (P : Program) (w : World) (K : PySem.W.Frag) (mg : Str → Option Value) (base : Heap) (x : Str) (k : Nat) (ps ks : List Str) (gV : List V → List V) (sp : Sp) : Prop where
  ex : ∃ (f : Addr) (fd : FuncData) (g : List Value → List Value), FnOk P w K mg base CX0 k f fd ps sp ∧ mg x = some (.ref f) ∧ PySem.W.keepIn K (.ref f) = true ∧ KB fd K ps ks g gV
section
variable {X : Cx} {k : Nat} {ps ks : List Str} {gV : List V → List V} {sp : Sp} {x : Str} {p pos : Pos} {kws : List Keyword} {tk : TA}
def tCallK0 (sp : Sp) (gV : List V → List V) (E : XK) (tk : TA) : TE := fun σ H Q => tk σ H fun zs H2 => sp (gV zs) H2 Q E
theorem pe_fk (F : Fk X.prog X.w X.K X.mg X.base x k ps ks gV sp) (hr : Room k X.A) (hg : Gl X x) (hkw : PK X kws tk) (hall : (backToKw pos (keywordEach kws X.env)).all (·.1.isSome) = true := by rfl) (hks : (backToKw pos (keywordEach kws X.env)).filterMap (·.1) = ks := by rfl)
    (hdb : (x == ("__debug__" : Str)) = false := by decide) (hpl : ((backTo pos (starEach [] X.env)).any (·.1) || (backToKw pos (keywordEach kws X.env)).any (·.1.isNone)) = false := by rfl) :
    PE X (.Call (.Name x p) [] kws pos) (tCallK0 sp gV E0 tk) := by
  obtain ⟨f, fd, g, G, hm, hk, hb⟩ := F.ex
  refine ⟨fun pins s σ H Q I h => wpAny_Call_Name_kw (ld_glob I hg hm ?_ hdb)⟩
  refine PySem.W.callWith_KW0 (h₀ := X.base) (first := []) I.ok.mod.kin hk hall (thn (hkw.run pos pins s σ H _ I h) fun ws s2 q => ?_) hpl
  obtain ⟨zs, H2, I2, rz, q2⟩ := q
  refine ⟨I2.kIn, ?_⟩
  rw [hks]
  have r2 := hb.rel rz
  have hl : (g ws).length = ps.length := by
    rw [← r2.length]
    exact G.len _ _ _ _ q2
  refine wpAny_call (codeAny_mono (G.run X.A X.stack s2 H2 ⟨[], ks.zip ws⟩ (g ws) (gV zs) Q E0 hr I2.env0 (hb.to s2 ws I2.kIn hl) r2 q2) fun r s' hq => ?_)
  cases r with
  | error e => exact (show False from hq).elim
  | ok fl =>
    cases fl with
    | ret u => exact I2.after hq
    | next => exact (show False from hq).elim
    | brk => exact (show False from hq).elim
    | cont => exact (show False from hq).elim
end
theorem _root_.L2.Fun.kb {K : PySem.W.Frag} {x qual : Str} {st : Stmt} {f : Addr} {fd : FuncData} {ps ks : List Str} (F : Fun K x qual st f fd)
    (h : ∀ (kV doc pm : Value) (an : Option Addr) (cdv ct : Value) (us : List Value), us.length = ps.length → bindArgs (PySem.W.fnOf x qual (defArgs st) (defBody st) (defScope st) .none kV doc pm an cdv ct) ⟨[], ks.zip us⟩ = pure (ps.zip us.reverse)) :
    KB fd K ps ks (fun ws => ws.reverse) (fun zs => zs.reverse) := by
  obtain ⟨oc, od, kV, doc, pm, an, cdv, ct, osl, rfl, lk, hcd⟩ := F.ex
  refine ⟨fun s ws _ hl => .of_eq (h kV doc pm an cdv ct ws ?_), fun r => r.reverse⟩
  rw [List.length_reverse] at hl
  exact hl
/-! ### powers of great bases -/
def CPowW (i j : Int) : Prop := 0 ≤ j ∧ (Builtin.Int.intBits i : Int) * j ≤ 2 ^ 27
theorem op_powW {X : Cx} : OpR X (binaryOp .Pow) (rI CPowW fun i j => .int (i ^ j.toNat)) := opI fun _ _ _ _ _ _ _ hc q => pow_int hc.1 hc.2 q
/-! ### // by any positive divisor, where C divides -/
def CDivX (i j : Int) : Prop := 0 < j ∧ Builtin.divisionGoesByPylong i j = false
theorem op_fdivX {X : Cx} : OpR X (binaryOp .FloorDiv) (rI CDivX fun i j => .int (i / j)) := opI fun i j _ _ _ _ _ hc q => by
  have h1 : (0 : Int) < j := hc.1
  refine floordiv_int (by omega) ?_ (.inl hc.2)
  rw [Int.fdiv_eq_ediv_of_nonneg i (by omega)]
  exact q
theorem divx_of {i j : Int} (h : CDivW i j) : CDivX i j := ⟨h.1, PyProof.noPylong_of_log2 h.2⟩
theorem divx_small {i j : Int} {n : Nat} (hj : 0 < j) (hi : i.natAbs < 2 ^ n) (hn : n ≤ 4000) : CDivX i j := ⟨hj, (divp_ok hj (by have := PyProof.Rows.intBits_le hi; omega)).2⟩
end EE

namespace EE
open PySem PySem.Spec PyProof.Rows L2
/-! ### data that can be shown and compared: n bounds its text -/
structure Sm (n k : Nat) (d : D) : Prop where
  show_ : d.showable = true
  deep : d.depth ≤ k
  long : d.shown.length ≤ n
  lay : d.canLay0 = true
theorem Sm.mono {n k n' k' : Nat} {d : D} (h : Sm n k d) (h1 : n ≤ n') (h2 : k ≤ k') : Sm n' k' d := ⟨h.show_, Nat.le_trans h.deep h2, Nat.le_trans h.long h1, h.lay⟩
theorem sm_non : Sm 5 0 (.none : D) := ⟨by simp only [PyData.showable], by simp only [PyData.depth]; exact Nat.le_refl 0, by decide, by simp only [PyData.canLay0]⟩
theorem sm_bool (b : Bool) : Sm 5 0 (.bool b : D) := ⟨by simp only [PyData.showable], by simp only [PyData.depth]; exact Nat.le_refl 0, by cases b <;> decide, by simp only [PyData.canLay0]⟩
theorem sm_int {i : Int} (h0 : 0 ≤ i) (h : i < 10 ^ 570) : Sm 570 0 (.int i : D) := by
  refine ⟨?_, by simp only [PyData.depth]; exact Nat.le_refl 0, ?_, by simp only [PyData.canLay0]⟩
  · simp only [PyData.showable, decide_eq_true_eq]
    have h2 : i.natAbs < 2 ^ 1900 := by
      have e : (10 : Int) ^ 570 < 2 ^ 1900 := by decide +kernel
      omega
    exact Nat.lt_trans (PySem.Flt.log2_lt_of (by decide) h2) (by decide)
  · simp only [PyData.shown]
    exact toString_length_le h0 (by decide) h
theorem sms_sum {n k : Nat} : ∀ {ds : List D}, (∀ d ∈ ds, Sm n k d) → PyData.showableAll ds = true ∧ PyData.depthAll ds ≤ k ∧ ((PyData.shownAll ds).map (·.length)).sum ≤ ds.length * n ∧ PyData.canLayAll0 ds = true ∧ (PyData.shownAll ds).length = ds.length
  | [], _ => ⟨by simp only [PyData.showableAll], by simp only [PyData.depthAll]; exact Nat.zero_le _, by simp [PyData.shownAll], by simp only [PyData.canLayAll0], by simp [PyData.shownAll]⟩
  | d :: ds, h => by
    have h1 := h d (List.mem_cons_self ..)
    obtain ⟨a, b, c, e, f⟩ := sms_sum fun x hx => h x (List.mem_cons_of_mem _ hx)
    have h1d := h1.deep
    have h1l := h1.long
    refine ⟨by simp only [PyData.showableAll, h1.show_, a, Bool.and_self], by simp only [PyData.depthAll]; omega, ?_, by simp only [PyData.canLayAll0, h1.lay, e, Bool.and_self], by simp only [PyData.shownAll, List.length_cons, f]⟩
    simp only [PyData.shownAll, List.map_cons, List.sum_cons, List.length_cons, Nat.add_mul, Nat.one_mul]
    omega
theorem sm_list {n k : Nat} {ds : List D} (h : ∀ d ∈ ds, Sm n k d) : Sm (ds.length * (n + 2) + 3) (k + 1) (.list ds : D) := by
  obtain ⟨a, b, c, e, f⟩ := sms_sum h
  refine ⟨by simp only [PyData.showable, a], by simp only [PyData.depth]; omega, ?_, by simp only [PyData.canLay0, e]⟩
  simp only [PyData.shown]
  refine Nat.le_trans (listText_len_le _) ?_
  rw [f, Nat.mul_add]
  omega
theorem sm_tuple {n k : Nat} {ds : List D} (h : ∀ d ∈ ds, Sm n k d) : Sm (ds.length * (n + 2) + 3) (k + 1) (.tuple ds : D) := by
  obtain ⟨a, b, c, e, f⟩ := sms_sum h
  refine ⟨by simp only [PyData.showable, a], by simp only [PyData.depth]; omega, ?_, by simp only [PyData.canLay0, e]⟩
  simp only [PyData.shown]
  refine Nat.le_trans (tupleText_len_le _) ?_
  rw [f, Nat.mul_add]
  omega
theorem Sm.shaped {n k : Nat} {d : D} (h : Sm n k d) (hk : k ≤ 60) : SeqAt.shaped d = true := by
  unfold SeqAt.shaped
  have := h.deep
  simp only [h.lay, Bool.true_and, decide_eq_true_eq]
  omega
/-- what can be compared -/
def Lay (k : Nat) (ds : List D) : Prop := PyData.canLayAll0 ds = true ∧ PyData.depthAll ds ≤ k
theorem lay_nil {k : Nat} : Lay k [] := ⟨by simp only [PyData.canLayAll0], by simp only [PyData.depthAll]; exact Nat.zero_le _⟩
theorem lay_cons {k : Nat} {d : D} {ds : List D} (h : d.canLay0 = true) (h2 : d.depth ≤ k) (t : Lay k ds) : Lay k (d :: ds) := ⟨by simp only [PyData.canLayAll0, h, t.1, Bool.and_self], by simp only [PyData.depthAll]; have := t.2; omega⟩
theorem lay_of {k : Nat} : ∀ {ds : List D}, (∀ d ∈ ds, d.canLay0 = true ∧ d.depth ≤ k) → Lay k ds
  | [], _ => lay_nil
  | d :: ds, h => lay_cons (h d (List.mem_cons_self ..)).1 (h d (List.mem_cons_self ..)).2 (lay_of fun x hx => h x (List.mem_cons_of_mem _ hx))
theorem lay_ints {k : Nat} (ns : List Int) : Lay k (ns.map PyData.int) := lay_of fun d hd => by
  obtain ⟨i, _, rfl⟩ := List.mem_map.mp hd
  exact ⟨by simp only [PyData.canLay0], by simp only [PyData.depth]; exact Nat.zero_le _⟩
theorem lay_list {ds : List D} (h : Lay 60 ds) : SeqAt.shaped (.list ds) = true := by
  have h2 := h.2
  refine Bool.and_eq_true_iff.mpr ⟨by simp only [PyData.canLay0, h.1], decide_eq_true ?_⟩
  simp only [PyData.depth]
  omega
theorem lay_tuple {ds : List D} (h : Lay 60 ds) : SeqAt.shaped (.tuple ds) = true := by
  have h2 := h.2
  refine Bool.and_eq_true_iff.mpr ⟨by simp only [PyData.canLay0, h.1], decide_eq_true ?_⟩
  simp only [PyData.depth]
  omega
section
variable {K : PySem.W.Frag} {H : Hp} {x y : V} {ds : List D} {Q : VK}
theorem ne_nil_list (hx : Dp K H x (.list ds)) (hy : Dp K H y (.list [])) (h : Lay 60 ds) (q : Q (.bl (!ds.isEmpty)) H) : rNeD K x y H Q := by
  refine ⟨.list ds, .list [], hx, hy, lay_list h, lay_list lay_nil, ?_⟩
  cases ds with
  | nil => exact q
  | cons d ds => exact q
theorem ne_nil_tup (hx : Dp K H x (.tuple ds)) (hy : Dp K H y (.tuple [])) (h : Lay 60 ds) (q : Q (.bl (!ds.isEmpty)) H) : rNeD K x y H Q := by
  refine ⟨.tuple ds, .tuple [], hx, hy, lay_tuple h, lay_tuple lay_nil, ?_⟩
  cases ds with
  | nil => exact q
  | cons d ds => exact q
end
/-! ### the deck's dict -/
section
variable {H : Hp} {d l : Addr} {s : Int} {v : V}
theorem deck_deep (h : H d = some (.dK [(.inr "deep", .ref l), (.inr "state", .int s)])) : DGet H d (.str "deep") (some (.ref l)) := by
  have g := DGet.k (k := (.inr "deep" : Key)) h
  rw [valV_pos rfl] at g
  exact g
theorem deck_state (h : H d = some (.dK [(.inr "deep", .ref l), (.inr "state", .int s)])) : DGet H d (.str "state") (some (.int s)) := by
  have g := DGet.k (k := (.inr "state" : Key)) h
  rw [valV_neg (by show ¬ ((Sum.inr ("deep" : Str) : Key) = Sum.inr ("state" : Str)); decide), valV_pos rfl] at g
  exact g
theorem put_state (h : H d = some (.dK [(.inr "deep", .ref l), (.inr "state", .int s)])) : DPut H d (.str "state") v (upd H d (.dK [(.inr "deep", .ref l), (.inr "state", v)])) := by
  have g := DPut.k (k := (.inr "state" : Key)) (v := v) h (by show 2 < sizeLine; decide)
  have e : putK [((.inr "deep" : Key), V.ref l), (.inr "state", .int s)] (.inr "state") v = [(.inr "deep", .ref l), (.inr "state", v)] := by
    have n : ¬ ((Sum.inr ("deep" : Str) : Key) = Sum.inr ("state" : Str)) := by decide
    simp [putK, n]
  rw [e] at g
  exact g
theorem put_deep {m : Addr} (h : H d = some (.dK [(.inr "deep", .ref l), (.inr "state", .int s)])) : DPut H d (.str "deep") (.ref m) (upd H d (.dK [(.inr "deep", .ref m), (.inr "state", .int s)])) := by
  have g := DPut.k (k := (.inr "deep" : Key)) (v := .ref m) h (by show 2 < sizeLine; decide)
  have e : putK [((.inr "deep" : Key), V.ref l), (.inr "state", .int s)] (.inr "deep") (.ref m) = [(.inr "deep", .ref m), (.inr "state", .int s)] := by
    have n : ¬ ((Sum.inr ("state" : Str) : Key) = Sum.inr ("deep" : Str)) := by decide
    simp [putK, n]
  rw [e] at g
  exact g
end
theorem dk_ne {H : Hp} {d l : Addr} {a : List (Key × V)} {b : List V} (h1 : H d = some (.dK a)) (h2 : H l = some (.lst b)) : d ≠ l := ne_of h1 h2 (by intro z; cases z)
end EE

namespace EE
open PySem PySem.Spec PyProof.Rows L2
theorem ifp {c A B : Prop} [Decidable c] (hc : c) (h : A) : if c then A else B := by
  rw [if_pos hc]
  exact h
theorem ifn {c A B : Prop} [Decidable c] (hc : ¬ c) (h : B) : if c then A else B := by
  rw [if_neg hc]
  exact h
theorem up_old {H : Hp} {a p : Addr} {u o : HO} (h : H a = some u) (hp : H p = none) : upd H p o a = some u := (upd_ne (ne_of_none h hp)).trans h
/-! ### an expression that is worth a datum, whatever is known besides -/
def Sub (Δ Δ' : List (V × D)) : Prop := ∀ x ∈ Δ, x ∈ Δ'
theorem Sub.rfl' {Δ : List (V × D)} : Sub Δ Δ := fun _ h => h
theorem Sub.trans {A B C : List (V × D)} (h : Sub A B) (k : Sub B C) : Sub A C := fun x hx => k x (h x hx)
theorem Sub.cons {A B : List (V × D)} {x : V × D} (h : Sub A B) : Sub A (x :: B) := fun y hy => List.mem_cons_of_mem _ (h y hy)
def EvD (K : PySem.W.Frag) (B : List (V × D)) (te : TE) (σ : L2.St) (d : D) : Prop := ∀ (H : Hp) (dk : Dk) (Γ : List (Addr × List D)) (Δ : List (V × D)) (Q : VK), Sub B Δ → St K H dk Γ Δ →
  (∀ v H' Δ', Sub Δ Δ' → St K H' dk Γ Δ' → Dv Δ' v d → Q v H') → te σ H Q
def EvDs (K : PySem.W.Frag) (B : List (V × D)) (ta : TA) (σ : L2.St) (ds : List D) : Prop := ∀ (H : Hp) (dk : Dk) (Γ : List (Addr × List D)) (Δ : List (V × D)) (Q : List V → Hp → Prop), Sub B Δ → St K H dk Γ Δ →
  (∀ vs H' Δ', Sub Δ Δ' → St K H' dk Γ Δ' → DvAll Δ' vs ds → Q vs H') → ta σ H Q
section
variable {K : PySem.W.Frag} {B : List (V × D)} {σ : L2.St} {ta tb : TE} {tr : TA} {d : D} {ds : List D} {v : V} {i j : Int}
theorem ed_int : EvD K B (tC (.int i)) σ (.int i) := fun H dk Γ Δ Q hb hS q => q _ H Δ .rfl' hS (.int i)
theorem ed_str {x : Str} : EvD K B (tC (.str x)) σ (.str x) := fun H dk Γ Δ Q hb hS q => q _ H Δ .rfl' hS (.str x)
theorem ed_non : EvD K B (tC .non) σ .none := fun H dk Γ Δ Q hb hS q => q _ H Δ .rfl' hS .non
theorem ed_bl {b : Bool} : EvD K B (tC (.bl b)) σ (.bool b) := fun H dk Γ Δ Q hb hS q => q _ H Δ .rfl' hS (.bl b)
theorem ed_var {n : Nat} (e : σ[n]? = some (some v)) (h : Dv B v d) : EvD K B (tVar n) σ d := fun H dk Γ Δ Q hb hS q => ⟨v, e, q v H Δ .rfl' hS (h.sub hb)⟩
theorem ed_varI {n : Nat} (e : σ[n]? = some (some (.int i))) : EvD K B (tVar n) σ (.int i) := ed_var e (.int i)
theorem ed_varB {n : Nat} {b : Bool} (e : σ[n]? = some (some (.bl b))) : EvD K B (tVar n) σ (.bool b) := ed_var e (.bl b)
theorem eds_nil : EvDs K B tNil σ [] := fun H dk Γ Δ Q hb hS q => q _ H Δ .rfl' hS .nil
theorem eds_cons (h : EvD K B ta σ d) (t : EvDs K B tr σ ds) : EvDs K B (tCons ta tr) σ (d :: ds) := fun H dk Γ Δ Q hb hS q =>
  h H dk Γ Δ _ hb hS fun v H1 Δ1 s1 hS1 d1 => t H1 dk Γ Δ1 _ (hb.trans s1) hS1 fun vs H2 Δ2 s2 hS2 d2 => q _ H2 Δ2 (s1.trans s2) hS2 (.cons (d1.sub s2) d2)
theorem ed_tup (h : EvDs K B tr σ ds) (hz : ds.length ≤ 10000) : EvD K B (tTup tr) σ (.tuple ds) := fun H dk Γ Δ Q hb hS q =>
  h H dk Γ Δ _ hb hS fun vs H1 Δ1 s1 hS1 d1 => ⟨by rw [d1.len]; exact Nat.le_trans hz (by decide), fun p hp => q _ _ _ (s1.trans (Sub.cons .rfl')) (hS1.tup hp d1) (.of (List.mem_cons_self ..))⟩
theorem ed_lst (h : EvDs K B tr σ ds) (hz : ds.length ≤ 10000) : EvD K B (tLst tr) σ (.list ds) := fun H dk Γ Δ Q hb hS q =>
  h H dk Γ Δ _ hb hS fun vs H1 Δ1 s1 hS1 d1 => ⟨by rw [d1.len]; exact Nat.le_trans hz (by decide), fun p hp => q _ _ _ (s1.trans (Sub.cons .rfl')) (hS1.lst hp d1) (.of (List.mem_cons_self ..))⟩
theorem Dv.isInt {Δ : List (V × D)} {H : Hp} {dk : Dk} {Γ : List (Addr × List D)} (hS : St K H dk Γ Δ) (h : Dv Δ v (.int i)) : v = .int i := by
  cases h with
  | of m => exact hS.int_of m
  | int => rfl
theorem ed_I0 {g : Int → Int → Int} (h1 : EvD K B ta σ (.int i)) (h2 : EvD K B tb σ (.int j)) : EvD K B (tOp (rI0 fun i j => .int (g i j)) ta tb) σ (.int (g i j)) := fun H dk Γ Δ Q hb hS q =>
  h1 H dk Γ Δ _ hb hS fun v H1 Δ1 s1 hS1 d1 => h2 H1 dk Γ Δ1 _ (hb.trans s1) hS1 fun u H2 Δ2 s2 hS2 d2 => by
    obtain rfl := d1.isInt hS1
    obtain rfl := d2.isInt hS2
    exact ⟨i, j, rfl, rfl, q _ _ _ (s1.trans s2) hS2 (.int _)⟩
theorem ed_I {C : Int → Int → Prop} {g : Int → Int → Int} (h1 : EvD K B ta σ (.int i)) (h2 : EvD K B tb σ (.int j)) (hc : C i j) : EvD K B (tOp (rI C fun i j => .int (g i j)) ta tb) σ (.int (g i j)) := fun H dk Γ Δ Q hb hS q =>
  h1 H dk Γ Δ _ hb hS fun v H1 Δ1 s1 hS1 d1 => h2 H1 dk Γ Δ1 _ (hb.trans s1) hS1 fun u H2 Δ2 s2 hS2 d2 => by
    obtain rfl := d1.isInt hS1
    obtain rfl := d2.isInt hS2
    exact ⟨i, j, rfl, rfl, hc, q _ _ _ (s1.trans s2) hS2 (.int _)⟩
theorem ed_neg {g : Int → Int} (h1 : EvD K B ta σ (.int i)) : EvD K B (tUn (rU fun i => .int (g i)) ta) σ (.int (g i)) := fun H dk Γ Δ Q hb hS q =>
  h1 H dk Γ Δ _ hb hS fun v H1 Δ1 s1 hS1 d1 => by
    obtain rfl := d1.isInt hS1
    exact ⟨i, rfl, q _ _ _ s1 hS1 (.int _)⟩
/-- to go on from a datum -/
theorem EvD.go (h : EvD K B ta σ d) {H : Hp} {dk : Dk} {Γ : List (Addr × List D)} {Δ : List (V × D)} {Q : VK} (hb : Sub B Δ) (hS : St K H dk Γ Δ) (q : ∀ v H', St K H' dk Γ ((v, d) :: Δ) → Q v H') : ta σ H Q :=
  h H dk Γ Δ Q hb hS fun v H' Δ' s hS' dv => q v H' ((hS'.also dv).weaken fun x hx => by
    rcases List.mem_cons.mp hx with rfl | hx
    · exact List.mem_cons_self ..
    · exact List.mem_cons_of_mem _ (s x hx))
end
theorem sub_nil {Δ : List (V × D)} : Sub [] Δ := fun _ h => nomatch h
section
variable {K : PySem.W.Frag} {B : List (V × D)} {σ : L2.St} {H : Hp} {dk : Dk} {Γ : List (Addr × List D)} {Δ : List (V × D)} {tr : TA} {ds es : List D} {p r : Addr} {Q : VK}
/-- a list display that may change -/
theorem EvDs.make (h : EvDs K B tr σ ds) (hb : Sub B Δ) (hS : St K H dk Γ Δ) (hz : ds.length ≤ 10000) (q : ∀ p H', St K H' dk ((p, ds) :: Γ) Δ → Q (.ref p) H') : tLst tr σ H Q :=
  h H dk Γ Δ _ hb hS fun vs H1 Δ1 s1 hS1 d1 => ⟨by rw [d1.len]; exact Nat.le_trans hz (by decide), fun p hp => q p _ ((hS1.make hp d1).weaken s1)⟩
/-- two lists put together -/
theorem St.cat (hS : St K H dk ((p, ds) :: (r, es) :: Γ) Δ) : ∃ xs zs, H p = some (.lst xs) ∧ H r = some (.lst zs) ∧ xs.length = ds.length ∧ zs.length = es.length ∧ ∀ t, H t = none → St K (upd H t (.lst (xs ++ zs))) dk ((t, ds ++ es) :: (p, ds) :: (r, es) :: Γ) Δ := by
  obtain ⟨xs, h1, h2, _, h3⟩ := hS.look
  obtain ⟨zs, k1, k2, _, _⟩ := hS.swap.look
  refine ⟨xs, zs, h1, k1, h2, k2, fun t ht => hS.make_ ht fun H0 I => dps_app (h3 H0 I) ?_⟩
  obtain ⟨_, vs, j1, j2⟩ := I.lists (r, es) (List.mem_cons_of_mem _ (List.mem_cons_self ..))
  rw [k1] at j1
  cases j1
  exact j2
end
/-! ### to see the next expression -/
section
variable {te ta tb : TE} {tz t u : TS} {D : Ends} {σ : L2.St} {H : Hp} {Q : VK} {i : Nat} {r : R2} {g : TG} {tx : TA} {rr : V → List V → Hp → VK → Prop}
theorem go_set (h : te σ H fun x H1 => tz D (σ.set i (some x)) H1) : tSeq (tAsg te (gName i)) tz D σ H := h
theorem go_setL (h : te σ H fun x H1 => D.nx (σ.set i (some x)) H1) : tAsg te (gName i) D σ H := h
theorem go_asg (h : te σ H fun x H1 => g x σ H1 fun σ2 H2 => tz D σ2 H2) : tSeq (tAsg te g) tz D σ H := h
theorem go_asgL (h : te σ H fun x H1 => g x σ H1 D.nx) : tAsg te g D σ H := h
theorem go_ret (h : te σ H D.rt) : tRet te D σ H := h
theorem go_seq (h : t { D with nx := u D } σ H) : tSeq t u D σ H := h
theorem go_drop (h : te σ H fun _ H1 => D.nx σ H1) : tDrop te D σ H := h
theorem go_op (h : ta σ H fun x H1 => tb σ H1 fun y H2 => r x y H2 Q) : tOp r ta tb σ H Q := h
theorem go_if {c : TT} (h : c σ H fun b H1 => if b = true then t D σ H1 else u D σ H1) : tIfS c t u D σ H := h
theorem go_ite {c : TT} (h : c σ H fun b H1 => if b = true then ta σ H1 Q else tb σ H1 Q) : tIf c ta tb σ H Q := h
theorem go_cut (M : L2.St → Hp → Prop) (h : t { D with nx := M } σ H) (k : ∀ σ' H', M σ' H' → u D σ' H') : Evl.tCut t u D σ H := ⟨M, h, k⟩
theorem go_and {c e : TT} {Q : Bool → Hp → Prop} (h : c σ H fun b H1 => if b = true then e σ H1 Q else Q false H1) : tAnd c e σ H Q := h
theorem go_next (h : D.nx σ H) : tNext D σ H := h
theorem go_or {c e : TT} {Q : Bool → Hp → Prop} (h : c σ H fun b H1 => if b = true then Q true H1 else e σ H1 Q) : tOr c e σ H Q := h
theorem go_test {Q : Bool → Hp → Prop} (h : te σ H fun x H' => ∃ k, x = .bl k ∧ Q k H') : tTest te σ H Q := h
theorem go_B {Q : Bool → Hp → Prop} (h : te σ H fun x H' => ∃ k, x = .bl k ∧ Q k H') : tB te σ H Q := h
theorem go_not {c : TT} {Q : Bool → Hp → Prop} (h : c σ H fun b H1 => Q (!b) H1) : tNot c σ H Q := h
end
section
variable {te ta : TE} {tr : TA} {σ : L2.St} {H : Hp} {Q : VK} {v : V} {r : List V → Hp → VK → Prop} {QA : List V → Hp → Prop}
theorem cps (P : V → Hp → Prop) (h : ∀ Q' : VK, (∀ v H', P v H' → Q' v H') → te σ H Q') (k : ∀ v H', P v H' → Q v H') : te σ H Q := h Q k
theorem go_cb (h : tr σ H fun vs H1 => r vs H1 Q) : tCB r tr σ H Q := h
theorem go_cons (h : te σ H fun x H1 => tr σ H1 fun xs H2 => QA (x :: xs) H2) : tCons te tr σ H QA := h
theorem go_c (h : Q v H) : tC v σ H Q := h
theorem go_nil (h : QA [] H) : tNil σ H QA := h
theorem go_lst (h : tr σ H fun xs H1 => xs.length ≤ sizeLine ∧ ∀ p, H1 p = none → Q (.ref p) (upd H1 p (.lst xs))) : tLst tr σ H Q := h
theorem go_tup (h : tr σ H fun xs H1 => xs.length ≤ sizeLine ∧ ∀ p, H1 p = none → Q (.ref p) (upd H1 p (.tup xs))) : tTup tr σ H Q := h
variable {K : PySem.W.Frag} {B : List (V × D)} {tb : TE} {i j : Int}
theorem ed_max2 (h1 : EvD K B ta σ (.int i)) (h2 : EvD K B tb σ (.int j)) : EvD K B (tCB (fun xs H Q => ∃ i j, xs = [V.int i, .int j] ∧ Q (.int (if j > i then j else i)) H) (tCons ta (tCons tb tNil))) σ (.int (if j > i then j else i)) := fun H dk Γ Δ Q hb hS q =>
  h1 H dk Γ Δ _ hb hS fun v H1 Δ1 s1 hS1 d1 => h2 H1 dk Γ Δ1 _ (hb.trans s1) hS1 fun u H2 Δ2 s2 hS2 d2 => by
    obtain rfl := d1.isInt hS1
    obtain rfl := d2.isInt hS2
    exact ⟨i, j, rfl, q _ _ _ (s1.trans s2) hS2 (.int _)⟩
theorem ed_min2 (h1 : EvD K B ta σ (.int i)) (h2 : EvD K B tb σ (.int j)) : EvD K B (tCB (fun xs H Q => ∃ i j, xs = [V.int i, .int j] ∧ Q (.int (if j < i then j else i)) H) (tCons ta (tCons tb tNil))) σ (.int (if j < i then j else i)) := fun H dk Γ Δ Q hb hS q =>
  h1 H dk Γ Δ _ hb hS fun v H1 Δ1 s1 hS1 d1 => h2 H1 dk Γ Δ1 _ (hb.trans s1) hS1 fun u H2 Δ2 s2 hS2 d2 => by
    obtain rfl := d1.isInt hS1
    obtain rfl := d2.isInt hS2
    exact ⟨i, j, rfl, q _ _ _ (s1.trans s2) hS2 (.int _)⟩
end
theorem atI_m1 {α : Type} {xs : List α} {v : α} (h : xs[xs.length - 1]? = some v) : atI xs (-1) = some v := by
  obtain ⟨hl, _⟩ := List.getElem?_eq_some_iff.mp h
  have e : ixN xs.length (-1) = some (xs.length - 1) := by
    unfold ixN
    rw [if_neg (by omega), if_pos (by omega)]
    congr 1
    omega
  unfold atI
  rw [e]
  exact h
theorem St.last {K : PySem.W.Frag} {H : Hp} {dk : Dk} {Γ : List (Addr × List D)} {Δ : List (V × D)} {p : Addr} {ds : List D} {x : D} (h : St K H dk ((p, ds) :: Γ) Δ) (hx : ds[ds.length - 1]? = some x) :
    ∃ vs v, H p = some (.lst vs) ∧ atI vs (-1) = some v ∧ St K H dk ((p, ds) :: Γ) ((v, x) :: Δ) := by
  obtain ⟨vs, h1, h2, h3, _⟩ := h.look
  obtain ⟨v, h4, h5⟩ := h3 _ x hx
  exact ⟨vs, v, h1, atI_m1 (by rw [h2]; exact h4), h5⟩
section
variable {te : TE} {ta : TA} {g : TG} {tb tz : TS} {D : Ends} {σ : L2.St} {H : Hp} {wi : TI} {R : It → Hp → Prop}
/-- a loop, once it is known what is walked -/
abbrev FK (g : TG) (tb : TS) (D : Ends) (σ : L2.St) : It → Hp → Prop := fun J H1 => ∃ W : Nat → Nat → L2.St → Hp → Prop, (∃ m, W 0 m σ H1) ∧ ∀ i m σ H, W i m σ H →
  (J.stop i H ∧ D.nx σ H) ∨ (J.go i H ∧ ∃ N : L2.St → Hp → Prop, (∀ σ' H', N σ' H' → ∃ m', m' < m ∧ W (i + 1) m' σ' H') ∧ ∀ x H', J.yld i H x H' → g x σ H' fun σ2 H2 => tb { D with nx := N, ct := N, bk := D.nx } σ2 H2)
theorem go_for (h : wi σ H (FK g tb { D with nx := tz D } σ)) : tSeq (tFor wi g tb) tz D σ H := h
theorem go_rng1 (h : te σ H fun x H1 => ∃ j : Int, [x] = [V.int j] ∧ -(2 ^ 62) ≤ j ∧ j < 2 ^ 62 ∧ R (Itr 0 j.toNat) H1) : iRng1 (tCons te tNil) σ H R := h
theorem go_walkL {K : PySem.W.Frag} (h : te σ H fun x H1 => ∃ a, x = .ref a ∧ (∃ xs, SqL K H1 a xs) ∧ R (Itl K a) H1) : iList K te σ H R := h
theorem go_walkEL {K : PySem.W.Frag} (h : te σ H fun x H1 => ∃ a xs, [x] = [V.ref a] ∧ SqL K H1 a xs ∧ R (Ite K a) H1) : iEnum K (tCons te tNil) σ H R := h
end
theorem go_yes {σ : L2.St} {H : Hp} {A B : Hp → Prop} (h : A H) : tYes σ H (fun b H3 => if b = true then A H3 else B H3) := by
  show if true = true then A H else B H
  exact iteT h
section
variable {K : PySem.W.Frag} {B : List (V × D)} {σ : L2.St} {ta tb te : TE} {tr : TA} {d : D} {v : V} {H : Hp} {dk : Dk} {Γ : List (Addr × List D)} {Δ : List (V × D)} {Q : VK}
theorem Dv.isBl {b : Bool} (hS : St K H dk Γ Δ) (h : Dv Δ v (.bool b)) : v = .bl b := by
  cases hS.dp h
  rfl
theorem Dv.isStr {x : Str} (hS : St K H dk Γ Δ) (h : Dv Δ v (.str x)) : v = .str x := by
  cases hS.dp h
  rfl
theorem Dv.isNon (hS : St K H dk Γ Δ) (h : Dv Δ v .none) : v = .non := by
  cases hS.dp h
  rfl
/-- a list or a tuple -/
def Disp : D → Prop
  | .list _ => True
  | .tuple _ => True
  | _ => False
theorem Dv.isRef (hS : St K H dk Γ Δ) (h : Dv Δ v d) (hd : Disp d) : ∃ a, v = .ref a := by
  have g := hS.dp h
  cases d with
  | list ds => cases g; exact ⟨_, rfl⟩
  | tuple ds => cases g; exact ⟨_, rfl⟩
  | none => exact hd.elim
  | bool b => exact hd.elim
  | int i => exact hd.elim
  | str x => exact hd.elim
  | dict x => exact hd.elim
theorem ed_repr {n k : Nat} (h : EvD K B te σ d) (hd : Disp d) (sm : Sm n k d) (hn : n ≤ 16000000) (hk : k ≤ 60) : EvD K B (tCB (rRepr K) (tCons te tNil)) σ (.str d.shown) := fun H dk Γ Δ Q hb hS q =>
  h H dk Γ Δ _ hb hS fun v H1 Δ1 s1 hS1 d1 => by
    obtain ⟨a, rfl⟩ := d1.isRef hS1 hd
    exact ⟨a, d, rfl, hS1.dp d1, sm.show_, Nat.le_trans sm.deep hk, Nat.le_trans sm.long (Nat.le_trans hn (by decide)), q _ _ _ s1 hS1 (.str _)⟩
theorem ed_neS {x y : Str} (h1 : EvD K B ta σ (.str x)) (h2 : EvD K B tb σ (.str y)) : EvD K B (tOp rNe ta tb) σ (.bool (!decide (x = y))) := fun H dk Γ Δ Q hb hS q =>
  h1 H dk Γ Δ _ hb hS fun v H1 Δ1 s1 hS1 d1 => h2 H1 dk Γ Δ1 _ (hb.trans s1) hS1 fun u H2 Δ2 s2 hS2 d2 => by
    obtain rfl := d1.isStr hS1
    obtain rfl := d2.isStr hS2
    have e : decide (V.str x = V.str y) = decide (x = y) := decide_eq_decide.mpr ⟨fun h => V.str.inj h, fun h => by rw [h]⟩
    refine ⟨rfl, ?_⟩
    rw [e]
    exact q _ _ _ (s1.trans s2) hS2 (.bl _)
theorem ed_neB {x y : Bool} (h1 : EvD K B ta σ (.bool x)) (h2 : EvD K B tb σ (.bool y)) : EvD K B (tOp rNe ta tb) σ (.bool (!decide (x = y))) := fun H dk Γ Δ Q hb hS q =>
  h1 H dk Γ Δ _ hb hS fun v H1 Δ1 s1 hS1 d1 => h2 H1 dk Γ Δ1 _ (hb.trans s1) hS1 fun u H2 Δ2 s2 hS2 d2 => by
    obtain rfl := d1.isBl hS1
    obtain rfl := d2.isBl hS2
    have e : decide (V.bl x = V.bl y) = decide (x = y) := decide_eq_decide.mpr ⟨fun h => V.bl.inj h, fun h => by rw [h]⟩
    refine ⟨rfl, ?_⟩
    rw [e]
    exact q _ _ _ (s1.trans s2) hS2 (.bl _)
theorem ed_notB {x y : Bool} (h1 : EvD K B ta σ (.bool x)) (h2 : EvD K B tb σ (.bool y)) : EvD K B (tOp rNotB ta tb) σ (.bool (!decide (x = y))) := fun H dk Γ Δ Q hb hS q =>
  h1 H dk Γ Δ _ hb hS fun v H1 Δ1 s1 hS1 d1 => h2 H1 dk Γ Δ1 _ (hb.trans s1) hS1 fun u H2 Δ2 s2 hS2 d2 => by
    obtain rfl := d1.isBl hS1
    obtain rfl := d2.isBl hS2
    exact ⟨x, y, rfl, rfl, q _ _ _ (s1.trans s2) hS2 (.bl _)⟩
/-- a test that is worth a known truth value -/
theorem EvD.test {b : Bool} {Q : Bool → Hp → Prop} (h : EvD K B te σ (.bool b)) (hb : Sub B Δ) (hS : St K H dk Γ Δ) (q : ∀ H', St K H' dk Γ Δ → Q b H') : tTest te σ H Q :=
  h H dk Γ Δ _ hb hS fun v H1 Δ1 s1 hS1 d1 => by
    obtain rfl := d1.isBl hS1
    exact ⟨b, rfl, q H1 (hS1.weaken s1)⟩
theorem EvD.testB {b : Bool} {Q : Bool → Hp → Prop} (h : EvD K B te σ (.bool b)) (hb : Sub B Δ) (hS : St K H dk Γ Δ) (q : ∀ H', St K H' dk Γ Δ → Q b H') : tB te σ H Q := EvD.test h hb hS q
/-- arguments -/
theorem EvDs.go {ds : List D} {Q : List V → Hp → Prop} (h : EvDs K B tr σ ds) (hb : Sub B Δ) (hS : St K H dk Γ Δ) (q : ∀ vs H' Δ', Sub Δ Δ' → St K H' dk Γ Δ' → DvAll Δ' vs ds → Q vs H') : tr σ H Q := h H dk Γ Δ Q hb hS q
end
end EE

namespace K02
open PySem PySem.Spec PyProof.Rows L2 EE
def topS (i : Nat) : Stmt := PySem.Challenge.pw_everyexact_k02_whole_what_fits.main.body.getD i (.Pass ⟨0, 0, 0, 0⟩)
abbrev sfits_rule : Stmt := topS 3
theorem scfits_rule : FnScope ["rule", "number", "bound", "step"] ["rule", "number"] (defScope sfits_rule) := ⟨rfl, rfl, rfl, by decide +kernel, rfl, by decide +kernel, by decide +kernel⟩
abbrev sbroken : Stmt := topS 2
theorem scbroken : FnScope ["scale", "number", "place", "rule"] ["scale", "number"] (defScope sbroken) := ⟨rfl, rfl, rfl, by decide +kernel, rfl, by decide +kernel, by decide +kernel⟩
abbrev sfits : Stmt := topS 1
theorem scfits : FnScope ["scale", "number"] ["scale", "number"] (defScope sfits) := ⟨rfl, rfl, rfl, by decide +kernel, rfl, by decide +kernel, by decide +kernel⟩
abbrev s_law_deck : Stmt := topS 5
theorem sc_law_deck : FnScope ["script", "deck", "cell", "whole", "state"] ["script"] (defScope s_law_deck) := ⟨rfl, rfl, rfl, by decide +kernel, rfl, by decide +kernel, by decide +kernel⟩
abbrev s_law_draw : Stmt := topS 6
theorem sc_law_draw : FnScope ["deck", "many", "whole", "one", "two"] ["deck", "many"] (defScope s_law_draw) := ⟨rfl, rfl, rfl, by decide +kernel, rfl, by decide +kernel, by decide +kernel⟩
abbrev s_law_pick : Stmt := topS 7
theorem sc_law_pick : FnScope ["deck", "items"] ["deck", "items"] (defScope s_law_pick) := ⟨rfl, rfl, rfl, by decide +kernel, rfl, by decide +kernel, by decide +kernel⟩
abbrev s_law_mixed : Stmt := topS 8
theorem sc_law_mixed : FnScope ["deck", "items", "left", "found"] ["deck", "items"] (defScope s_law_mixed) := ⟨rfl, rfl, rfl, by decide +kernel, rfl, by decide +kernel, by decide +kernel⟩
abbrev s_law_divisor : Stmt := topS 9
theorem sc_law_divisor : FnScope ["one", "other"] ["one", "other"] (defScope s_law_divisor) := ⟨rfl, rfl, rfl, by decide +kernel, rfl, by decide +kernel, by decide +kernel⟩
abbrev s_law_multiple : Stmt := topS 10
theorem sc_law_multiple : FnScope ["steps", "found", "step"] ["steps"] (defScope s_law_multiple) := ⟨rfl, rfl, rfl, by decide +kernel, rfl, by decide +kernel, by decide +kernel⟩
abbrev s_law_fits : Stmt := topS 11
theorem sc_law_fits : FnScope ["scale", "number", "bound", "step"] ["scale", "number"] (defScope s_law_fits) := ⟨rfl, rfl, rfl, by decide +kernel, rfl, by decide +kernel, by decide +kernel⟩
abbrev s_law_raised : Stmt := topS 12
theorem sc_law_raised : FnScope ["base", "times", "found", "turn"] ["base", "times"] (defScope s_law_raised) := ⟨rfl, rfl, rfl, by decide +kernel, rfl, by decide +kernel, by decide +kernel⟩
abbrev s_law_step : Stmt := topS 13
theorem sc_law_step : FnScope ["deck", "kinds", "found", "prime", "most"] ["deck", "kinds"] (defScope s_law_step) := ⟨rfl, rfl, rfl, by decide +kernel, rfl, by decide +kernel, by decide +kernel⟩
abbrev s_law_kinds : Stmt := topS 14
theorem sc_law_kinds : FnScope ["deck", "menu"] ["deck"] (defScope s_law_kinds) := ⟨rfl, rfl, rfl, by decide +kernel, rfl, by decide +kernel, by decide +kernel⟩
abbrev s_law_great : Stmt := topS 15
theorem sc_law_great : FnScope ["deck", "most", "kinds", "found", "top", "many", "turn", "step", "times", "bound"] ["deck", "most"] (defScope s_law_great) := ⟨rfl, rfl, rfl, by decide +kernel, rfl, by decide +kernel, by decide +kernel⟩
abbrev s_law_small : Stmt := topS 16
theorem sc_law_small : FnScope ["deck", "most", "top", "steps", "found", "turn", "step", "times", "bound"] ["deck", "most", "top"] (defScope s_law_small) := ⟨rfl, rfl, rfl, by decide +kernel, rfl, by decide +kernel, by decide +kernel⟩
abbrev s_law_first : Stmt := topS 17
theorem sc_law_first : FnScope ["scale", "number", "place", "rule"] ["scale", "number"] (defScope s_law_first) := ⟨rfl, rfl, rfl, by decide +kernel, rfl, by decide +kernel, by decide +kernel⟩
abbrev s_law_numbers : Stmt := topS 18
theorem sc_law_numbers : FnScope ["deck", "scale", "found", "turn", "bound", "step", "whole", "limit", "own", "base", "number"] ["deck", "scale"] (defScope s_law_numbers) := ⟨rfl, rfl, rfl, by decide +kernel, rfl, by decide +kernel, by decide +kernel⟩
abbrev slaw : Stmt := topS 19
theorem sclaw : FnScope ["script", "deck", "turn", "scale", "turned", "kept", "more", "spot", "number", "due", "place", "seen"] ["script"] (defScope slaw) := ⟨rfl, rfl, rfl, by decide +kernel, rfl, by decide +kernel, by decide +kernel⟩
/-! ### the mathematics -/
abbrev Rule := Int × Int
def ruleD (r : Rule) : D := .tuple [.int r.1, .int r.2]
def scaleD (rs : List Rule) : D := .tuple (rs.map ruleD)
def fitR (r : Rule) (n : Int) : Bool := decide ((if n < 0 then -n else n) ≤ r.1) || (!decide (r.2 = 0) && decide (n % r.2 = 0))
def fitsAll (rs : List Rule) (n : Int) : Bool := rs.all fun r => fitR r n
def firstBad : List Rule → Int → Option Nat
  | [], _ => none
  | r :: rs, n => if fitR r n = true then (firstBad rs n).map (· + 1) else some 0
def placeV : Option Nat → V
  | none => .non
  | some i => .int (i : Int)
def placeD : Option Nat → D
  | none => .none
  | some i => .int (i : Int)
def RuleOk (r : Rule) : Prop := 0 ≤ r.1 ∧ r.1 ≤ 10 ^ 60 ∧ (r.2 = 0 ∨ (2 ≤ r.2 ∧ r.2 < 2 ^ 1400))
def RulesOk (n : Nat) (rs : List Rule) : Prop := rs.length ≤ n ∧ ∀ r ∈ rs, RuleOk r
/-! ### the promises -/
def spfits_rule (K : PySem.W.Frag) : Sp := fun vs H Q _ => ∃ (dk : Dk) (Γ : List (Addr × List D)) (Δ : List (V × D)) (a : Addr) (r : Rule) (n : Int), vs = [.ref a, .int n] ∧ St K H dk Γ Δ ∧ (V.ref a, ruleD r) ∈ Δ ∧ 0 ≤ r.2 ∧ ∀ H', St K H' dk Γ Δ → Q (.bl (fitR r n)) H'
def spbroken (K : PySem.W.Frag) : Sp := fun vs H Q _ => ∃ (dk : Dk) (Γ : List (Addr × List D)) (Δ : List (V × D)) (a : Addr) (rs : List Rule) (n : Int), vs = [.ref a, .int n] ∧ St K H dk Γ Δ ∧ (V.ref a, scaleD rs) ∈ Δ ∧ (∀ r ∈ rs, 0 ≤ r.2) ∧ ∀ H', St K H' dk Γ Δ → Q (placeV (firstBad rs n)) H'
def spfits (K : PySem.W.Frag) : Sp := fun vs H Q _ => ∃ (dk : Dk) (Γ : List (Addr × List D)) (Δ : List (V × D)) (a : Addr) (rs : List Rule) (n : Int), vs = [.ref a, .int n] ∧ St K H dk Γ Δ ∧ (V.ref a, scaleD rs) ∈ Δ ∧ (∀ r ∈ rs, 0 ≤ r.2) ∧ ∀ H', St K H' dk Γ Δ → Q (.bl (fitsAll rs n)) H'
def sp_law_fits (K : PySem.W.Frag) : Sp := spfits K
def sp_law_first (K : PySem.W.Frag) : Sp := spbroken K
def sp_law_deck (K : PySem.W.Frag) : Sp := fun vs H Q _ => ∃ (a : Addr) (ns : List Int), vs = [.ref a] ∧ SqL K H a (ns.map V.int) ∧ ns.length ≤ 63 ∧ ∀ H' d l, St K H' (some (d, l)) [] [] → Q (.ref d) H'
def sp_law_draw (K : PySem.W.Frag) : Sp := fun vs H Q _ => ∃ (d l : Addr) (m : Int) (Γ : List (Addr × List D)) (Δ : List (V × D)), vs = [.ref d, .int m] ∧ St K H (some (d, l)) Γ Δ ∧ m.natAbs < 2 ^ 8000 ∧
  ∀ H' r, St K H' (some (d, l)) Γ Δ → 0 ≤ r → (r < m ∨ r = 0) → Q (.int r) H'
def sp_law_pick (K : PySem.W.Frag) : Sp := fun vs H Q _ => ∃ (d l a : Addr) (ds : List D) (Γ : List (Addr × List D)) (Δ : List (V × D)), vs = [.ref d, .ref a] ∧ St K H (some (d, l)) Γ Δ ∧ (V.ref a, PyData.list ds) ∈ Δ ∧ ds ≠ [] ∧ ds.length ≤ 10000 ∧
  ∀ H' v x, x ∈ ds → St K H' (some (d, l)) Γ ((v, x) :: Δ) → Q v H'
def sp_law_mixed (K : PySem.W.Frag) : Sp := fun vs H Q _ => ∃ (d l a : Addr) (ds : List D) (Γ : List (Addr × List D)) (Δ : List (V × D)), vs = [.ref d, .ref a] ∧ St K H (some (d, l)) Γ Δ ∧ (V.ref a, PyData.list ds) ∈ Δ ∧ Lay 60 ds ∧ ds.length ≤ 10000 ∧
  ∀ H' p es, es.Perm ds → St K H' (some (d, l)) ((p, es) :: Γ) Δ → Q (.ref p) H'
def sp_law_divisor (K : PySem.W.Frag) : Sp := fun vs H Q _ => ∃ (x y : Int), vs = [.int x, .int y] ∧ 0 ≤ x ∧ 0 ≤ y ∧ Q (.int ((Int.gcd x y : Nat) : Int)) H
def sp_law_multiple (K : PySem.W.Frag) : Sp := fun vs H Q _ => ∃ (dk : Dk) (Γ : List (Addr × List D)) (Δ : List (V × D)) (a : Addr) (ns : List Int), vs = [.ref a] ∧ St K H dk Γ Δ ∧ (V.ref a, PyData.list (ns.map PyData.int)) ∈ Δ ∧ (∀ x ∈ ns, 0 < x ∧ x < 2 ^ 1400) ∧ ns.length ≤ 100 ∧
  ∀ H' (m : Int), St K H' dk Γ Δ → 1 ≤ m → m < 2 ^ (1400 * ns.length + 1) → Q (.int m) H'
def sp_law_raised (K : PySem.W.Frag) : Sp := fun vs H Q _ => ∃ (b : Int) (t : Nat), vs = [.int b, .int (t : Int)] ∧ 0 ≤ b ∧ b < 2 ^ 7 ∧ t ≤ 1000 ∧ Q (.int (b ^ t)) H
/-- kinds of primes: such that no step is too great -/
def KindsOk (ks : List Rule) : Prop := ks ≠ [] ∧ (∀ k ∈ ks, 2 ≤ k.1 ∧ k.1 < 128 ∧ 0 ≤ k.2 ∧ k.2 ≤ 190) ∧ (ks.map fun k => max 3 k.2.toNat).sum ≤ 199
def kindsD (ks : List Rule) : D := .list (ks.map ruleD)
def sp_law_step (K : PySem.W.Frag) : Sp := fun vs H Q _ => ∃ (d l a : Addr) (ks : List Rule) (Γ : List (Addr × List D)) (Δ : List (V × D)), vs = [.ref d, .ref a] ∧ St K H (some (d, l)) Γ Δ ∧ (V.ref a, kindsD ks) ∈ Δ ∧ KindsOk ks ∧
  ∀ H' (m : Int), St K H' (some (d, l)) Γ Δ → 2 ≤ m → m < 2 ^ 1400 → Q (.int m) H'
def sp_law_kinds (K : PySem.W.Frag) : Sp := fun vs H Q _ => ∃ (d l : Addr) (Γ : List (Addr × List D)) (Δ : List (V × D)), vs = [.ref d] ∧ St K H (some (d, l)) Γ Δ ∧
  ∀ H' v ks, KindsOk ks → St K H' (some (d, l)) Γ ((v, kindsD ks) :: Δ) → Q v H'
def sp_law_great (K : PySem.W.Frag) : Sp := fun vs H Q _ => ∃ (d l : Addr) (m : Int) (Γ : List (Addr × List D)) (Δ : List (V × D)), vs = [.ref d, .int m] ∧ St K H (some (d, l)) Γ Δ ∧ 1 ≤ m ∧ m ≤ 40 ∧
  ∀ H' v rs, RulesOk 40 rs → rs ≠ [] → St K H' (some (d, l)) Γ ((v, scaleD rs) :: Δ) → Q v H'
def sp_law_small (K : PySem.W.Frag) : Sp := fun vs H Q _ => ∃ (d l : Addr) (m t : Int) (Γ : List (Addr × List D)) (Δ : List (V × D)), vs = [.ref d, .int m, .int t] ∧ St K H (some (d, l)) Γ Δ ∧ 0 ≤ m ∧ m ≤ 40 ∧ 0 ≤ t ∧ t ≤ 1000 ∧
  ∀ H' v rs, RulesOk 40 rs → St K H' (some (d, l)) Γ ((v, scaleD rs) :: Δ) → Q v H'
def sp_law_numbers (K : PySem.W.Frag) : Sp := fun vs H Q _ => ∃ (d l : Addr) (a : Addr) (rs : List Rule) (Γ : List (Addr × List D)) (Δ : List (V × D)), vs = [.ref d, .ref a] ∧ St K H (some (d, l)) Γ Δ ∧ (V.ref a, scaleD rs) ∈ Δ ∧ RulesOk 40 rs ∧
  ∀ H' p (ns : List Int), ns.length ≤ 100 → St K H' (some (d, l)) ((p, ns.map PyData.int) :: Γ) Δ → Q (.ref p) H'
def splaw (K : PySem.W.Frag) : Sp := fun vs H Q _ => ∃ (a : Addr) (ns : List Int), vs = [.ref a] ∧ SqL K H a (ns.map V.int) ∧ ns.length ≤ 63 ∧ ∀ H', Q (.bl true) H'
/-! ### draws and picks as steps -/
section
variable {K : PySem.W.Frag} {B : List (V × D)} {σ : L2.St} {H : Hp} {d l : Addr} {Γ : List (Addr × List D)} {Δ : List (V × D)} {te : TE} {ds : List D} {m : Int} {Q : VK} {E : XK} {i : Nat}
theorem go_draw (e : σ[i]? = some (some (.ref d))) (h : EvD K B te σ (.int m)) (hb : Sub B Δ) (hS : St K H (some (d, l)) Γ Δ) (hm : m.natAbs < 2 ^ 8000) (q : ∀ H' r, St K H' (some (d, l)) Γ Δ → 0 ≤ r → (r < m ∨ r = 0) → Q (.int r) H') :
    tCall (sp_law_draw K) [] E (tCons (tVar i) (tCons te tNil)) σ H Q :=
  ⟨_, e, h H _ Γ Δ _ hb hS fun v H1 Δ1 s1 hS1 d1 => by
    obtain rfl := d1.isInt hS1
    exact ⟨d, l, m, Γ, Δ, rfl, hS1.weaken s1, hm, q⟩⟩
theorem go_pick (e : σ[i]? = some (some (.ref d))) (h : EvD K B te σ (.list ds)) (hb : Sub B Δ) (hS : St K H (some (d, l)) Γ Δ) (hne : ds ≠ []) (hz : ds.length ≤ 10000) (q : ∀ H' v x, x ∈ ds → St K H' (some (d, l)) Γ ((v, x) :: Δ) → Q v H') :
    tCall (sp_law_pick K) [] E (tCons (tVar i) (tCons te tNil)) σ H Q :=
  ⟨_, e, h.go hb hS fun v H1 hS1 => by
    obtain ⟨a, rfl⟩ := hS1.lref_of (List.mem_cons_self ..)
    exact ⟨d, l, a, ds, Γ, _, rfl, hS1, List.mem_cons_self .., hne, hz, fun H' v x hx hS2 => q H' v x hx (hS2.weaken fun y hy => by
      rcases List.mem_cons.mp hy with rfl | hy
      · exact List.mem_cons_self ..
      · exact List.mem_cons_of_mem _ (List.mem_cons_of_mem _ hy))⟩⟩
end
theorem small8000 {m : Int} (h0 : 0 ≤ m) (h : m ≤ 10 ^ 70) : m.natAbs < 2 ^ 8000 := by
  have e : (10 : Nat) ^ 70 < 2 ^ 8000 := by decide +kernel
  have : m.natAbs ≤ 10 ^ 70 := by omega
  exact Nat.lt_of_le_of_lt this e
def unrule : D → Rule
  | .tuple [.int a, .int b] => (a, b)
  | _ => (0, 0)
theorem perm_rules {es : List D} {rs : List Rule} (h : es.Perm (rs.map ruleD)) : ∃ rs' : List Rule, es = rs'.map ruleD ∧ rs'.Perm rs := by
  refine ⟨es.map unrule, ?_, ?_⟩
  · have hall : ∀ e ∈ es, (ruleD ∘ unrule) e = e := fun e he => by
      obtain ⟨r, _, rfl⟩ := List.mem_map.mp (h.subset he)
      rfl
    rw [List.map_map, List.map_congr_left hall]
    exact (List.map_id' es).symm
  · have g := h.map unrule
    rw [List.map_map] at g
    have e : rs.map (unrule ∘ ruleD) = rs := by
      have : (unrule ∘ ruleD) = id := by
        funext r
        rfl
      rw [this, List.map_id]
    rw [e] at g
    exact g
theorem lay_rules (rs : List Rule) : Lay 60 (rs.map ruleD) := lay_of fun d hd => by
  obtain ⟨r, _, rfl⟩ := List.mem_map.mp hd
  unfold ruleD
  exact ⟨by simp [PyData.canLay0, PyData.canLayAll0], by simp [PyData.depth, PyData.depthAll]⟩
theorem cut_take (xs : List V) (n : Nat) : cutV xs none (some (n : Int)) = xs.take n := by
  unfold cutV
  rw [HT.sIx_nat, HT.sIx_none, List.drop_zero, Nat.sub_zero]
  by_cases h : n ≤ xs.length
  · rw [Nat.min_eq_left h]
  · rw [Nat.min_eq_right (by omega), List.take_of_length_le (Nat.le_refl _), List.take_of_length_le (by omega)]
/-- found != [] -/
theorem go_ne {K : PySem.W.Frag} {σ : L2.St} {H : Hp} {dk : Dk} {Γ : List (Addr × List D)} {Δ : List (V × D)} {f : Addr} {rs : List Rule} {i : Nat} {Q : VK} (e : σ[i]? = some (some (.ref f))) (hS : St K H dk ((f, rs.map ruleD) :: Γ) Δ)
    (q : ∀ H', St K H' dk ((f, rs.map ruleD) :: Γ) Δ → Q (.bl (!rs.isEmpty)) H') : tOp (rNeD K) (tVar i) (tLst tNil) σ H Q := by
  refine ⟨_, e, Nat.zero_le _, fun u hu => ?_⟩
  have hS6 := hS.lst (ds := []) hu .nil
  refine ne_nil_list (ds := rs.map ruleD) ((hS6.weaken (Δ' := []) fun _ h => nomatch h).freeze.dp (.of (List.mem_cons_self ..))) (.lst (SqL.of upd_same) .nil) (lay_rules rs) ?_
  rw [List.isEmpty_map]
  exact q _ (hS6.weaken fun _ => List.mem_cons_of_mem _)
/-! ### fits and broken as data -/
section
variable {K : PySem.W.Frag} {B : List (V × D)} {σ : L2.St} {ta tb : TE} {rs : List Rule} {n : Int} {E : XK} {H : Hp} {dk : Dk} {Γ : List (Addr × List D)} {Δ : List (V × D)} {v : V}
theorem dv_place {o : Option Nat} : Dv Δ (placeV o) (placeD o) := by
  cases o with
  | none => exact .non
  | some i => exact .int _
theorem is_place {o : Option Nat} (hS : St K H dk Γ Δ) (h : Dv Δ v (placeD o)) : v = placeV o := by
  cases o with
  | none => exact h.isNon hS
  | some i => exact h.isInt hS
theorem ed_fits (h1 : EvD K B ta σ (scaleD rs)) (h2 : EvD K B tb σ (.int n)) (hr : ∀ r ∈ rs, 0 ≤ r.2) : EvD K B (tCall (spfits K) [] E (tCons ta (tCons tb tNil))) σ (.bool (fitsAll rs n)) := fun H dk Γ Δ Q hb hS q =>
  h1 H dk Γ Δ _ hb hS fun v H1 Δ1 s1 hS1 d1 => h2 H1 dk Γ Δ1 _ (hb.trans s1) hS1 fun u H2 Δ2 s2 hS2 d2 => by
    obtain rfl := d2.isInt hS2
    have d3 := d1.sub s2
    obtain ⟨a, rfl⟩ := d3.isRef hS2 trivial
    exact ⟨dk, Γ, _, a, rs, n, rfl, hS2.also d3, List.mem_cons_self .., hr, fun H' hS' => q _ H' _ (s1.trans (s2.trans (Sub.cons .rfl'))) hS' (.bl _)⟩
theorem ed_broken (h1 : EvD K B ta σ (scaleD rs)) (h2 : EvD K B tb σ (.int n)) (hr : ∀ r ∈ rs, 0 ≤ r.2) : EvD K B (tCall (spbroken K) [] E (tCons ta (tCons tb tNil))) σ (placeD (firstBad rs n)) := fun H dk Γ Δ Q hb hS q =>
  h1 H dk Γ Δ _ hb hS fun v H1 Δ1 s1 hS1 d1 => h2 H1 dk Γ Δ1 _ (hb.trans s1) hS1 fun u H2 Δ2 s2 hS2 d2 => by
    obtain rfl := d2.isInt hS2
    have d3 := d1.sub s2
    obtain ⟨a, rfl⟩ := d3.isRef hS2 trivial
    exact ⟨dk, Γ, _, a, rs, n, rfl, hS2.also d3, List.mem_cons_self .., hr, fun H' hS' => q _ H' _ (s1.trans (s2.trans (Sub.cons .rfl'))) hS' dv_place⟩
/-- by names: number, scale -/
theorem ed_fitsK (h1 : EvD K B ta σ (scaleD rs)) (h2 : EvD K B tb σ (.int n)) (hr : ∀ r ∈ rs, 0 ≤ r.2) : EvD K B (tCallK0 (spfits K) (fun zs => zs.reverse) E (tCons tb (tCons ta tNil))) σ (.bool (fitsAll rs n)) := fun H dk Γ Δ Q hb hS q =>
  h2 H dk Γ Δ _ hb hS fun u H1 Δ1 s1 hS1 d2 => h1 H1 dk Γ Δ1 _ (hb.trans s1) hS1 fun v H2 Δ2 s2 hS2 d1 => by
    obtain rfl := d2.isInt hS1
    obtain ⟨a, rfl⟩ := d1.isRef hS2 trivial
    exact ⟨dk, Γ, _, a, rs, n, rfl, hS2.also d1, List.mem_cons_self .., hr, fun H' hS' => q _ H' _ (s1.trans (s2.trans (Sub.cons .rfl'))) hS' (.bl _)⟩
theorem ed_brokenK (h1 : EvD K B ta σ (scaleD rs)) (h2 : EvD K B tb σ (.int n)) (hr : ∀ r ∈ rs, 0 ≤ r.2) : EvD K B (tCallK0 (spbroken K) (fun zs => zs.reverse) E (tCons tb (tCons ta tNil))) σ (placeD (firstBad rs n)) := fun H dk Γ Δ Q hb hS q =>
  h2 H dk Γ Δ _ hb hS fun u H1 Δ1 s1 hS1 d2 => h1 H1 dk Γ Δ1 _ (hb.trans s1) hS1 fun v H2 Δ2 s2 hS2 d1 => by
    obtain rfl := d2.isInt hS1
    obtain ⟨a, rfl⟩ := d1.isRef hS2 trivial
    exact ⟨dk, Γ, _, a, rs, n, rfl, hS2.also d1, List.mem_cons_self .., hr, fun H' hS' => q _ H' _ (s1.trans (s2.trans (Sub.cons .rfl'))) hS' dv_place⟩
theorem ed_isN {o : Option Nat} (h1 : EvD K B ta σ (placeD o)) : EvD K B (tOp (fun x y H Q => y = .non ∧ Q (.bl (decide (x = .non))) H) ta (tC .non)) σ (.bool o.isNone) := fun H dk Γ Δ Q hb hS q =>
  h1 H dk Γ Δ _ hb hS fun v H1 Δ1 s1 hS1 d1 => by
    obtain rfl := is_place hS1 d1
    have e : decide (placeV o = V.non) = o.isNone := by cases o <;> rfl
    refine ⟨rfl, ?_⟩
    rw [e]
    exact q _ _ _ s1 hS1 (.bl _)
end
/-! ### how long their texts are -/
theorem sm_rule {r : Rule} (h : RuleOk r) : Sm 1147 1 (ruleD r) := by
  obtain ⟨h1, h2, h3⟩ := h
  have e : (10 : Int) ^ 60 < 10 ^ 570 := by decide +kernel
  have e2 : (2 : Int) ^ 1400 < 10 ^ 570 := by decide +kernel
  have e3 : (0 : Int) < 10 ^ 570 := by decide +kernel
  refine sm_tuple (n := 570) (k := 0) (ds := [.int r.1, .int r.2]) fun d hd => ?_
  simp only [List.mem_cons, List.not_mem_nil, or_false] at hd
  rcases hd with rfl | rfl
  · exact sm_int h1 (Int.lt_of_le_of_lt h2 e)
  · rcases h3 with h | ⟨h3, h4⟩
    · rw [h]
      exact sm_int (Int.le_refl 0) e3
    · exact sm_int (by omega) (Int.lt_trans h4 e2)
theorem sm_scale {rs : List Rule} (h : RulesOk 40 rs) : Sm 50000 2 (scaleD rs) := by
  refine (sm_tuple (n := 1147) (k := 1) (ds := rs.map ruleD) fun d hd => ?_).mono ?_ (Nat.le_refl _)
  · obtain ⟨r, hr, rfl⟩ := List.mem_map.mp hd
    exact sm_rule (h.2 r hr)
  · rw [List.length_map]
    have := h.1
    omega
theorem first_lt (n : Int) : ∀ (rs : List Rule) (i : Nat), firstBad rs n = some i → i < rs.length
  | [], i, h => by cases h
  | r :: rs, i, h => by
    rw [show firstBad (r :: rs) n = (if fitR r n = true then (firstBad rs n).map (· + 1) else some 0) from rfl] at h
    split at h
    · cases e : firstBad rs n with
      | none => rw [e] at h; cases h
      | some j =>
        rw [e] at h
        have := first_lt n rs j e
        cases h
        exact Nat.succ_lt_succ this
    · cases h
      rw [List.length_cons]
      omega
theorem sm_place {rs : List Rule} {n : Int} (h : rs.length ≤ 40) : Sm 570 0 (placeD (firstBad rs n)) := by
  cases e : firstBad rs n with
  | none => exact sm_non.mono (by decide) (Nat.le_refl _)
  | some i =>
    have := first_lt n rs i e
    exact sm_int (Int.natCast_nonneg _) (Int.lt_of_lt_of_le (show (i : Int) < 41 by omega) (by decide +kernel))

local macro_rules | `(tactic| walk_at "evd") => `(tactic| (repeat' (first | exact ed_int | exact ed_str | exact ed_non | exact ed_bl | exact eds_nil | refine eds_cons ?_ ?_ | refine ed_tup ?_ ?_ | refine ed_lst ?_ ?_ | refine ed_neg ?_ | refine ed_I0 ?_ ?_ | exact ed_varI rfl | exact Nat.le_of_ble_eq_true rfl)))
section
variable {P : Program} {w : World} {K : PySem.W.Frag} {mg : Str → Option Value} {base : Heap}
theorem okfits_rule {f : Addr} {fd : FuncData} (F : Fun K "fits_rule" "fits_rule" sfits_rule f fd) (nb : NB mg bnames)    : FnOk P w K mg base CX0 1 f fd ["rule", "number"] (spfits_rule K) := by
  refine F.ok scfits_rule (fun vs H Q E h => ?_) (fun cdv A outer s H vs Q E hr h => ?_)
  · obtain ⟨dk, Γ, Δ, a, r, n, rfl, _⟩ := h
    rfl
  · obtain ⟨dk, Γ, Δ, a, r, n, rfl, hS, hm, h2, q⟩ := h
    refine ⟨_, (pss_cons (ps_asg (pv 0) (pg_tup (by rfl) (pgs_cons (pg_name (i := 2) scfits_rule.nd rfl (.inl rfl)) (pgs_cons (pg_name (i := 3) scfits_rule.nd rfl (.inl rfl)) pgs_nil))))
        (pss_one (ps_ret (pe_or (pe_cmpR op_le (pe_callB call_abs (by rfl) (nb "abs" rfl) (by decide +kernel) (pa_cons (pv 1) pa_nil)) (pv 2) (nomark _)) (pe_one (pe_and (pe_cmpR op_ne (pv 3) pe_int (nomark _)) (pe_one (pe_cmpR op_eq (pe_op op_mod (pv 1) (pv 3)) pe_int (nomark _))))))))), ?_⟩
    have hT := hS.pair hm
    refine ⟨_, rfl, a, _, rfl, hT, rfl, _, _, rfl, _, _, rfl, rfl, ?_⟩
    refine ⟨_, rfl, _, rfl, _, rfl, _, _, rfl, rfl, _, rfl, ?_⟩
    have e0 : fitR r n = (decide ((if n < 0 then -n else n) ≤ r.1) || (!decide (r.2 = 0) && decide (n % r.2 = 0))) := rfl
    refine ite2 (fun e => ?_) (fun e => ?_)
    · have g := q H hS
      rw [e0, e] at g
      exact g
    · have e1 : decide ((if n < 0 then -n else n) ≤ r.1) = false := by simpa using e
      rw [e1, Bool.false_or] at e0
      refine ⟨_, rfl, rfl, _, rfl, ite2 (fun e2 => ?_) (fun e2 => ?_)⟩
      · have hz : r.2 ≠ 0 := by
          intro z
          rw [z] at e2
          exact absurd e2 (by decide)
        have g := q H hS
        rw [e0, decide_eq_false hz, Bool.not_false, Bool.true_and] at g
        refine ⟨_, rfl, _, rfl, _, _, rfl, rfl, by omega, rfl, ?_⟩
        have e3 : decide (V.int (n % r.2) = V.int 0) = decide (n % r.2 = 0) := by
          rw [dec_int]
          exact Bool.beq_eq_decide_eq _ _
        rw [← e3] at g
        exact g
      · have hz : r.2 = 0 := by
          apply Decidable.byContradiction
          intro z
          apply e2
          have : decide (V.int r.2 = V.int 0) = false := decide_eq_false fun y => z (V.int.inj y)
          rw [this]
          rfl
        have g := q H hS
        rw [e0, hz] at g
        exact g

theorem first_none (n : Int) : ∀ rs : List Rule, (∀ r ∈ rs, fitR r n = true) → firstBad rs n = none
  | [], _ => rfl
  | r :: rs, h => by
    show (if fitR r n = true then (firstBad rs n).map (· + 1) else some 0) = none
    rw [if_pos (h r (List.mem_cons_self ..)), first_none n rs fun x hx => h x (List.mem_cons_of_mem _ hx)]
    rfl
theorem first_at (n : Int) : ∀ (rs : List Rule) (i : Nat) (hi : i < rs.length), (∀ r ∈ rs.take i, fitR r n = true) → fitR rs[i] n = false → firstBad rs n = some i
  | [], i, hi, _, _ => absurd hi (Nat.not_lt_zero _)
  | r :: rs, 0, hi, h, hb => by
    show (if fitR r n = true then (firstBad rs n).map (· + 1) else some 0) = some 0
    have : fitR r n = false := hb
    rw [this]
    rfl
  | r :: rs, i + 1, hi, h, hb => by
    show (if fitR r n = true then (firstBad rs n).map (· + 1) else some 0) = some (i + 1)
    rw [if_pos (h r (by simp)), first_at n rs i (by simpa using hi) (fun x hx => h x (by rw [List.take_succ_cons]; exact List.mem_cons_of_mem _ hx)) hb]
    rfl
theorem okbroken {f : Addr} {fd : FuncData} (F : Fun K "broken" "broken" sbroken f fd) (nb : NB mg bnames) (Ffits_rule : Fd P w K mg base "fits_rule" 1 ["rule", "number"] (spfits_rule K))   : FnOk P w K mg base CX0 2 f fd ["scale", "number"] (spbroken K) := by
  refine F.ok scbroken (fun vs H Q E h => ?_) (fun cdv A outer s H vs Q E hr h => ?_)
  · obtain ⟨dk, Γ, Δ, a, rs, n, rfl, _⟩ := h
    rfl
  · obtain ⟨dk, Γ, Δ, a, rs, n, rfl, hS, hm, h2, q⟩ := h
    refine ⟨_, (pss_cons (ps_for PassesOwn.never rfl (pi_enumT (by rfl) (nb "enumerate" rfl) (pa_cons (pv 0) pa_nil)) (pg_tup (by rfl) (pgs_cons (pg_name (i := 2) scbroken.nd rfl (.inl rfl)) (pgs_cons (pg_name (i := 3) scbroken.nd rfl (.inl rfl)) pgs_nil)))
        (pss_one (ps_if (pt_not (pt_val (pe_fd Ffits_rule (hr.mono (by decide)) (by rfl) (pa_cons (pv 3) (pa_cons (pv 1) pa_nil))))) (pss_one (ps_ret (pv 2))) pss_nil)))
        (pss_one (ps_ret pe_non))), ?_⟩
    obtain ⟨vs, hT, hlen⟩ := hS.lenT hm
    refine ⟨_, rfl, a, vs, rfl, hT, for_it (n := rs.length) walkET (fun i σ H => ∃ y2 y3, σ = [some (.ref a), some (.int n), y2, y3] ∧ St K H dk Γ Δ ∧ ∀ r ∈ rs.take i, fitR r n = true)
      ⟨_, _, rfl, hS, fun r hr => by simp at hr⟩ (fun i σ H _ hP => ?_) (fun i x σ H H' hi hP hy => ?_) (fun σ H hP => ?_)⟩
    · obtain ⟨_, _, _, hS, _⟩ := hP
      obtain ⟨xs, h1, h3⟩ := hS.lenT hm
      exact ⟨xs, h1, by rw [h3, List.length_map]⟩
    · obtain ⟨y2, y3, rfl, hS, hall⟩ := hP
      obtain ⟨T, x, rfl, hT, rfl, f⟩ := hy
      obtain ⟨d, e1, hS1⟩ := hS.turnT hm f
      rw [List.getElem?_map, List.getElem?_eq_getElem hi] at e1
      cases Option.some.inj e1
      obtain ⟨ax, rfl⟩ := hS1.ref_of (List.mem_cons_self ..)
      have hS2 := hS1.enumd (i := i) hT
      refine ⟨T, _, rfl, SqT.of upd_same, rfl, _, _, rfl, _, _, rfl, rfl, ?_⟩
      refine ⟨_, rfl, _, rfl, dk, Γ, _, ax, rs[i], n, rfl, hS2, List.mem_cons_self .., h2 _ (List.getElem_mem hi), fun H' hS3 => ⟨_, rfl, ?_⟩⟩
      have hS4 := hS3.weaken (Δ' := Δ) fun _ => List.mem_cons_of_mem _
      cases hb : fitR rs[i] n with
      | true =>
        refine iteF ⟨_, _, rfl, hS4, fun r hr => ?_⟩
        rw [List.take_add_one, List.getElem?_eq_getElem hi] at hr
        rcases List.mem_append.mp hr with hr | hr
        · exact hall r hr
        · rw [List.mem_singleton.mp hr]
          exact hb
      | false =>
        refine iteT ⟨_, rfl, ?_⟩
        have g := q H' hS4
        rw [first_at n rs i hi hall hb] at g
        exact g
    · obtain ⟨y2, y3, rfl, hS, hall⟩ := hP
      have g := q H hS
      rw [first_none n rs (fun r hr => hall r (by rw [List.take_length]; exact hr))] at g
      exact g

theorem fits_first (n : Int) : ∀ rs : List Rule, fitsAll rs n = (firstBad rs n).isNone
  | [] => rfl
  | r :: rs => by
    have ih := fits_first n rs
    show (fitR r n && fitsAll rs n) = (if fitR r n = true then (firstBad rs n).map (· + 1) else some 0).isNone
    cases fitR r n with
    | true =>
      rw [if_pos rfl, Bool.true_and, ih]
      cases firstBad rs n <;> rfl
    | false => rfl
theorem okfits {f : Addr} {fd : FuncData} (F : Fun K "fits" "fits" sfits f fd) (nb : NB mg bnames) (Fbroken : Fd P w K mg base "broken" 2 ["scale", "number"] (spbroken K))   : FnOk P w K mg base CX0 3 f fd ["scale", "number"] (spfits K) := by
  refine F.ok scfits (fun vs H Q E h => ?_) (fun cdv A outer s H vs Q E hr h => ?_)
  · obtain ⟨dk, Γ, Δ, a, rs, n, rfl, _⟩ := h
    rfl
  · obtain ⟨dk, Γ, Δ, a, rs, n, rfl, hS, hm, h2, q⟩ := h
    refine ⟨_, (pss_one (ps_ret (pe_cmpR op_isN (pe_fd Fbroken (hr.mono (by decide)) (by rfl) (pa_cons (pv 0) (pa_cons (pv 1) pa_nil))) pe_non (nomark _)))), ?_⟩
    refine ⟨_, rfl, _, rfl, dk, Γ, Δ, a, rs, n, rfl, hS, hm, h2, fun H' hS' => ⟨rfl, ?_⟩⟩
    have g := q H' hS'
    rw [fits_first] at g
    have e : decide (placeV (firstBad rs n) = V.non) = (firstBad rs n).isNone := by
      cases firstBad rs n <;> rfl
    rw [e]
    exact g

theorem cut63 {ns : List Int} (h : ns.length ≤ 63) : cutV (ns.map V.int) none (some 63) = ns.map V.int := by
  unfold cutV
  rw [show HT.sIx (ns.map V.int).length (ns.map V.int).length (some 63) = min 63 (ns.map V.int).length from HT.sIx_nat _ _ 63, HT.sIx_none]
  rw [List.drop_zero, List.length_map]
  apply List.take_of_length_le
  rw [List.length_map]
  omega
theorem wS0 {K : PySem.W.Frag} {H : Hp} {a c d : Addr} {xs : List V} {o u : HO} (h : SqL K H a xs) (hc : H c = none) (hd : H d = some (.dK [])) : SqL K (upd (upd H c o) d u) a xs := by
  have ne : ∀ {w : HO}, H a = some w → (∀ k, w ≠ .dK k) → a ≠ c ∧ a ≠ d := fun e n => ⟨ne_of_none e hc, ne_of e hd (n [])⟩
  rcases h with (h | ⟨o, h⟩) | h
  · obtain ⟨n1, n2⟩ := ne h (by intro k z; cases z)
    exact .inl (.inl ((upd_ne n2).trans ((upd_ne n1).trans h)))
  · obtain ⟨n1, n2⟩ := ne h (by intro k z; cases z)
    exact .inl (.inr ⟨o, (upd_ne n2).trans ((upd_ne n1).trans h)⟩)
  · exact .inr h
theorem ok_law_deck {f : Addr} {fd : FuncData} (F : Fun K "_law_deck" "_law_deck" s_law_deck f fd) (nb : NB mg bnames)    : FnOk P w K mg base CX0 1 f fd ["script"] (sp_law_deck K) := by
  refine F.ok sc_law_deck (fun vs H Q E h => ?_) (fun cdv A outer s H vs Q E hr h => ?_)
  · obtain ⟨a, ns, rfl, _⟩ := h
    rfl
  · obtain ⟨a, ns, rfl, hS, hlen, q⟩ := h
    refine ⟨_, (pss_cons (ps_set (i := 1) sc_law_deck.nd rfl (.inl rfl) (pe_disp (pps_cons pe_str (pe_lst pa_nil) (pps_cons pe_str (pe_op op_add pe_int (pe_callB call_len_seq (by rfl) (nb "len" rfl) PySem.boot_len (pa_cons (pe_slice sl_list (pv 0) po_none (po_some pe_int)) pa_nil))) pps_nil)) (by rfl) (by rfl) (fun z => by cases z) (by decide)))
        (pss_cons (ps_for PassesOwn.never rfl (pi_list (pe_slice sl_list (pv 0) po_none (po_some pe_int))) (pg_name (i := 2) sc_law_deck.nd rfl (.inl rfl))
        (pss_cons (ps_set (i := 3) sc_law_deck.nd rfl (.inl rfl) (pe_callB call_abs (by rfl) (nb "abs" rfl) (by decide +kernel) (pa_cons (pv 2) pa_nil)))
        (Evl.pss_cut (ps_if (pt_cmpR op_ge (pv 3) (pe_op op_powW pe_int pe_int) (nomark _)) (pss_one (ps_dput (hu_of hr) (pv 1) pe_str (pe_op op_cat (pe_lst (pa_cons (pv 3) pa_nil)) (pe_dget (hu_of hr) (pv 1) pe_str (fun _ _ => rfl))) rfl)) pss_nil)
        (pss_cons (ps_set (i := 4) sc_law_deck.nd rfl (.inl rfl) (pe_op op_add (pe_op op_mul (pe_op op_add (pe_op op_add (pe_op op_add (pe_dget (hu_of hr) (pv 1) pe_str (fun _ _ => rfl)) (pe_op op_mul pe_int (pv 3))) (pe_callTy call_int1 (by rfl) (nb "int" rfl) (by decide +kernel) (pa_cons (pe_cmpR op_lt (pv 2) pe_int (nomark _)) pa_nil))) pe_int) pe_int) pe_int))
        (pss_one (ps_dput (hu_of hr) (pv 1) pe_str (pe_op op_mod (pe_callTy call_int1 (by rfl) (nb "int" rfl) (by decide +kernel) (pa_cons (pv 4) pa_nil)) pe_int) rfl))))))
        (pss_one (ps_ret (pv 1))))), ?_⟩
    -- deck = {'deep': [], 'state': ..}
    refine fun d hd => ⟨Nat.zero_le _, fun l hl => ?_⟩
    have nld : l ≠ d := (ne_of_none upd_same hl).symm
    have s0 : Same H (upd H d (.dK [])) := fun b o e => by rw [upd_ne (ne_of_none e hd)]; exact e
    have s1 : Same (upd H d (.dK [])) (upd (upd H d (.dK [])) l (.lst [])) := fun b o e => by rw [upd_ne (ne_of_none e hl)]; exact e
    have w1 : upd (upd H d (.dK [])) l (.lst []) d = some (.dK []) := (upd_ne nld.symm).trans upd_same
    have w2 : upd (upd H d (.dK [])) l (.lst []) l = some (.lst []) := upd_same
    have wS : SqL K (upd (upd H d (.dK [])) l (.lst [])) a (ns.map V.int) := (s0.trans s1).seq hS
    revert w1 w2 wS
    generalize upd (upd H d (.dK [])) l (.lst []) = H1
    intro w1 w2 wS
    refine ⟨_, rfl, _, rfl, a, _, rfl, wS, fun c hc => ?_⟩
    rw [cut63 hlen]
    have s2 : Same H1 (upd H1 c (.lst (ns.map V.int))) := fun b o e => by rw [upd_ne (ne_of_none e hc)]; exact e
    refine ⟨c, _, rfl, .inl (SqL.of upd_same), _, _, rfl, rfl, s2 _ _ w1, [(.inr "deep", .ref l), (.inr "state", .int _)], rfl, (by show 2 ≤ 15; decide), ?_⟩
    have hlen' : (ns.map V.int).length ≤ 63 := by rw [List.length_map]; exact hlen
    have h20 : 0 ≤ (1278802 : Int) + ((ns.map V.int).length : Nat) := by omega
    have h21 : (1278802 : Int) + ((ns.map V.int).length : Nat) < 2305843009213693951 := by omega
    revert h20 h21
    show _ → _ → _
    intro h20 h21
    have ncd : d ≠ c := ne_of_none w1 hc
    have ncl : l ≠ c := ne_of_none w2 hc
    refine ⟨_, rfl, _, rfl, a, ns.map V.int, rfl, wS0 wS hc w1, fun c2 hc2 => ?_⟩
    rw [cut63 hlen]
    refine ⟨c2, rfl, ⟨_, SqL.of upd_same⟩, ?_⟩
    have ncd2 : d ≠ c2 := ne_of_none upd_same hc2
    have ncl2 : l ≠ c2 := ne_of_none ((upd_ne nld).trans ((upd_ne ncl).trans w2)) hc2
    have st : St K (upd (upd (upd H1 c (.lst (ns.map V.int))) d (.dK (mergeK [] [(.inr "deep", .ref l), (.inr "state", .int (1278802 + ((ns.map V.int).length : Nat)))]))) c2 (.lst (ns.map V.int))) (some (d, l)) [] [(.ref c2, .list (ns.map PyData.int))] := by
      refine ⟨fun b => if b = c2 then some (.lst (ns.map V.int)) else none, fun b o e => ?_, fun p hp => ?_, fun g hg => (nomatch hg), List.Pairwise.nil, fun d' l' e => ?_⟩
      · by_cases hb : b = c2
        · subst hb
          rw [if_pos rfl] at e
          rw [← e]
          exact upd_same
        · rw [if_neg hb] at e
          cases e
      · rw [List.mem_singleton.mp hp]
        exact .lst (SqL.of (if_pos rfl)) (dps_of_ints ns)
      · cases e
        refine ⟨if_neg ncd2, if_neg ncl2, fun g hg => (nomatch hg), _, [], (upd_ne ncd2).trans ?_, (upd_ne ncl2).trans ((upd_ne nld).trans ((upd_ne ncl).trans w2)), fun x hx => (nomatch hx), by decide, h20, h21⟩
        exact upd_same
    refine for_it (n := ns.length) walkL (fun i σ H => ∃ l s xs y2 y3 y4, σ = [some (.ref a), some (.ref d), y2, y3, y4] ∧ St K H (some (d, l)) [] [(.ref c2, .list (ns.map PyData.int))] ∧ H d = some (.dK [(.inr "deep", .ref l), (.inr "state", .int s)]) ∧ H l = some (.lst (xs.map V.int)) ∧
        (∀ x ∈ xs, 0 ≤ x) ∧ xs.length ≤ i ∧ 0 ≤ s ∧ s < 2305843009213693951)
      ⟨l, _, [], _, _, _, rfl, st, (upd_ne ncd2).trans upd_same, (upd_ne ncl2).trans ((upd_ne nld).trans ((upd_ne ncl).trans w2)), fun x hx => (nomatch hx), Nat.zero_le _, h20, h21⟩ (fun i σ H _ hP => ?_) (fun i x σ H H' hi hP hy => ?_) (fun σ H hP => ?_)
    · obtain ⟨_, _, _, _, _, _, _, hS, _⟩ := hP
      obtain ⟨xs, h1, h3⟩ := hS.lenL (List.mem_cons_self ..)
      exact ⟨xs, h1, by rw [h3, List.length_map]⟩
    · obtain ⟨l, s, xs, y2, y3, y4, rfl, hS, h1, h2, h3, h4, h5, h6⟩ := hP
      obtain ⟨rfl, f⟩ := hy
      obtain ⟨dd, e1, hS1⟩ := hS.turnL (List.mem_cons_self ..) f
      rw [List.getElem?_map, List.getElem?_eq_getElem hi] at e1
      cases Option.some.inj e1
      have ex := hS1.int_of (List.mem_cons_self ..)
      subst ex
      generalize ns[i] = z at hS1 e1
      have hw : 0 ≤ (if z < 0 then -z else z) := by
        by_cases hz : z < 0
        · rw [if_pos hz]; omega
        · rw [if_neg hz]; omega
      -- whole = abs(cell)
      refine ⟨_, rfl, _, rfl, ?_⟩
      generalize (if z < 0 then -z else z) = wh at hw
      -- if whole >= 10 ** 18
      refine ⟨fun σ H => ∃ (l : Addr) (xs : List Int), σ = [some (.ref a), some (.ref d), some (.int z), some (.int wh), y4] ∧ St K H (some (d, l)) [] [(.ref c2, .list (ns.map PyData.int))] ∧ H d = some (.dK [(.inr "deep", .ref l), (.inr "state", .int s)]) ∧ H l = some (.lst (xs.map V.int)) ∧
        (∀ x ∈ xs, 0 ≤ x) ∧ xs.length ≤ i + 1, ?_, fun σ H hM => ?_⟩
      · refine ⟨_, rfl, _, _, rfl, rfl, ⟨by decide, by decide⟩, _, _, rfl, rfl, _, rfl, ite2 (fun e => ?_) (fun e => ?_)⟩
        · refine ⟨_, rfl, (by show 1 ≤ sizeLine; decide), fun t ht => ⟨_, rfl, d, .ref l, rfl, deck_deep ((upd_ne (ne_of_none h1 ht)).trans h1), t, l, _, _, rfl, rfl, upd_same, (upd_ne (ne_of_none h2 ht)).trans h2, ?_, fun m hm => ?_⟩⟩
          · rw [List.length_map]
            exact Nat.le_of_lt (small1000 (by show 1 + xs.length ≤ 1000; omega))
          · have hS2 := ((hS1.weaken (Δ' := [(.ref c2, .list (ns.map PyData.int))]) fun _ => List.mem_cons_of_mem _).lst (vs := [.int wh]) (ds := [.int wh]) ht (.cons (.int _) .nil)).weaken (Δ' := [(.ref c2, .list (ns.map PyData.int))]) fun _ => List.mem_cons_of_mem _
            have k1 := (upd_ne (o := HO.lst [V.int wh]) (ne_of_none h1 ht)).trans h1
            have ndm : d ≠ m := ne_of_none k1 hm
            have k2 := (upd_ne (H := upd _ t (.lst [.int wh])) (o := HO.lst ([V.int wh] ++ xs.map V.int)) ndm).trans k1
            have e1 : [V.int wh] ++ xs.map V.int = (wh :: xs).map V.int := rfl
            refine ⟨_, rfl, d, _, rfl, put_deep k2, m, wh :: xs, rfl, hS2.redeck hm (fun b hb hb2 => (upd_ne hb).trans (upd_ne hb2)) ⟨s, wh :: xs, upd_same, (upd_ne ndm.symm).trans upd_same, ?_, ?_, h5, h6⟩, upd_same, (upd_ne ndm.symm).trans upd_same, ?_, ?_⟩
            · intro x hx
              rcases List.mem_cons.mp hx with rfl | hx
              · exact hw
              · exact h3 x hx
            · rw [List.length_cons]
              omega
            · intro x hx
              rcases List.mem_cons.mp hx with rfl | hx
              · exact hw
              · exact h3 x hx
            · rw [List.length_cons]
              omega
        · exact ⟨l, xs, rfl, hS1.weaken fun _ => List.mem_cons_of_mem _, h1, h2, h3, by omega⟩
      · obtain ⟨l, xs, rfl, hS2, k1, k2, k3, k4⟩ := hM
        have ndl : d ≠ l := dk_ne k1 k2
        refine ⟨_, rfl, d, _, rfl, deck_state k1, _, rfl, _, _, rfl, rfl, .inl (by decide), _, _, rfl, rfl, _, rfl, _, _, rfl, rfl, .inr ⟨_, rfl, _, _, rfl, rfl, _, _, rfl, rfl, _, _, rfl, rfl, .inr (by decide), _, _, rfl, rfl, ?_⟩⟩
        refine ⟨_, rfl, .inl ⟨_, rfl, _, _, rfl, rfl, (by show (0 : Int) < 2305843009213693951; decide), _, rfl, d, _, rfl, put_state k1, ?_⟩⟩
        refine ⟨l, _, xs, _, _, _, rfl, hS2.deal (fun b hb _ => upd_ne hb) ⟨_, xs, upd_same, (upd_ne ndl.symm).trans k2, k3, by omega, Int.emod_nonneg _ (by decide), Int.emod_lt_of_pos _ (by decide)⟩, upd_same, (upd_ne ndl.symm).trans k2, k3, k4, Int.emod_nonneg _ (by decide), Int.emod_lt_of_pos _ (by decide)⟩
    · obtain ⟨l, s, xs, y2, y3, y4, rfl, hS, h1, h2, h3, h4, h5, h6⟩ := hP
      exact ⟨_, rfl, q _ d l (hS.weaken fun _ h => nomatch h)⟩

theorem ok_law_draw {f : Addr} {fd : FuncData} (F : Fun K "_law_draw" "_law_draw" s_law_draw f fd) (nb : NB mg bnames)    : FnOk P w K mg base CX0 1 f fd ["deck", "many"] (sp_law_draw K) := by
  refine F.ok sc_law_draw (fun vs H Q E h => ?_) (fun cdv A outer s H vs Q E hr h => ?_)
  · obtain ⟨d, l, m, Γ, Δ, rfl, _⟩ := h
    rfl
  · obtain ⟨d, l, m, Γ, Δ, rfl, hS, hm, q⟩ := h
    refine ⟨_, (pss_cons (ps_if (pt_cmpR op_lt (pv 1) pe_int (nomark _)) (pss_one (ps_ret pe_int)) pss_nil)
        (pss_cons (ps_if (pt_cmpR (op_neD hr.units) (pe_dget (hu_of hr) (pv 0) pe_str (fun _ _ => rfl)) (pe_lst pa_nil) (nomark _)) (pss_cons (ps_set (i := 2) sc_law_draw.nd rfl (.inl rfl) (pe_bm0 PySem.F.plainAttrs_list PySem.F.slot_list_pop PySem.F.type_list_pop mt_pop (pe_dget (hu_of hr) (pv 0) pe_str (fun _ _ => rfl))))
        (pss_cons (ps_if (pt_cmpR op_ge (pv 2) (pv 1) (nomark _)) (pss_one (ps_expr (pe_bm PySem.F.plainAttrs_list PySem.F.slot_list_append PySem.F.type_list_append mt_append (pe_dget (hu_of hr) (pv 0) pe_str (fun _ _ => rfl)) (pa_cons (pe_op op_fdivW (pv 2) (pv 1)) pa_nil)))) pss_nil)
        (pss_one (ps_ret (pe_op op_mod (pe_callTy call_int1 (by rfl) (nb "int" rfl) (by decide +kernel) (pa_cons (pv 2) pa_nil)) (pv 1)))))) pss_nil)
        (pss_cons (ps_set (i := 3) sc_law_draw.nd rfl (.inl rfl) (pe_op op_mod (pe_callTy call_int1 (by rfl) (nb "int" rfl) (by decide +kernel) (pa_cons (pe_op op_add (pe_op op_mul (pe_dget (hu_of hr) (pv 0) pe_str (fun _ _ => rfl)) pe_int) pe_int) pa_nil)) pe_int))
        (pss_cons (ps_dput (hu_of hr) (pv 0) pe_str (pv 3) rfl)
        (pss_cons (ps_set (i := 4) sc_law_draw.nd rfl (.inl rfl) (pe_op op_mod (pe_callTy call_int1 (by rfl) (nb "int" rfl) (by decide +kernel) (pa_cons (pe_op op_add (pe_op op_add (pe_op op_mulX (pv 3) (pv 3)) (pe_op op_mul pe_int (pv 3))) pe_int) pa_nil)) pe_int))
        (pss_one (ps_ret (pe_op op_mod (pe_callTy call_int1 (by rfl) (nb "int" rfl) (by decide +kernel) (pa_cons (pe_op op_fdiv (pv 4) pe_int) pa_nil)) (pv 1))))))))), ?_⟩
    refine ⟨_, rfl, _, _, rfl, rfl, _, rfl, ite2 (fun e => ?_) (fun e => ?_)⟩
    · exact q H 0 hS (Int.le_refl 0) (Or.inr rfl)
    · have hm2 : 2 ≤ m := by simpa using e
      have hpos : 0 < m := by omega
      have hdiv : ∀ z : Int, CDivW z m := fun z => wide_div hpos hm (by decide) (by decide)
      obtain ⟨s, xs, h1, h2, h3, h4, h5, h6⟩ := hS.deck
      refine ⟨_, rfl, d, .ref l, rfl, deck_deep h1, Nat.zero_le _, fun p hp => ?_⟩
      have hS1 := (hS.lst (ds := []) hp .nil).weaken fun x hx => List.mem_cons_of_mem _ hx
      have g1 := (upd_ne (H := H) (o := HO.lst []) (ne_of_none h1 hp)).trans h1
      have g2 := (upd_ne (H := H) (o := HO.lst []) (ne_of_none h2 hp)).trans h2
      have g3 : upd H p (.lst []) p = some (.lst []) := upd_same
      revert hS1 g1 g2 g3
      generalize upd H p (.lst []) = H1
      intro hS1 g1 g2 g3
      have ndl : d ≠ l := dk_ne g1 g2
      refine ne_nil_list (ds := xs.map PyData.int) (.lst (SqL.of g2) (dps_of_ints xs)) (.lst (SqL.of g3) .nil) (lay_ints xs) ⟨_, rfl, ite2 (fun e2 => ?_) (fun e2 => ?_)⟩
      · have hne : xs ≠ [] := by
          intro z
          subst z
          exact absurd e2 (by decide)
        obtain ⟨ys, z, rfl⟩ : ∃ ys z, xs = ys ++ [z] := ⟨_, _, (List.dropLast_concat_getLast hne).symm⟩
        have hz : 0 ≤ z := h3 z (by simp)
        have elast : ((ys ++ [z]).map V.int)[((ys ++ [z]).map V.int).length - 1]? = some (.int z) := by simp
        have edrop : ((ys ++ [z]).map V.int).dropLast = ys.map V.int := by simp
        refine ⟨_, rfl, d, .ref l, rfl, deck_deep g1, .inl ⟨rfl, _, SqL.of g2⟩, l, _, .int z, rfl, rfl, g2, elast, ?_⟩
        rw [edrop]
        have hl : ys.length ≤ 63 := by
          rw [List.length_append, List.length_singleton] at h4
          omega
        have k1 : upd H1 l (.lst (ys.map V.int)) d = _ := (upd_ne ndl).trans g1
        have k2 : upd H1 l (.lst (ys.map V.int)) l = some (.lst (ys.map V.int)) := upd_same
        have k3 : ∀ b, b ≠ d → b ≠ l → upd H1 l (.lst (ys.map V.int)) b = H1 b := fun b _ hb => upd_ne hb
        revert k1 k2 k3
        generalize upd H1 l (.lst (ys.map V.int)) = H2
        intro k1 k2 k3
        have hmod : 0 ≤ z % m ∧ z % m < m := ⟨Int.emod_nonneg z (by omega), Int.emod_lt_of_pos z hpos⟩
        refine ⟨_, rfl, _, rfl, _, _, rfl, rfl, _, rfl, ite2 (fun e3 => ?_) (fun e3 => ?_)⟩
        · refine ⟨_, rfl, d, .ref l, rfl, deck_deep k1, .inl ⟨rfl, _, SqL.of k2⟩, _, rfl, _, rfl, _, _, rfl, rfl, hdiv z, l, _, _, rfl, rfl, k2, ?_, ?_⟩
          · rw [List.length_map]
            exact small1000 (by omega)
          · have eapp : ys.map V.int ++ [V.int (z / m)] = (ys ++ [z / m]).map V.int := by simp
            rw [eapp]
            refine ⟨_, rfl, .inl ⟨_, rfl, _, rfl, _, _, rfl, rfl, hpos, q _ (z % m) (hS1.deal (fun b hb hb2 => (upd_ne hb2).trans (k3 b hb hb2)) ⟨s, ys ++ [z / m], (upd_ne ndl).trans k1, upd_same, ?_, ?_, h5, h6⟩) hmod.1 (Or.inl hmod.2)⟩⟩
            · intro x hx
              rcases List.mem_append.mp hx with hx | hx
              · exact h3 x (List.mem_append_left _ hx)
              · rw [List.mem_singleton.mp hx]
                exact Int.ediv_nonneg hz (by omega)
            · rw [List.length_append, List.length_singleton]
              omega
        · exact ⟨_, rfl, .inl ⟨_, rfl, _, rfl, _, _, rfl, rfl, hpos, q _ (z % m) (hS1.deal k3 ⟨s, ys, k1, k2, fun x hx => h3 x (List.mem_append_left _ hx), by omega, h5, h6⟩) hmod.1 (Or.inl hmod.2)⟩⟩
      · have o1 : 0 ≤ (s * 1181783497276652981 + 88172645463325) % 2305843009213693951 := Int.emod_nonneg _ (by decide)
        have o2 : (s * 1181783497276652981 + 88172645463325) % 2305843009213693951 < 2305843009213693951 := Int.emod_lt_of_pos _ (by decide)
        have hmul : CMulX ((s * 1181783497276652981 + 88172645463325) % 2305843009213693951) ((s * 1181783497276652981 + 88172645463325) % 2305843009213693951) := mulx_ok (a := 61) (b := 61) (by omega) (by omega) (by decide)
        refine ⟨_, rfl, d, _, rfl, deck_state g1, _, _, rfl, rfl, .inr (by decide), _, _, rfl, rfl, .inl ⟨_, rfl, _, _, rfl, rfl, (by show (0 : Int) < 2305843009213693951; decide), ?_⟩⟩
        refine ⟨_, rfl, _, rfl, d, _, rfl, put_state g1, ?_⟩
        refine ⟨_, rfl, _, rfl, _, _, rfl, rfl, hmul, _, rfl, _, _, rfl, rfl, .inl (by decide), _, _, rfl, rfl, _, _, rfl, rfl, .inl ⟨_, rfl, _, _, rfl, rfl, (by show (0 : Int) < 2305843009213693921; decide), ?_⟩⟩
        refine ⟨_, rfl, _, _, rfl, rfl, ⟨by decide, by decide⟩, .inl ⟨_, rfl, _, rfl, _, _, rfl, rfl, hpos, ?_⟩⟩
        exact q _ _ (hS1.deal (fun b hb _ => upd_ne hb) ⟨_, xs, upd_same, (upd_ne ndl.symm).trans g2, h3, h4, o1, o2⟩) (Int.emod_nonneg _ (by omega)) (Or.inl (Int.emod_lt_of_pos _ hpos))

theorem ok_law_pick {f : Addr} {fd : FuncData} (F : Fun K "_law_pick" "_law_pick" s_law_pick f fd) (nb : NB mg bnames) (F_law_draw : Fd P w K mg base "_law_draw" 1 ["deck", "many"] (sp_law_draw K))   : FnOk P w K mg base CX0 2 f fd ["deck", "items"] (sp_law_pick K) := by
  refine F.ok sc_law_pick (fun vs H Q E h => ?_) (fun cdv A outer s H vs Q E hr h => ?_)
  · obtain ⟨d, l, a, ds, Γ, Δ, rfl, _⟩ := h
    rfl
  · obtain ⟨d, l, a, ds, Γ, Δ, rfl, hS, hm, hne, hz, q⟩ := h
    refine ⟨_, (pss_one (ps_ret (pe_ix ix_list (pv 1) (pe_fd F_law_draw (hr.mono (by decide)) (by rfl) (pa_cons (pv 0) (pa_cons (pe_callB call_len_seq (by rfl) (nb "len" rfl) PySem.boot_len (pa_cons (pv 1) pa_nil)) pa_nil))) (fun _ _ => rfl)))), ?_⟩
    obtain ⟨vs, hL, hlen, Δ', rfl, hS', hv⟩ := hS.lstAt hm
    refine ⟨_, rfl, _, rfl, _, rfl, a, vs, rfl, .inl hL, d, l, _, Γ, Δ, rfl, hS, ?_, fun H' r hS2 h0 h1 => ?_⟩
    · rw [hlen]
      exact Nat.lt_of_le_of_lt (show ((ds.length : Nat) : Int).natAbs ≤ 10000 by omega) (by decide +kernel)
    · obtain ⟨us, hL2, hlen2, Δ2, rfl, hS3, hv2⟩ := hS2.lstAt hm
      have hpos : 0 < ds.length := List.length_pos_iff.mpr hne
      have hr : r.toNat < ds.length := by omega
      obtain ⟨v, e1, e2⟩ := dvs_at hv2 (List.getElem?_eq_getElem hr)
      refine ⟨a, us, r, v, rfl, rfl, hL2, atI_of h0 e1, q H' v _ (List.getElem_mem hr) ((hS3.also e2).weaken fun x hx => ?_)⟩
      rcases List.mem_cons.mp hx with rfl | hx
      · exact List.mem_cons_self ..
      · exact List.mem_cons_of_mem _ (List.mem_append_right _ hx)

theorem lay_mem {k : Nat} : ∀ {ds : List D}, Lay k ds → ∀ {d : D}, d ∈ ds → d.canLay0 = true ∧ d.depth ≤ k
  | e :: ds, h, d, hd => by
    obtain ⟨h1, h2⟩ := h
    simp only [PyData.canLayAll0, Bool.and_eq_true] at h1
    simp only [PyData.depthAll] at h2
    rcases List.mem_cons.mp hd with rfl | hd
    · exact ⟨h1.1, by omega⟩
    · exact lay_mem ⟨h1.2, by omega⟩ hd
theorem small1000' {n : Nat} (h : n ≤ 20000) : n < sizeLine := Nat.lt_of_le_of_lt h (by decide)
theorem perm_pull : ∀ {ls : List D} {k : Nat} (hk : k < ls.length), (ls[k] :: ls.eraseIdx k).Perm ls
  | x :: ls, 0, hk => List.Perm.refl _
  | x :: ls, k + 1, hk => by
    have ih := perm_pull (ls := ls) (k := k) (by simpa using hk)
    exact (List.Perm.swap x _ _).trans (List.Perm.cons x ih)
theorem perm_move {ls : List D} {k : Nat} (hk : k < ls.length) (fs : List D) : (ls.eraseIdx k ++ (fs ++ [ls[k]])).Perm (ls ++ fs) := by
  have h1 : (ls[k] :: ls.eraseIdx k).Perm ls := by
    exact perm_pull hk
  have h2 : (ls.eraseIdx k ++ (fs ++ [ls[k]])).Perm (ls[k] :: (ls.eraseIdx k ++ fs)) := by
    rw [← List.append_assoc]
    exact List.perm_append_singleton _ _
  exact h2.trans ((List.Perm.append_right fs h1))
theorem ok_law_mixed {f : Addr} {fd : FuncData} (F : Fun K "_law_mixed" "_law_mixed" s_law_mixed f fd) (nb : NB mg bnames) (F_law_draw : Fd P w K mg base "_law_draw" 1 ["deck", "many"] (sp_law_draw K))   : FnOk P w K mg base CX0 2 f fd ["deck", "items"] (sp_law_mixed K) := by
  refine F.ok sc_law_mixed (fun vs H Q E h => ?_) (fun cdv A outer s H vs Q E hr h => ?_)
  · obtain ⟨d, l, a, ds, Γ, Δ, rfl, _⟩ := h
    rfl
  · obtain ⟨d, l, a, ds, Γ, Δ, rfl, hS, hm, hlay, hz, q⟩ := h
    refine ⟨_, (pss_cons (ps_par (by rfl) (i := 2) (j := 3) sc_law_mixed.nd rfl rfl (by decide) rfl rfl (pa_cons (pe_callTy call_list_of (by rfl) (nb "list" rfl) (by decide +kernel) (pa_cons (pv 1) pa_nil)) (pa_cons (pe_lst pa_nil) pa_nil)) (by rfl))
        (pss_cons (ps_while PassesOwn.never (pt_cmpR (op_neD hr.units) (pv 2) (pe_lst pa_nil) (nomark _)) (pss_one (ps_expr (pe_bm PySem.F.plainAttrs_list PySem.F.slot_list_append PySem.F.type_list_append mt_append (pv 3) (pa_cons (pe_bm PySem.F.plainAttrs_list PySem.F.slot_list_pop PySem.F.type_list_pop mt_popAt (pv 2) (pa_cons (pe_fd F_law_draw (hr.mono (by decide)) (by rfl) (pa_cons (pv 0) (pa_cons (pe_callB call_len_seq (by rfl) (nb "len" rfl) PySem.boot_len (pa_cons (pv 2) pa_nil)) pa_nil))) pa_nil)) pa_nil)))))
        (pss_one (ps_ret (pv 3))))), ?_⟩
    obtain ⟨vs, hL, hlen, Δ', rfl, hS', hv⟩ := hS.lstAt hm
    refine ⟨_, rfl, a, vs, rfl, .inl hL, fun p hp => ⟨Nat.zero_le _, fun f hf => ⟨_, _, rfl, ?_⟩⟩⟩
    have hS1 := ((hS'.make hp hv).make hf .nil).swap.weaken (Δ' := Δ) fun x hx => List.mem_append_right _ hx
    refine ⟨fun m σ H => ∃ ls fs, σ = [some (.ref d), some (.ref a), some (.ref p), some (.ref f)] ∧ St K H (some (d, l)) ((p, ls) :: (f, fs) :: Γ) Δ ∧ (ls ++ fs).Perm ds ∧ m = ls.length, ⟨_, ds, [], rfl, hS1, by rw [List.append_nil], rfl⟩, fun m σ H2 hW => ?_⟩
    obtain ⟨ls, fs, rfl, hS2, hperm, rfl⟩ := hW
    have hll : Lay 60 ls := lay_of fun x hx => lay_mem hlay (hperm.subset (List.mem_append_left _ hx))
    have htot : ls.length + fs.length = ds.length := by rw [← List.length_append]; exact hperm.length_eq
    refine ⟨_, rfl, Nat.zero_le _, fun r hr => ?_⟩
    have hS3 := (hS2.lst (ds := []) hr .nil)
    refine ne_nil_list (ds := ls) ((hS3.weaken (Δ' := []) fun _ h => nomatch h).freeze.dp (.of (List.mem_cons_self ..))) (.lst (SqL.of upd_same) .nil) hll ⟨_, rfl, ?_⟩
    have hS4 := hS3.weaken (Δ' := Δ) fun x hx => List.mem_cons_of_mem _ hx
    revert hS4
    generalize upd H2 r (.lst []) = H4
    intro hS4
    cases ls with
    | nil =>
      refine iteF ⟨_, rfl, ?_⟩
      exact q _ f fs hperm (hS4.drop)
    | cons x ls =>
      obtain ⟨vl, hl1, hl2, _, _⟩ := hS4.look
      obtain ⟨vf, hf1, hf2, _, _⟩ := hS4.swap.look
      refine iteT ⟨fun σ H5 => ∃ ls' fs', σ = [some (.ref d), some (.ref a), some (.ref p), some (.ref f)] ∧ St K H5 (some (d, l)) ((p, ls') :: (f, fs') :: Γ) Δ ∧ (ls' ++ fs').Perm ds ∧ ls'.length + 1 = (x :: ls).length, fun σ H5 hN => ?_, ?_⟩
      · obtain ⟨ls', fs', e, h5, h6, h7⟩ := hN
        exact ⟨ls'.length, by omega, ls', fs', e, h5, h6, rfl⟩
      · refine ⟨_, rfl, .inl ⟨rfl, _, SqL.of hf1⟩, _, rfl, .inl ⟨rfl, _, SqL.of hl1⟩, _, rfl, _, rfl, p, vl, rfl, .inl (SqL.of hl1), d, l, _, _, Δ, rfl, hS4, ?_, fun H5 t hS5 h0 h1 => ?_⟩
        · rw [hl2]
          have : (x :: ls).length ≤ 10000 := by omega
          exact Nat.lt_of_le_of_lt (show (((x :: ls).length : Nat) : Int).natAbs ≤ 10000 by omega) (by decide +kernel)
        · rw [hl2] at h1
          have ht : t.toNat < (x :: ls).length := by
            have : 0 < (x :: ls).length := by simp
            omega
          obtain ⟨vl5, y, a1, a2, a3, a4⟩ := hS5.popAt (List.getElem?_eq_getElem ht)
          have hS6 := a4.swap
          obtain ⟨vf6, b1, b2, b3⟩ := hS6.push (.of (List.mem_cons_self ..))
          have hb : (x :: ls).length ≤ 10000 := by omega
          refine ⟨p, vl5, t, t.toNat, y, rfl, rfl, a1, by omega, by omega, ?_, a3, f, vf6, y, rfl, rfl, b1, small1000' (by omega), ?_⟩
          · rw [a2]
            exact seq_of h0 (by omega)
          · refine ⟨_, _, rfl, b3.swap.weaken (fun z hz => List.mem_cons_of_mem _ hz), ?_, ?_⟩
            · exact (perm_move ht fs).trans hperm
            · rw [List.length_eraseIdx, if_pos ht]
              omega

theorem gcd_step {u v : Int} (hu : 0 ≤ u) (hv : 0 ≤ v) : Int.gcd v (u % v) = Int.gcd u v := by
  obtain ⟨a, rfl⟩ := Int.eq_ofNat_of_zero_le hu
  obtain ⟨b, rfl⟩ := Int.eq_ofNat_of_zero_le hv
  rw [← Int.natCast_emod]
  show Nat.gcd b (a % b) = Nat.gcd a b
  rw [Nat.gcd_comm b (a % b), ← Nat.gcd_rec, Nat.gcd_comm]
theorem ok_law_divisor {f : Addr} {fd : FuncData} (F : Fun K "_law_divisor" "_law_divisor" s_law_divisor f fd) (nb : NB mg bnames)    : FnOk P w K mg base CX0 1 f fd ["one", "other"] (sp_law_divisor K) := by
  refine F.ok sc_law_divisor (fun vs H Q E h => ?_) (fun cdv A outer s H vs Q E hr h => ?_)
  · obtain ⟨x, y, rfl, _⟩ := h
    rfl
  · obtain ⟨x, y, rfl, hx, hy, q⟩ := h
    refine ⟨_, (pss_cons (ps_while PassesOwn.never (pt_cmpR op_gt (pv 1) pe_int (nomark _)) (pss_one (ps_par (by rfl) (i := 0) (j := 1) sc_law_divisor.nd rfl rfl (by decide) rfl rfl (pa_cons (pv 1) (pa_cons (pe_op op_mod (pe_callTy call_int1 (by rfl) (nb "int" rfl) (by decide +kernel) (pa_cons (pv 0) pa_nil)) (pv 1)) pa_nil)) (by rfl))))
        (pss_one (ps_ret (pv 0)))), ?_⟩
    refine ⟨fun m σ H' => ∃ (u v : Int), σ = [some (.int u), some (.int v)] ∧ H' = H ∧ 0 ≤ u ∧ 0 ≤ v ∧ Int.gcd u v = Int.gcd x y ∧ m = v.toNat, ⟨_, x, y, rfl, rfl, hx, hy, rfl, rfl⟩, fun m σ H' hW => ?_⟩
    obtain ⟨u, v, rfl, rfl, hu, hv, hg, rfl⟩ := hW
    refine ⟨_, rfl, _, _, rfl, rfl, _, rfl, ite2 (fun e => ?_) (fun e => ?_)⟩
    · have e' : 0 < v := by simpa using e
      have h1 : 0 ≤ u % v := Int.emod_nonneg _ (by omega)
      have h2 : u % v < v := Int.emod_lt_of_pos _ e'
      refine ⟨fun σ2 H2 => σ2 = [some (.int v), some (.int (u % v))] ∧ H2 = H', fun σ2 H2 hN => ?_, ?_⟩
      · obtain ⟨rfl, rfl⟩ := hN
        exact ⟨_, by omega, v, u % v, rfl, rfl, hv, h1, by rw [← hg, gcd_step hu hv], rfl⟩
      · exact ⟨_, rfl, _, rfl, .inl ⟨_, rfl, _, rfl, _, _, rfl, rfl, e', _, _, rfl, rfl, rfl⟩⟩
    · have e' : v = 0 := by
        have : ¬ 0 < v := by simpa using e
        omega
      subst e'
      have hz : ((Int.gcd x y : Nat) : Int) = u := by
        rw [← hg, Int.gcd_zero_right]
        omega
      rw [hz] at q
      exact ⟨_, rfl, q⟩

theorem mult_step {m x : Int} {i : Nat} (m1 : 1 ≤ m) (m2 : m < 2 ^ (1400 * i + 1)) (x1 : 0 < x) (x2 : x < 2 ^ 1400) :
    m.natAbs < 2 ^ (1400 * i + 1) ∧ x.natAbs < 2 ^ 1400 ∧ 0 < ((Int.gcd m x : Nat) : Int) ∧ ((Int.gcd m x : Nat) : Int).natAbs < 2 ^ 1400 ∧ 1 ≤ m * x / ((Int.gcd m x : Nat) : Int) ∧ m * x / ((Int.gcd m x : Nat) : Int) < 2 ^ (1400 * (i + 1) + 1) := by
  obtain ⟨a, rfl⟩ := Int.eq_ofNat_of_zero_le (show 0 ≤ m by omega)
  obtain ⟨b, rfl⟩ := Int.eq_ofNat_of_zero_le (show 0 ≤ x by omega)
  have a2 : a < 2 ^ (1400 * i + 1) := by exact_mod_cast m2
  have b2 : b < 2 ^ 1400 := by exact_mod_cast x2
  have a1 : 1 ≤ a := by exact_mod_cast m1
  have b1 : 0 < b := by exact_mod_cast x1
  have g1 : 0 < Nat.gcd a b := Nat.gcd_pos_of_pos_right _ b1
  have g2 : Nat.gcd a b ≤ b := Nat.gcd_le_right _ b1
  have ed : ((a : Int) * (b : Int) / ((Int.gcd (a : Int) (b : Int) : Nat) : Int)) = ((a * b / Nat.gcd a b : Nat) : Int) := by
    rw [← Int.natCast_mul]
    rfl
  have ab : b ≤ a * b := Nat.le_mul_of_pos_left b a1
  have c1 : 1 ≤ a * b / Nat.gcd a b := (Nat.one_le_div_iff g1).mpr (Nat.le_trans g2 ab)
  have c2 : a * b / Nat.gcd a b < 2 ^ (1400 * (i + 1) + 1) := by
    refine Nat.lt_of_le_of_lt (Nat.div_le_self _ _) (Nat.lt_of_lt_of_le (Nat.mul_lt_mul_of_lt_of_le a2 (Nat.le_of_lt b2) (Nat.pow_pos (by decide))) ?_)
    rw [← Nat.pow_add]
    exact Nat.pow_le_pow_right (by decide) (by omega)
  rw [ed]
  refine ⟨a2, b2, by exact_mod_cast g1, Nat.lt_of_le_of_lt g2 b2, by exact_mod_cast c1, by exact_mod_cast c2⟩
theorem ok_law_multiple {f : Addr} {fd : FuncData} (F : Fun K "_law_multiple" "_law_multiple" s_law_multiple f fd) (nb : NB mg bnames) (F_law_divisor : Fd P w K mg base "_law_divisor" 1 ["one", "other"] (sp_law_divisor K))   : FnOk P w K mg base CX0 2 f fd ["steps"] (sp_law_multiple K) := by
  refine F.ok sc_law_multiple (fun vs H Q E h => ?_) (fun cdv A outer s H vs Q E hr h => ?_)
  · obtain ⟨dk, Γ, Δ, a, ns, rfl, _⟩ := h
    rfl
  · obtain ⟨dk, Γ, Δ, a, ns, rfl, hS, hm, hn, hz, q⟩ := h
    refine ⟨_, (pss_cons (ps_set (i := 1) sc_law_multiple.nd rfl (.inl rfl) pe_int)
        (pss_cons (ps_for PassesOwn.never rfl (pi_list (pv 0)) (pg_name (i := 2) sc_law_multiple.nd rfl (.inl rfl))
        (pss_one (ps_set (i := 1) sc_law_multiple.nd rfl (.inl rfl) (pe_ifExp (PW.pt (pw_and (pt_cmpR op_gt (pv 2) pe_int (nomark _)) (pw_and1 (pt_cmpR op_gt (pv 1) pe_int (nomark _))))) (pe_op op_fdivW (pe_op op_mulX (pv 1) (pv 2)) (pe_fd F_law_divisor (hr.mono (by decide)) (by rfl) (pa_cons (pv 1) (pa_cons (pv 2) pa_nil)))) pe_int))))
        (pss_one (ps_ret (pv 1))))), ?_⟩
    obtain ⟨vs, hL, hlen⟩ := hS.lenL hm
    refine ⟨_, rfl, a, rfl, ⟨vs, hL⟩, for_it (n := ns.length) walkL (fun i σ H => ∃ (m : Int) (y : Option V), σ = [some (.ref a), some (.int m), y] ∧ St K H dk Γ Δ ∧ 1 ≤ m ∧ m < 2 ^ (1400 * i + 1))
      ⟨1, _, rfl, hS, by decide, by decide⟩ (fun i σ H _ hP => ?_) (fun i x σ H H' hi hP hy => ?_) (fun σ H hP => ?_)⟩
    · obtain ⟨_, _, _, hS, _⟩ := hP
      obtain ⟨xs, h1, h3⟩ := hS.lenL hm
      exact ⟨xs, h1, by rw [h3, List.length_map]⟩
    · obtain ⟨m, y, rfl, hS, m1, m2⟩ := hP
      obtain ⟨rfl, f⟩ := hy
      obtain ⟨d, e1, hS1⟩ := hS.turnL hm f
      rw [List.getElem?_map, List.getElem?_eq_getElem hi] at e1
      cases Option.some.inj e1
      have ex := hS1.int_of (List.mem_cons_self ..)
      subst ex
      obtain ⟨x1, x2⟩ := hn _ (List.getElem_mem hi)
      generalize ns[i] = z at x1 x2
      obtain ⟨b1, b2, b3, b4, b5, b6⟩ := mult_step m1 m2 x1 x2
      refine ⟨_, rfl, _, _, rfl, rfl, _, rfl, ifp (decide_eq_true x1) ⟨_, rfl, _, _, rfl, rfl, _, rfl, ifp (decide_eq_true (by omega)) ?_⟩⟩
      refine ⟨_, rfl, _, rfl, _, _, rfl, rfl, mulx_ok b1 b2 (by have := hi; omega), _, rfl, _, rfl, m, z, rfl, by omega, by omega, _, _, rfl, rfl, wide_div b3 b4 (by decide) (by decide), ?_⟩
      exact ⟨_, _, rfl, hS, b5, b6⟩
    · obtain ⟨m, y, rfl, hS, m1, m2⟩ := hP
      exact ⟨_, rfl, q _ m hS m1 m2⟩

theorem abs_mod (n m : Int) : decide ((if n < 0 then -n else n) % m = 0) = decide (n % m = 0) := by
  by_cases h : n < 0
  · rw [if_pos h]
    have e : ((-n) % m = 0) ↔ (n % m = 0) := by
      rw [← Int.dvd_iff_emod_eq_zero, ← Int.dvd_iff_emod_eq_zero]
      exact Int.dvd_neg
    exact decide_eq_decide.mpr e
  · rw [if_neg h]
theorem fits_at (n : Int) (rs : List Rule) {i : Nat} (hi : i < rs.length) (hb : fitR rs[i] n = false) : fitsAll rs n = false := by
  cases e : fitsAll rs n with
  | false => rfl
  | true =>
    have := List.all_eq_true.mp e rs[i] (List.getElem_mem hi)
    rw [hb] at this
    cases this
theorem fits_all (n : Int) (rs : List Rule) (h : ∀ r ∈ rs, fitR r n = true) : fitsAll rs n = true := List.all_eq_true.mpr h
theorem take_all {n : Int} {rs : List Rule} {i : Nat} (hi : i < rs.length) (h : ∀ r ∈ rs.take i, fitR r n = true) (hb : fitR rs[i] n = true) : ∀ r ∈ rs.take (i + 1), fitR r n = true := fun r hr => by
  rw [List.take_add_one, List.getElem?_eq_getElem hi] at hr
  rcases List.mem_append.mp hr with hr | hr
  · exact h r hr
  · rw [List.mem_singleton.mp hr]
    exact hb
theorem ok_law_fits {f : Addr} {fd : FuncData} (F : Fun K "_law_fits" "_law_fits" s_law_fits f fd) (nb : NB mg bnames)    : FnOk P w K mg base CX0 1 f fd ["scale", "number"] (sp_law_fits K) := by
  refine F.ok sc_law_fits (fun vs H Q E h => ?_) (fun cdv A outer s H vs Q E hr h => ?_)
  · obtain ⟨dk, Γ, Δ, a, rs, n, rfl, _⟩ := h
    rfl
  · obtain ⟨dk, Γ, Δ, a, rs, n, rfl, hS, hm, h2, q⟩ := h
    refine ⟨_, (pss_cons (ps_for PassesOwn.never rfl (pi_tup (pv 0)) (pg_tup (by rfl) (pgs_cons (pg_name (i := 2) sc_law_fits.nd rfl (.inl rfl)) (pgs_cons (pg_name (i := 3) sc_law_fits.nd rfl (.inl rfl)) pgs_nil)))
        (pss_one (ps_if (PW.pt (pw_and (pt_cmpR op_gt (pe_callB call_abs (by rfl) (nb "abs" rfl) (by decide +kernel) (pa_cons (pv 1) pa_nil)) (pv 2) (nomark _)) (pw_and1 (PW.pt (pw_or (pt_cmpR op_eq (pv 3) pe_int (nomark _)) (pw_or1 (pt_cmpR op_ne (pe_op op_mod (pe_callTy call_int1 (by rfl) (nb "int" rfl) (by decide +kernel) (pa_cons (pe_callB call_abs (by rfl) (nb "abs" rfl) (by decide +kernel) (pa_cons (pv 1) pa_nil)) pa_nil)) (pv 3)) pe_int (nomark _)))))))) (pss_one (ps_ret pe_bl)) pss_nil)))
        (pss_one (ps_ret pe_bl))), ?_⟩
    obtain ⟨vs, hT, hlen⟩ := hS.lenT hm
    refine ⟨_, rfl, a, rfl, ⟨vs, hT⟩, for_it (n := rs.length) walkT (fun i σ H => ∃ y2 y3, σ = [some (.ref a), some (.int n), y2, y3] ∧ St K H dk Γ Δ ∧ ∀ r ∈ rs.take i, fitR r n = true)
      ⟨_, _, rfl, hS, fun r hr => by simp at hr⟩ (fun i σ H _ hP => ?_) (fun i x σ H H' hi hP hy => ?_) (fun σ H hP => ?_)⟩
    · obtain ⟨_, _, _, hS, _⟩ := hP
      obtain ⟨xs, h1, h3⟩ := hS.lenT hm
      exact ⟨xs, h1, by rw [h3, List.length_map]⟩
    · obtain ⟨y2, y3, rfl, hS, hall⟩ := hP
      obtain ⟨rfl, f⟩ := hy
      obtain ⟨d, e1, hS1⟩ := hS.turnT hm f
      rw [List.getElem?_map, List.getElem?_eq_getElem hi] at e1
      cases Option.some.inj e1
      obtain ⟨ax, rfl⟩ := hS1.ref_of (List.mem_cons_self ..)
      have hs := h2 _ (List.getElem_mem hi)
      have hT := hS1.pair (List.mem_cons_self ..)
      refine ⟨ax, _, rfl, hT, rfl, _, _, rfl, _, _, rfl, rfl, ?_⟩
      refine ⟨_, rfl, _, rfl, _, rfl, _, _, rfl, rfl, _, rfl, ite2 (fun e => ?_) (fun e => ?_)⟩
      · have e' : ¬ (if n < 0 then -n else n) ≤ rs[i].1 := by simpa using e
        refine ⟨_, rfl, rfl, _, rfl, ite2 (fun e2 => ?_) (fun e2 => ?_)⟩
        · have hz : rs[i].2 = 0 := V.int.inj (of_decide_eq_true e2)
          have hb : fitR rs[i] n = false := by
            unfold fitR
            rw [decide_eq_false e', hz]
            rfl
          refine iteT ?_
          have g := q _ hS
          rw [fits_at n rs hi hb] at g
          exact g
        · have hz : rs[i].2 ≠ 0 := fun z => e2 (decide_eq_true (by rw [z]))
          refine ⟨_, rfl, _, rfl, .inl ⟨_, rfl, ?_⟩⟩
          refine ⟨_, rfl, _, _, rfl, rfl, by omega, rfl, _, rfl, ?_⟩
          have e3 : fitR rs[i] n = decide ((if n < 0 then -n else n) % rs[i].2 = 0) := by
            unfold fitR
            rw [decide_eq_false e', decide_eq_false hz, abs_mod]
            rfl
          have e4 : (!decide (V.int ((if n < 0 then -n else n) % rs[i].2) = V.int 0)) = !fitR rs[i] n := by
            rw [e3, dec_int]
            exact congrArg _ (Bool.beq_eq_decide_eq _ _)
          have e5 : ∀ {A B : Prop}, (if (!fitR rs[i] n) = true then A else B) → if (!decide (V.int ((if n < 0 then -n else n) % rs[i].2) = V.int 0)) = true then A else B := fun {A B} h => by
            rw [e4]
            exact h
          refine e5 ?_
          cases hb : fitR rs[i] n with
          | true => exact iteF ⟨_, _, rfl, hS, take_all hi hall hb⟩
          | false =>
            refine iteT ?_
            have g := q _ hS
            rw [fits_at n rs hi hb] at g
            exact g
      · have e' : (if n < 0 then -n else n) ≤ rs[i].1 := by simpa using e
        refine iteF ⟨_, _, rfl, hS, take_all hi hall ?_⟩
        unfold fitR
        rw [decide_eq_true e']
        rfl
    · obtain ⟨y2, y3, rfl, hS, hall⟩ := hP
      have g := q _ hS
      rw [fits_all n rs (fun r hr => hall r (by rw [List.take_length]; exact hr))] at g
      exact g

theorem ok_law_raised {f : Addr} {fd : FuncData} (F : Fun K "_law_raised" "_law_raised" s_law_raised f fd) (nb : NB mg bnames)    : FnOk P w K mg base CX0 1 f fd ["base", "times"] (sp_law_raised K) := by
  refine F.ok sc_law_raised (fun vs H Q E h => ?_) (fun cdv A outer s H vs Q E hr h => ?_)
  · obtain ⟨b, t, rfl, _⟩ := h
    rfl
  · obtain ⟨b, t, rfl, h0, h1, ht, q⟩ := h
    refine ⟨_, (pss_cons (ps_set (i := 2) sc_law_raised.nd rfl (.inl rfl) pe_int)
        (pss_cons (ps_for PassesOwn.never rfl (pi_range1 (by rfl) (nb "range" rfl) (pa_cons (pv 1) pa_nil)) (pg_name (i := 3) sc_law_raised.nd rfl (.inl rfl))
        (pss_one (ps_set (i := 2) sc_law_raised.nd rfl (.inl rfl) (pe_op op_mulX (pv 2) (pv 0)))))
        (pss_one (ps_ret (pv 2))))), ?_⟩
    refine ⟨_, rfl, t, rfl, by omega, by omega, for_range (lo := 0) (n := ((t : Nat) : Int).toNat) (fun i σ H' => ∃ y, σ = [some (.int b), some (.int (t : Int)), some (.int (b ^ i)), y] ∧ H' = H ∧ i ≤ t)
      ⟨_, by rw [Int.pow_zero]; rfl, rfl, Nat.zero_le _⟩ (fun i σ H' hi hP => ?_) (fun σ H' hP => ?_)⟩
    · obtain ⟨y, rfl, rfl, hit⟩ := hP
      have hi' : i < t := by omega
      have hb : (b ^ i).natAbs < 2 ^ 7001 := by
        rw [Int.natAbs_pow]
        exact Nat.lt_of_le_of_lt (Nat.pow_le_pow_left (show b.natAbs ≤ 2 ^ 7 by omega) i) (by
          rw [← Nat.pow_mul]
          exact Nat.pow_lt_pow_right (by decide) (by omega))
      have e1 : b ^ i * b = b ^ (i + 1) := (Int.pow_succ b i).symm
      exact ⟨_, rfl, _, rfl, _, _, rfl, rfl, mulx_ok (a := 7001) (b := 7) hb (by clear hb; omega) (by decide), some (.int (0 + (i : Int))), by rw [← e1]; rfl, rfl, hi'⟩
    · obtain ⟨y, rfl, rfl, hit⟩ := hP
      exact ⟨_, rfl, q⟩

theorem sum_take_le (f : Rule → Nat) : ∀ (ks : List Rule) (i : Nat), ((ks.take i).map f).sum ≤ (ks.map f).sum
  | [], i => by simp
  | k :: ks, 0 => by simp
  | k :: ks, i + 1 => by
    have := sum_take_le f ks i
    simp only [List.take_succ_cons, List.map_cons, List.sum_cons]
    omega
theorem int_pow_lt {a b : Nat} (h : a < b) : (2 : Int) ^ a < 2 ^ b := by
  exact_mod_cast Nat.pow_lt_pow_right (by decide) h
theorem step_bound {m p : Int} {S t M : Nat} (m1 : 1 ≤ m) (m2 : m ≤ 2 ^ (7 * S)) (p1 : 1 ≤ p) (p2 : p < 128) (ht : t ≤ M) :
    m.natAbs < 2 ^ (7 * S + 1) ∧ (p ^ t).natAbs < 2 ^ (7 * t + 1) ∧ 1 ≤ m * p ^ t ∧ m * p ^ t ≤ 2 ^ (7 * (S + M)) := by
  obtain ⟨a, rfl⟩ := Int.eq_ofNat_of_zero_le (show 0 ≤ m by omega)
  obtain ⟨b, rfl⟩ := Int.eq_ofNat_of_zero_le (show 0 ≤ p by omega)
  have a2 : a ≤ 2 ^ (7 * S) := by exact_mod_cast m2
  have a1 : 1 ≤ a := by exact_mod_cast m1
  have b1 : 1 ≤ b := by exact_mod_cast p1
  have b2 : b ≤ 2 ^ 7 := by omega
  have c1 : b ^ t ≤ 2 ^ (7 * t) := by
    rw [Nat.pow_mul]
    exact Nat.pow_le_pow_left b2 t
  have c0 : 1 ≤ b ^ t := Nat.one_le_pow _ _ b1
  have c2 : a * b ^ t ≤ 2 ^ (7 * (S + M)) := by
    refine Nat.le_trans (Nat.mul_le_mul a2 c1) ?_
    rw [← Nat.pow_add]
    exact Nat.pow_le_pow_right (by decide) (by omega)
  refine ⟨?_, ?_, ?_, ?_⟩
  · exact Nat.lt_of_le_of_lt a2 (Nat.pow_lt_pow_right (by decide) (Nat.lt_succ_self _))
  · rw [Int.natAbs_pow]
    exact Nat.lt_of_le_of_lt c1 (Nat.pow_lt_pow_right (by decide) (Nat.lt_succ_self _))
  · exact_mod_cast Nat.mul_le_mul a1 c0
  · exact_mod_cast c2
theorem ok_law_step {f : Addr} {fd : FuncData} (F : Fun K "_law_step" "_law_step" s_law_step f fd) (nb : NB mg bnames) (F_law_draw : Fd P w K mg base "_law_draw" 1 ["deck", "many"] (sp_law_draw K)) (F_law_pick : Fd P w K mg base "_law_pick" 2 ["deck", "items"] (sp_law_pick K)) (F_law_raised : Fd P w K mg base "_law_raised" 1 ["base", "times"] (sp_law_raised K))   : FnOk P w K mg base CX0 3 f fd ["deck", "kinds"] (sp_law_step K) := by
  refine F.ok sc_law_step (fun vs H Q E h => ?_) (fun cdv A outer s H vs Q E hr h => ?_)
  · obtain ⟨d, l, a, ks, Γ, Δ, rfl, _⟩ := h
    rfl
  · obtain ⟨d, l, a, ks, Γ, Δ, rfl, hS, hm, ⟨hne, hk, hsum⟩, q⟩ := h
    refine ⟨_, (pss_cons (ps_set (i := 2) sc_law_step.nd rfl (.inl rfl) pe_int)
        (pss_cons (ps_for PassesOwn.never rfl (pi_list (pv 1)) (pg_tup (by rfl) (pgs_cons (pg_name (i := 3) sc_law_step.nd rfl (.inl rfl)) (pgs_cons (pg_name (i := 4) sc_law_step.nd rfl (.inl rfl)) pgs_nil)))
        (pss_one (ps_set (i := 2) sc_law_step.nd rfl (.inl rfl) (pe_op op_mulX (pv 2) (pe_fd F_law_raised (hr.mono (by decide)) (by rfl) (pa_cons (pv 3) (pa_cons (pe_fd F_law_draw (hr.mono (by decide)) (by rfl) (pa_cons (pv 0) (pa_cons (pe_fd F_law_pick (hr.mono (by decide)) (by rfl) (pa_cons (pv 0) (pa_cons (pe_lst (pa_cons pe_int (pa_cons pe_int (pa_cons (pe_op op_add (pv 4) pe_int) (pa_cons (pe_op op_add (pv 4) pe_int) pa_nil))))) pa_nil))) pa_nil))) pa_nil)))))))
        (pss_one (ps_ret (pe_ifExp (pt_cmpR op_gt (pv 2) pe_int (nomark _)) (pv 2) (pe_ix ix_tup (pe_ix ix_list (pv 1) pe_int (fun _ _ => rfl)) pe_int (fun _ _ => rfl))))))), ?_⟩
    obtain ⟨vs, hL, hlen⟩ := hS.lenL hm
    refine ⟨_, rfl, a, rfl, ⟨vs, hL⟩, for_it (n := ks.length) walkL (fun i σ H => ∃ (m : Int) (y z : Option V), σ = [some (.ref d), some (.ref a), some (.int m), y, z] ∧ St K H (some (d, l)) Γ Δ ∧ 1 ≤ m ∧ m ≤ 2 ^ (7 * ((ks.take i).map fun k => max 3 k.2.toNat).sum))
      ⟨1, _, _, rfl, hS, by decide, by rw [List.take_zero]; decide⟩ (fun i σ H _ hP => ?_) (fun i x σ H H' hi hP hy => ?_) (fun σ H hP => ?_)⟩
    · obtain ⟨_, _, _, _, hS, _⟩ := hP
      obtain ⟨xs, h1, h3⟩ := hS.lenL hm
      exact ⟨xs, h1, by rw [h3, List.length_map]⟩
    · obtain ⟨m, y, z, rfl, hS, m1, m2⟩ := hP
      obtain ⟨rfl, f⟩ := hy
      obtain ⟨dd, e1, hS1⟩ := hS.turnL hm f
      rw [List.getElem?_map, List.getElem?_eq_getElem hi] at e1
      cases Option.some.inj e1
      obtain ⟨ax, rfl⟩ := hS1.ref_of (List.mem_cons_self ..)
      have hT := hS1.pair (List.mem_cons_self ..)
      obtain ⟨p1, p2, p3, p4⟩ := hk _ (List.getElem_mem hi)
      have htake : ((ks.take (i + 1)).map fun k => max 3 k.2.toNat).sum = ((ks.take i).map fun k => max 3 k.2.toNat).sum + max 3 ks[i].2.toNat := by
        rw [List.take_add_one, List.getElem?_eq_getElem hi, List.map_append, List.sum_append]
        simp only [Option.toList_some, List.map_cons, List.map_nil, List.sum_cons, List.sum_nil, Nat.add_zero]
      have hle : ((ks.take (i + 1)).map fun k => max 3 k.2.toNat).sum ≤ 199 := Nat.le_trans (sum_take_le _ _ _) hsum
      rw [htake] at hle
      refine ⟨ax, _, rfl, hT, rfl, _, _, rfl, _, _, rfl, rfl, ?_⟩
      generalize ks[i].1 = pr at p1 p2
      generalize ks[i].2 = mo at p3 p4 htake hle
      generalize ((ks.take i).map fun k => max 3 k.2.toNat).sum = S at htake hle m2
      refine ⟨_, rfl, _, rfl, _, rfl, ?_⟩
      have hS0 := hS1.weaken (Δ' := Δ) fun _ => List.mem_cons_of_mem _
      refine go_pick (ds := [.int 2, .int 4, .int (mo + 1), .int (mo + 1)]) rfl ?_ .rfl' hS0 (by simp) (by show 4 ≤ 10000; decide) (fun H1 v x hx hS2 => ?_)
      · walk_at "evd"
      obtain ⟨c, rfl, c1, c2⟩ : ∃ c : Int, x = .int c ∧ 1 ≤ c ∧ c ≤ max 4 (mo + 1) := by
        simp only [List.mem_cons, List.not_mem_nil, or_false] at hx
        rcases hx with rfl | rfl | rfl | rfl
        · exact ⟨_, rfl, by omega, by omega⟩
        · exact ⟨_, rfl, by omega, by omega⟩
        · exact ⟨_, rfl, by omega, by omega⟩
        · exact ⟨_, rfl, by omega, by omega⟩
      obtain rfl := hS2.int_of (List.mem_cons_self ..)
      refine ⟨d, l, c, Γ, Δ, rfl, hS2.weaken fun _ => List.mem_cons_of_mem _, small8000 (by omega) (by omega), fun H2 r hS3 r0 r1 => ?_⟩
      have hr : r.toNat ≤ max 3 mo.toNat := by omega
      refine ⟨pr, r.toNat, ?_, by omega, by omega, by omega, ?_⟩
      · rw [show ((r.toNat : Nat) : Int) = r by omega]
        rfl
      obtain ⟨b1, b2, b3, b4⟩ := step_bound (t := r.toNat) m1 m2 (by omega) p2 hr
      refine ⟨m, pr ^ r.toNat, rfl, rfl, mulx_ok (a := 7 * S + 1) (b := 7 * r.toNat + 1) b1 b2 (by omega), _, _, _, rfl, hS3, b3, ?_⟩
      rw [htake]
      exact b4
    · obtain ⟨m, y, z, rfl, hS, m1, m2⟩ := hP
      rw [List.take_length] at m2
      refine ⟨_, rfl, _, _, rfl, rfl, _, rfl, ite2 (fun e => ?_) (fun e => ?_)⟩
      · have e' : 1 < m := by simpa using e
        refine ⟨_, rfl, q _ m hS (by omega) (Int.lt_of_le_of_lt m2 ?_)⟩
        exact int_pow_lt (by omega)
      · cases ks with
        | nil => exact absurd rfl hne
        | cons k ks =>
          obtain ⟨p1, p2, p3, p4⟩ := hk k (List.mem_cons_self ..)
          obtain ⟨us, hL2, hlen2, Δ2, rfl, hS3, hv2⟩ := hS.lstAt hm
          obtain ⟨v, e1, e2⟩ := dvs_at (i := 0) hv2 (x := ruleD k) rfl
          have hS4 := hS3.also e2
          obtain ⟨ax, rfl⟩ := hS4.ref_of (List.mem_cons_self ..)
          have hT := hS4.pair (List.mem_cons_self ..)
          refine ⟨_, rfl, a, us, 0, _, rfl, rfl, hL2, atI_nat (j := 0) e1, ax, _, 0, _, rfl, rfl, hT, atI_nat (j := 0) rfl, q _ _ hS p1 (Int.lt_trans p2 (by decide +kernel))⟩

def menu1 : List (List Rule) := [[(2, 60), (5, 60)], [(2, 190)], [(2, 70), (3, 70)], [(2, 40), (3, 40), (5, 40)], [(7, 60)], [(97, 30)]]
def menu2 : List (List Rule) := [[(2, 6), (3, 4), (5, 2), (7, 2), (11, 1), (13, 1), (17, 1), (19, 1)], [(2, 4), (3, 2)], [(10, 60)]]
theorem menus_ok : ∀ ks ∈ menu1 ++ menu2, KindsOk ks := by unfold KindsOk; decide
theorem ok_law_kinds {f : Addr} {fd : FuncData} (F : Fun K "_law_kinds" "_law_kinds" s_law_kinds f fd) (nb : NB mg bnames) (F_law_pick : Fd P w K mg base "_law_pick" 2 ["deck", "items"] (sp_law_pick K))   : FnOk P w K mg base CX0 3 f fd ["deck"] (sp_law_kinds K) := by
  refine F.ok sc_law_kinds (fun vs H Q E h => ?_) (fun cdv A outer s H vs Q E hr h => ?_)
  · obtain ⟨d, l, Γ, Δ, rfl, _⟩ := h
    rfl
  · obtain ⟨d, l, Γ, Δ, rfl, hS, q⟩ := h
    refine ⟨_, (pss_cons (ps_set (i := 1) sc_law_kinds.nd rfl (.inl rfl) (pe_lst (pa_cons (pe_lst (pa_cons (pe_tup (pa_cons pe_int (pa_cons pe_int pa_nil))) (pa_cons (pe_tup (pa_cons pe_int (pa_cons pe_int pa_nil))) pa_nil))) (pa_cons (pe_lst (pa_cons (pe_tup (pa_cons pe_int (pa_cons pe_int pa_nil))) pa_nil)) (pa_cons (pe_lst (pa_cons (pe_tup (pa_cons pe_int (pa_cons pe_int pa_nil))) (pa_cons (pe_tup (pa_cons pe_int (pa_cons pe_int pa_nil))) pa_nil))) (pa_cons (pe_lst (pa_cons (pe_tup (pa_cons pe_int (pa_cons pe_int pa_nil))) (pa_cons (pe_tup (pa_cons pe_int (pa_cons pe_int pa_nil))) (pa_cons (pe_tup (pa_cons pe_int (pa_cons pe_int pa_nil))) pa_nil)))) (pa_cons (pe_lst (pa_cons (pe_tup (pa_cons pe_int (pa_cons pe_int pa_nil))) pa_nil)) (pa_cons (pe_lst (pa_cons (pe_tup (pa_cons pe_int (pa_cons pe_int pa_nil))) pa_nil)) pa_nil))))))))
        (pss_cons (ps_set (i := 1) sc_law_kinds.nd rfl (.inl rfl) (pe_op op_cat (pv 1) (pe_lst (pa_cons (pe_lst (pa_cons (pe_tup (pa_cons pe_int (pa_cons pe_int pa_nil))) (pa_cons (pe_tup (pa_cons pe_int (pa_cons pe_int pa_nil))) (pa_cons (pe_tup (pa_cons pe_int (pa_cons pe_int pa_nil))) (pa_cons (pe_tup (pa_cons pe_int (pa_cons pe_int pa_nil))) (pa_cons (pe_tup (pa_cons pe_int (pa_cons pe_int pa_nil))) (pa_cons (pe_tup (pa_cons pe_int (pa_cons pe_int pa_nil))) (pa_cons (pe_tup (pa_cons pe_int (pa_cons pe_int pa_nil))) (pa_cons (pe_tup (pa_cons pe_int (pa_cons pe_int pa_nil))) pa_nil))))))))) (pa_cons (pe_lst (pa_cons (pe_tup (pa_cons pe_int (pa_cons pe_int pa_nil))) (pa_cons (pe_tup (pa_cons pe_int (pa_cons pe_int pa_nil))) pa_nil))) (pa_cons (pe_lst (pa_cons (pe_tup (pa_cons pe_int (pa_cons pe_int pa_nil))) pa_nil)) pa_nil))))))
        (pss_one (ps_ret (pe_fd F_law_pick (hr.mono (by decide)) (by rfl) (pa_cons (pv 0) (pa_cons (pv 1) pa_nil))))))), ?_⟩
    refine go_set (EvDs.make (B := Δ) (ds := menu1.map kindsD) ?_ .rfl' hS (by decide) (fun p H1 hS1 => ?_))
    · unfold menu1
      walk_at "evd"
    refine go_set (go_op ⟨_, rfl, EvDs.make (B := Δ) (ds := menu2.map kindsD) ?_ .rfl' hS1 (by decide) (fun r H2 hS2 => ?_)⟩)
    · unfold menu2
      walk_at "evd"
    obtain ⟨xs, zs, h1, h2, h3, h4, h5⟩ := hS2.swap.cat
    refine ⟨p, r, xs, zs, rfl, rfl, h1, h2, ?_, fun t ht => ?_⟩
    · rw [h3, h4]
      decide
    have hS3 := (h5 t ht).freeze.drop.drop
    refine go_ret (go_pick rfl (ed_var rfl (.of (List.mem_cons_self ..))) .rfl' hS3 (by decide) (by decide) (fun H' v x hx hS4 => ?_))
    rw [← List.map_append] at hx
    obtain ⟨ks, hk, rfl⟩ := List.mem_map.mp hx
    exact q H' v ks (menus_ok ks hk) (hS4.weaken fun y hy => by
      rcases List.mem_cons.mp hy with rfl | hy
      · exact List.mem_cons_self ..
      · exact List.mem_cons_of_mem _ (List.mem_cons_of_mem _ hy))

theorem ok_law_great {f : Addr} {fd : FuncData} (F : Fun K "_law_great" "_law_great" s_law_great f fd) (nb : NB mg bnames) (F_law_draw : Fd P w K mg base "_law_draw" 1 ["deck", "many"] (sp_law_draw K)) (F_law_kinds : Fd P w K mg base "_law_kinds" 3 ["deck"] (sp_law_kinds K)) (F_law_mixed : Fd P w K mg base "_law_mixed" 2 ["deck", "items"] (sp_law_mixed K)) (F_law_pick : Fd P w K mg base "_law_pick" 2 ["deck", "items"] (sp_law_pick K)) (F_law_step : Fd P w K mg base "_law_step" 3 ["deck", "kinds"] (sp_law_step K))   : FnOk P w K mg base CX0 4 f fd ["deck", "most"] (sp_law_great K) := by
  refine F.ok sc_law_great (fun vs H Q E h => ?_) (fun cdv A outer s H vs Q E hr h => ?_)
  · obtain ⟨d, l, m, Γ, Δ, rfl, _⟩ := h
    rfl
  · obtain ⟨d, l, most, Γ, Δ, rfl, hS, hm1, hm2, q⟩ := h
    refine ⟨_, (pss_cons (ps_par3 (by rfl) (i := 2) (j := 3) (l := 4) sc_law_great.nd rfl rfl rfl (by decide) (by decide) (by decide) rfl rfl rfl (pa_cons (pe_fd F_law_kinds (hr.mono (by decide)) (by rfl) (pa_cons (pv 0) pa_nil)) (pa_cons (pe_lst pa_nil) (pa_cons (pe_fd F_law_pick (hr.mono (by decide)) (by rfl) (pa_cons (pv 0) (pa_cons (pe_lst (pa_cons (pe_op op_powW pe_int pe_int) (pa_cons (pe_op op_powW pe_int pe_int) (pa_cons (pe_op op_powW pe_int pe_int) (pa_cons (pe_op op_powW pe_int pe_int) pa_nil))))) pa_nil))) pa_nil))) (by rfl))
        (pss_cons (ps_set (i := 5) sc_law_great.nd rfl (.inl rfl) (pe_callB (call_max2 rfl) (by rfl) (nb "max" rfl) (by decide +kernel) (pa_cons pe_int (pa_cons (pe_fd F_law_pick (hr.mono (by decide)) (by rfl) (pa_cons (pv 0) (pa_cons (pe_lst (pa_cons (pv 1) (pa_cons (pv 1) (pa_cons (pe_op op_fdiv (pv 1) pe_int) (pa_cons (pe_callB (call_min2 rfl) (by rfl) (nb "min" rfl) (by decide +kernel) (pa_cons pe_int (pa_cons (pv 1) pa_nil))) (pa_cons pe_int pa_nil)))))) pa_nil))) pa_nil))))
        (pss_cons (ps_for PassesOwn.never rfl (pi_range1 (by rfl) (nb "range" rfl) (pa_cons (pv 5) pa_nil)) (pg_name (i := 6) sc_law_great.nd rfl (.inl rfl))
        (pss_cons (ps_set (i := 7) sc_law_great.nd rfl (.inl rfl) (pe_fd F_law_step (hr.mono (by decide)) (by rfl) (pa_cons (pv 0) (pa_cons (pv 2) pa_nil))))
        (pss_cons (ps_set (i := 8) sc_law_great.nd rfl (.inl rfl) (pe_ifExp (pt_cmpR op_eq (pe_fd F_law_draw (hr.mono (by decide)) (by rfl) (pa_cons (pv 0) (pa_cons pe_int pa_nil))) pe_int (nomark _)) (pe_fd F_law_draw (hr.mono (by decide)) (by rfl) (pa_cons (pv 0) (pa_cons (pe_callB (call_max2 rfl) (by rfl) (nb "max" rfl) (by decide +kernel) (pa_cons pe_int (pa_cons (pe_op op_fdivW (pv 4) (pv 7)) pa_nil))) pa_nil))) (pe_fd F_law_draw (hr.mono (by decide)) (by rfl) (pa_cons (pv 0) (pa_cons pe_int pa_nil)))))
        (pss_cons (ps_set (i := 9) sc_law_great.nd rfl (.inl rfl) (pe_op op_add (pe_op op_mulX (pv 7) (pv 8)) (pe_fd F_law_pick (hr.mono (by decide)) (by rfl) (pa_cons (pv 0) (pa_cons (pe_lst (pa_cons pe_int (pa_cons pe_int (pa_cons (pe_un un_neg pe_int) (pa_cons pe_int (pa_cons (pe_fd F_law_draw (hr.mono (by decide)) (by rfl) (pa_cons (pv 0) (pa_cons (pv 7) pa_nil))) pa_nil)))))) pa_nil)))))
        (Evl.pss_cut (ps_if (PW.pt (pw_and (pt_cmpR (op_neD hr.units) (pv 3) (pe_lst pa_nil) (nomark _)) (pw_and1 (pt_cmpR op_eq (pe_fd F_law_draw (hr.mono (by decide)) (by rfl) (pa_cons (pv 0) (pa_cons pe_int pa_nil))) pe_int (nomark _))))) (pss_one (ps_set (i := 9) sc_law_great.nd rfl (.inl rfl) (pe_ix ix_tup (pe_ix ix_list (pv 3) (pe_un un_neg pe_int) (fun _ _ => rfl)) pe_int (fun _ _ => rfl)))) pss_nil)
        (pss_one (ps_expr (pe_bm PySem.F.plainAttrs_list PySem.F.slot_list_append PySem.F.type_list_append mt_append (pv 3) (pa_cons (pe_tup (pa_cons (pe_callB (call_min2 rfl) (by rfl) (nb "min" rfl) (by decide +kernel) (pa_cons (pe_op op_powW pe_int pe_int) (pa_cons (pe_callB (call_max2 rfl) (by rfl) (nb "max" rfl) (by decide +kernel) (pa_cons pe_int (pa_cons (pv 9) pa_nil))) pa_nil))) (pa_cons (pv 7) pa_nil))) pa_nil)))))))))
        (Evl.pss_cut (ps_if (pt_cmpR op_eq (pe_fd F_law_draw (hr.mono (by decide)) (by rfl) (pa_cons (pv 0) (pa_cons pe_int pa_nil))) pe_int (nomark _)) (pss_one (ps_asg (pe_tup (pa_cons (pe_fd F_law_pick (hr.mono (by decide)) (by rfl) (pa_cons (pv 0) (pa_cons (pe_lst (pa_cons (pv 4) (pa_cons (pe_op op_sub (pv 4) pe_int) (pa_cons (pe_fd F_law_draw (hr.mono (by decide)) (by rfl) (pa_cons (pv 0) (pa_cons (pv 4) pa_nil))) (pa_cons pe_int (pa_cons (pe_op op_powW pe_int pe_int) pa_nil)))))) pa_nil))) (pa_cons pe_int pa_nil))) (pg_sub (pv 3) (pe_fd F_law_draw (hr.mono (by decide)) (by rfl) (pa_cons (pv 0) (pa_cons (pe_callB call_len_seq (by rfl) (nb "len" rfl) PySem.boot_len (pa_cons (pv 3) pa_nil)) pa_nil))) set_list))) pss_nil)
        (pss_one (ps_ret (pe_callTy call_tuple_of (by rfl) (nb "tuple" rfl) (by decide +kernel) (pa_cons (pe_fd F_law_mixed (hr.mono (by decide)) (by rfl) (pa_cons (pv 0) (pa_cons (pv 3) pa_nil))) pa_nil)))))))), ?_⟩
    have e60 : (10 : Int) ^ (60 : Int).toNat = 10 ^ 60 := rfl
    have c60 : CPowW 10 60 := ⟨by decide, by decide⟩
    -- kinds, found, top
    refine ⟨_, rfl, d, l, Γ, Δ, rfl, hS, fun H1 vk ks hks hS1 => ⟨Nat.zero_le _, fun f hf => ?_⟩⟩
    obtain ⟨ak, rfl⟩ := hS1.lref_of (List.mem_cons_self ..)
    have hS2 := hS1.make (ds := []) hf .nil
    refine go_pick (B := []) (ds := [.int (10 ^ (6 : Int).toNat), .int (10 ^ (18 : Int).toNat), .int (10 ^ (60 : Int).toNat), .int (10 ^ (60 : Int).toNat)]) rfl ?_ sub_nil hS2 (by simp) (by show 4 ≤ 10000; decide) (fun H2 v x hx hS3 => ?_)
    · exact ed_lst (eds_cons (ed_I ed_int ed_int ⟨by decide, by decide⟩) (eds_cons (ed_I ed_int ed_int ⟨by decide, by decide⟩) (eds_cons (ed_I ed_int ed_int c60) (eds_cons (ed_I ed_int ed_int c60) eds_nil)))) (by show 4 ≤ 10000; decide)
    obtain ⟨top, rfl, t1, t2⟩ : ∃ c : Int, x = .int c ∧ 10 ^ 6 ≤ c ∧ c ≤ 10 ^ 60 := by
      simp only [List.mem_cons, List.not_mem_nil, or_false] at hx
      rcases hx with rfl | rfl | rfl | rfl
      · exact ⟨_, rfl, by decide, by decide⟩
      · exact ⟨_, rfl, by decide, by decide⟩
      · exact ⟨_, rfl, by decide, by decide⟩
      · exact ⟨_, rfl, by decide, by decide⟩
    obtain rfl := hS3.int_of (List.mem_cons_self ..)
    replace hS3 := hS3.weaken (Δ' := (.ref ak, kindsD ks) :: Δ) fun _ => List.mem_cons_of_mem _
    refine ⟨_, _, _, rfl, ?_⟩
    -- many
    dsimp only
    refine go_set (go_cb (go_cons (go_c (go_cons ?_))))
    refine go_pick (B := []) (ds := [.int most, .int most, .int (most / 2), .int (if most < 3 then most else 3), .int 1]) rfl ?_ sub_nil hS3 (by simp) (by show 5 ≤ 10000; decide) (fun H3 v x hx hS4 => ?_)
    · exact ed_lst (eds_cons (ed_varI rfl) (eds_cons (ed_varI rfl) (eds_cons (ed_I (ed_varI rfl) ed_int ⟨by decide, by decide⟩) (eds_cons (ed_min2 ed_int (ed_varI rfl)) (eds_cons ed_int eds_nil))))) (by show 5 ≤ 10000; decide)
    obtain ⟨c, rfl, c2⟩ : ∃ c : Int, x = .int c ∧ c ≤ 40 := by
      simp only [List.mem_cons, List.not_mem_nil, or_false] at hx
      rcases hx with rfl | rfl | rfl | rfl | rfl
      · exact ⟨_, rfl, hm2⟩
      · exact ⟨_, rfl, hm2⟩
      · exact ⟨_, rfl, by omega⟩
      · exact ⟨_, rfl, by split <;> omega⟩
      · exact ⟨_, rfl, by decide⟩
    obtain rfl := hS4.int_of (List.mem_cons_self ..)
    replace hS4 := hS4.weaken (Δ' := (.ref ak, kindsD ks) :: Δ) fun _ => List.mem_cons_of_mem _
    refine ⟨_, _, rfl, ?_⟩
    obtain ⟨many, hmany, y1, y2⟩ : ∃ many : Int, (if c > 1 then c else 1) = many ∧ 1 ≤ many ∧ many ≤ 40 := ⟨_, rfl, by split <;> omega, by split <;> omega⟩
    rw [hmany]
    have top0 : 0 < top := by omega
    -- the loop
    refine ⟨_, rfl, many, rfl, by omega, by omega, for_range (lo := 0) (n := many.toNat) (fun i σ H => ∃ (rs : List Rule) (y6 y7 y8 y9 : Option V), σ = [some (.ref d), some (.int most), some (.ref ak), some (.ref f), some (.int top), some (.int many), y6, y7, y8, y9] ∧
        St K H (some (d, l)) ((f, rs.map ruleD) :: Γ) ((.ref ak, kindsD ks) :: Δ) ∧ rs.length = i ∧ ∀ r ∈ rs, RuleOk r)
      ⟨[], _, _, _, _, rfl, hS4, rfl, fun r hr => (nomatch hr)⟩ (fun i σ H hi hP => ?_) (fun σ H hP => ?_)⟩
    · obtain ⟨rs, y6, y7, y8, y9, rfl, hS, hlen, hok⟩ := hP
      -- step
      refine go_set ⟨_, rfl, _, rfl, d, l, ak, ks, _, _, rfl, hS, List.mem_cons_self .., hks, fun H1 step hS1 s1 s2 => ?_⟩
      have s3 : step.natAbs < 2 ^ 1400 := by omega
      -- times
      refine go_set (cps (fun v H' => ∃ t : Int, v = .int t ∧ St K H' (some (d, l)) ((f, rs.map ruleD) :: Γ) ((.ref ak, kindsD ks) :: Δ) ∧ 0 ≤ t ∧ t ≤ 10 ^ 60) (fun Q' q' => ?_) (fun v H2 hv => ?_))
      · refine go_ite (go_test (go_op (go_draw (B := []) rfl ed_int sub_nil hS1 (by decide +kernel) (fun H2 r hS2 r0 r1 => ⟨rfl, _, rfl, ite2 (fun e => ?_) (fun e => ?_)⟩))))
        · have hdv : CDivW top step := wide_div (by omega) s3 (by decide) (by decide)
          have hle : (if top / step > 1 then top / step else 1) ≤ 10 ^ 60 := by
            have : top / step ≤ top := Int.ediv_le_self _ (by omega)
            split <;> omega
          have hge : 1 ≤ (if top / step > 1 then top / step else 1) := by split <;> omega
          refine go_draw (B := []) rfl (ed_max2 ed_int (ed_I (ed_varI rfl) (ed_varI rfl) hdv)) sub_nil hS2 (small8000 (by omega) (Int.le_trans hle (by decide))) (fun H3 r hS3 r0 r1 => q' _ _ ⟨r, rfl, hS3, r0, by omega⟩)
        · exact go_draw (B := []) rfl ed_int sub_nil hS2 (by decide +kernel) (fun H3 r hS3 r0 r1 => q' _ _ ⟨r, rfl, hS3, r0, by omega⟩)
      obtain ⟨t, rfl, hS2, u1, u2⟩ := hv
      have u3 : t.natAbs < 2 ^ 200 := by
        have e : (10 : Int) ^ 60 < 2 ^ 200 := by decide +kernel
        omega
      -- bound
      refine go_set ⟨_, rfl, _, rfl, _, _, rfl, rfl, mulx_ok s3 u3 (by decide), _, rfl, _, rfl, ?_⟩
      refine go_cons (go_draw (B := []) rfl (ed_varI rfl) sub_nil hS2 (Nat.lt_trans s3 (by decide +kernel)) (fun H3 r hS3 r0 r1 => ⟨(by show 5 ≤ sizeLine; decide), fun p hp => ?_⟩))
      have hS4 := hS3.lst (vs := [.int 0, .int 0, .int (-1), .int 1, .int r]) (ds := [.int 0, .int 0, .int (-1), .int 1, .int r]) hp (.cons (.int _) (.cons (.int _) (.cons (.int _) (.cons (.int _) (.cons (.int _) .nil)))))
      refine ⟨d, l, p, _, _, _, rfl, hS4, List.mem_cons_self .., by simp, by show 5 ≤ 10000; decide, fun H4 v x hx hS5 => ?_⟩
      obtain ⟨c, rfl⟩ : ∃ c : Int, x = .int c := by
        simp only [List.mem_cons, List.not_mem_nil, or_false] at hx
        rcases hx with rfl | rfl | rfl | rfl | rfl
        · exact ⟨_, rfl⟩
        · exact ⟨_, rfl⟩
        · exact ⟨_, rfl⟩
        · exact ⟨_, rfl⟩
        · exact ⟨_, rfl⟩
      obtain rfl := hS5.int_of (List.mem_cons_self ..)
      replace hS5 := hS5.weaken (Δ' := (.ref ak, kindsD ks) :: Δ) fun _ h => List.mem_cons_of_mem _ (List.mem_cons_of_mem _ h)
      refine ⟨_, _, rfl, rfl, ?_⟩
      -- if found != [] and ..
      refine go_cut (fun σ H' => ∃ b : Int, σ = [some (.ref d), some (.int most), some (.ref ak), some (.ref f), some (.int top), some (.int many), some (.int (0 + (i : Int))), some (.int step), some (.int t), some (.int b)] ∧
        St K H' (some (d, l)) ((f, rs.map ruleD) :: Γ) ((.ref ak, kindsD ks) :: Δ)) ?_ (fun σ H5 hM => ?_)
      · refine ⟨_, rfl, Nat.zero_le _, fun u hu => ?_⟩
        have hS6 := hS5.lst (ds := []) hu .nil
        have hlay : Lay 60 (rs.map ruleD) := lay_rules rs
        refine ne_nil_list (ds := rs.map ruleD) ((hS6.weaken (Δ' := []) fun _ h => nomatch h).freeze.dp (.of (List.mem_cons_self ..))) (.lst (SqL.of upd_same) .nil) hlay ⟨_, rfl, ?_⟩
        replace hS6 := hS6.weaken (Δ' := (.ref ak, kindsD ks) :: Δ) fun _ => List.mem_cons_of_mem _
        revert hS6
        generalize upd H4 u (.lst []) = H6
        intro hS6
        by_cases hrs : rs = []
        · subst hrs
          refine iteF (iteF ⟨_, rfl, hS6⟩)
        · have e0 : (!(rs.map ruleD).isEmpty) = true := by
            cases rs with
            | nil => exact absurd rfl hrs
            | cons r rs => rfl
          rw [e0]
          refine iteT (go_test (go_op (go_draw (B := []) rfl ed_int sub_nil hS6 (by decide +kernel) (fun H7 r hS7 r0 r1 => ⟨rfl, _, rfl, ite2 (fun e => ?_) (fun e => ?_)⟩))))
          · obtain ⟨rl, hrl⟩ : ∃ rl, rs[rs.length - 1]? = some rl := ⟨_, List.getElem?_eq_getElem (by have := List.length_pos_iff.mpr hrs; omega)⟩
            have hrl2 : (rs.map ruleD)[(rs.map ruleD).length - 1]? = some (ruleD rl) := by
              rw [List.length_map, List.getElem?_map, hrl]
              rfl
            obtain ⟨vs, v, k1, k2, k3⟩ := hS7.last hrl2
            obtain ⟨av, rfl⟩ := k3.ref_of (List.mem_cons_self ..)
            have hT := k3.pair (List.mem_cons_self ..)
            exact ⟨_, rfl, _, rfl, f, vs, -1, _, rfl, rfl, SqL.of k1, k2, av, _, 0, _, rfl, rfl, hT, atI_nat (j := 0) rfl, _, rfl, hS7⟩
          · exact ⟨_, rfl, hS7⟩
      · obtain ⟨b, rfl, hS6⟩ := hM
        obtain ⟨vf, hf1, hf2, _, _⟩ := hS6.look
        refine ⟨_, rfl, .inl ⟨rfl, _, SqL.of hf1⟩, _, _, rfl, rfl, c60, _, rfl, _, _, rfl, _, _, rfl, _, rfl, (by show 2 ≤ sizeLine; decide), fun p hp => ?_⟩
        rw [e60]
        obtain ⟨b', hb', w1, w2⟩ : ∃ b' : Int, (if (if b > 0 then b else 0) < 10 ^ 60 then (if b > 0 then b else 0) else 10 ^ 60) = b' ∧ 0 ≤ b' ∧ b' ≤ 10 ^ 60 := by
          have hb0 : 0 ≤ (if b > 0 then b else 0) := by split <;> omega
          generalize (if b > 0 then b else 0) = bb at hb0
          refine ⟨_, rfl, ?_, ?_⟩
          · split
            · exact hb0
            · decide
          · split
            · omega
            · exact Int.le_refl _
        rw [hb']
        have hS7 := hS6.tup (vs := [.int b', .int step]) (ds := [.int b', .int step]) hp (.cons (.int _) (.cons (.int _) .nil))
        obtain ⟨vf2, g1, g2, g3⟩ := hS7.push (.of (List.mem_cons_self ..))
        refine ⟨f, vf2, _, rfl, rfl, g1, small1000 (by rw [g2, List.length_map]; omega), ?_⟩
        refine ⟨rs ++ [(b', step)], _, _, _, _, rfl, ?_, ?_, ?_⟩
        · rw [List.map_append]
          exact g3.weaken fun _ h => List.mem_cons_of_mem _ h
        · rw [List.length_append, List.length_singleton, hlen]
        · intro r hr
          rcases List.mem_append.mp hr with hr | hr
          · exact hok r hr
          · rw [List.mem_singleton.mp hr]
            exact ⟨w1, w2, Or.inr ⟨s1, s2⟩⟩
    · obtain ⟨rs, y6, y7, y8, y9, rfl, hS, hlen, hok⟩ := hP
      have hl1 : 1 ≤ rs.length := by omega
      have hl2 : rs.length ≤ 40 := by omega
      -- if _law_draw(deck, 2) == 0
      refine go_cut (fun σ H' => ∃ rs : List Rule, σ = [some (.ref d), some (.int most), some (.ref ak), some (.ref f), some (.int top), some (.int many), y6, y7, y8, y9] ∧
        St K H' (some (d, l)) ((f, rs.map ruleD) :: Γ) ((.ref ak, kindsD ks) :: Δ) ∧ 1 ≤ rs.length ∧ rs.length ≤ 40 ∧ ∀ r ∈ rs, RuleOk r) ?_ (fun σ H5 hM => ?_)
      · refine go_if (go_test (go_op (go_draw (B := []) rfl ed_int sub_nil hS (by decide +kernel) (fun H2 r hS2 r0 r1 => ⟨rfl, _, rfl, ite2 (fun e => ?_) (fun e => ?_)⟩))))
        · -- found[..] = (.., 0)
          refine go_asgL (go_tup (go_cons ⟨_, rfl, ?_⟩))
          refine go_lst ⟨_, rfl, _, rfl, _, _, rfl, rfl, ?_⟩
          refine go_draw (B := []) rfl (ed_varI rfl) sub_nil hS2 (small8000 (by omega) (Int.le_trans t2 (by decide))) (fun H3 r hS3 r0 r1 => ⟨_, _, rfl, rfl, c60, (by show 5 ≤ sizeLine; decide), fun p hp => ?_⟩)
          have hS4 := hS3.lst (vs := [.int top, .int (top - 1), .int r, .int 0, .int (10 ^ (60 : Int).toNat)]) (ds := [.int top, .int (top - 1), .int r, .int 0, .int (10 ^ (60 : Int).toNat)]) hp (.cons (.int _) (.cons (.int _) (.cons (.int _) (.cons (.int _) (.cons (.int _) .nil)))))
          refine ⟨d, l, p, _, _, _, rfl, hS4, List.mem_cons_self .., by simp, by show 5 ≤ 10000; decide, fun H4 v x hx hS5 => ?_⟩
          obtain ⟨c, rfl, c1, c2⟩ : ∃ c : Int, x = .int c ∧ 0 ≤ c ∧ c ≤ 10 ^ 60 := by
            simp only [List.mem_cons, List.not_mem_nil, or_false] at hx
            rcases hx with rfl | rfl | rfl | rfl | rfl
            · exact ⟨_, rfl, by omega, by omega⟩
            · exact ⟨_, rfl, by omega, by omega⟩
            · exact ⟨_, rfl, by omega, by omega⟩
            · exact ⟨_, rfl, by decide, by decide⟩
            · exact ⟨_, rfl, by decide, by decide⟩
          obtain rfl := hS5.int_of (List.mem_cons_self ..)
          replace hS5 := hS5.weaken (Δ' := (.ref ak, kindsD ks) :: Δ) fun _ h => List.mem_cons_of_mem _ (List.mem_cons_of_mem _ h)
          refine ⟨(by show 2 ≤ sizeLine; decide), fun u hu => ⟨_, rfl, ?_⟩⟩
          have hS6 := hS5.tup (vs := [.int c, .int 0]) (ds := [.int c, .int 0]) hu (.cons (.int _) (.cons (.int _) .nil))
          obtain ⟨vf, f1, f2, _, _⟩ := hS6.look
          refine ⟨_, rfl, _, rfl, f, vf, rfl, .inl (SqL.of f1), d, l, _, _, _, rfl, hS6, ?_, fun H7 r hS7 r0 r1 => ?_⟩
          · rw [f2, List.length_map]
            exact small8000 (by omega) (by omega)
          rw [f2, List.length_map] at r1
          obtain ⟨vf2, g1, g2, g3⟩ := hS7.setAt (.of (List.mem_cons_self ..)) r.toNat
          refine ⟨f, vf2, r, r.toNat, rfl, rfl, g1, ixN_of r0 (by rw [g2, List.length_map]; omega), rs.set r.toNat (c, 0), rfl, ?_, ?_, ?_, ?_⟩
          · rw [List.map_set]
            exact g3.weaken fun _ h => List.mem_cons_of_mem _ h
          · rw [List.length_set]
            exact hl1
          · rw [List.length_set]
            exact hl2
          · intro r' hr'
            rcases List.mem_or_eq_of_mem_set hr' with h | h
            · exact hok _ h
            · rw [h]
              exact ⟨c1, c2, Or.inl rfl⟩
        · exact ⟨rs, rfl, hS2, hl1, hl2, hok⟩
      · obtain ⟨rs, rfl, hS6, hl1, hl2, hok⟩ := hM
        have hS7 := hS6.freeze
        refine go_ret (go_cb (go_cons ⟨_, rfl, _, rfl, d, l, f, rs.map ruleD, _, _, rfl, hS7, List.mem_cons_self .., lay_rules rs, by rw [List.length_map]; omega, fun H7 p es hperm hS8 => ?_⟩))
        obtain ⟨rs', rfl, hp2⟩ := perm_rules hperm
        have hS9 := hS8.freeze
        obtain ⟨vs, hL, hlen2, Δ2, rfl, hS10, hv2⟩ := hS9.lstAt (List.mem_cons_self ..)
        refine ⟨p, vs, rfl, .inl ⟨hL, fun u hu => ?_⟩⟩
        have hS11 := hS10.tup hu hv2
        refine q _ (.ref u) rs' ⟨?_, fun r hr => hok r (hp2.subset hr)⟩ ?_ (hS11.weaken fun y hy => ?_)
        · rw [hp2.length_eq]
          exact hl2
        · intro z
          subst z
          have := hp2.length_eq
          simp at this
          omega
        · rcases List.mem_cons.mp hy with rfl | hy
          · exact List.mem_cons_self ..
          · exact List.mem_cons_of_mem _ (List.mem_append_right _ (List.mem_cons_of_mem _ (List.mem_cons_of_mem _ (List.mem_cons_of_mem _ hy))))

def smallMenu : List (List Int) := [[2, 4, 8, 16], [2, 3, 6, 12], [10, 5, 2, 100], [2, 3, 4, 5, 6, 10], [7, 14], [2, 9, 6]]
theorem small_ok : ∀ ns ∈ smallMenu, ns ≠ [] ∧ ∀ x ∈ ns, 2 ≤ x ∧ x ≤ 100 := by decide
theorem small_len : ∀ ns ∈ smallMenu, ns.length ≤ 10000 := by decide
theorem ok_law_small {f : Addr} {fd : FuncData} (F : Fun K "_law_small" "_law_small" s_law_small f fd) (nb : NB mg bnames) (F_law_draw : Fd P w K mg base "_law_draw" 1 ["deck", "many"] (sp_law_draw K)) (F_law_pick : Fd P w K mg base "_law_pick" 2 ["deck", "items"] (sp_law_pick K))   : FnOk P w K mg base CX0 3 f fd ["deck", "most", "top"] (sp_law_small K) := by
  refine F.ok sc_law_small (fun vs H Q E h => ?_) (fun cdv A outer s H vs Q E hr h => ?_)
  · obtain ⟨d, l, m, t, Γ, Δ, rfl, _⟩ := h
    rfl
  · obtain ⟨d, l, most, top, Γ, Δ, rfl, hS, hm1, hm2, ht1, ht2, q⟩ := h
    refine ⟨_, (pss_cons (ps_set (i := 3) sc_law_small.nd rfl (.inl rfl) (pe_fd F_law_pick (hr.mono (by decide)) (by rfl) (pa_cons (pv 0) (pa_cons (pe_lst (pa_cons (pe_lst (pa_cons pe_int (pa_cons pe_int (pa_cons pe_int (pa_cons pe_int pa_nil))))) (pa_cons (pe_lst (pa_cons pe_int (pa_cons pe_int (pa_cons pe_int (pa_cons pe_int pa_nil))))) (pa_cons (pe_lst (pa_cons pe_int (pa_cons pe_int (pa_cons pe_int (pa_cons pe_int pa_nil))))) (pa_cons (pe_lst (pa_cons pe_int (pa_cons pe_int (pa_cons pe_int (pa_cons pe_int (pa_cons pe_int (pa_cons pe_int pa_nil))))))) (pa_cons (pe_lst (pa_cons pe_int (pa_cons pe_int pa_nil))) (pa_cons (pe_lst (pa_cons pe_int (pa_cons pe_int (pa_cons pe_int pa_nil)))) pa_nil))))))) pa_nil))))
        (pss_cons (ps_set (i := 4) sc_law_small.nd rfl (.inl rfl) (pe_lst pa_nil))
        (pss_cons (ps_for PassesOwn.never rfl (pi_range1 (by rfl) (nb "range" rfl) (pa_cons (pe_fd F_law_draw (hr.mono (by decide)) (by rfl) (pa_cons (pv 0) (pa_cons (pe_op op_add (pv 1) pe_int) pa_nil))) pa_nil)) (pg_name (i := 5) sc_law_small.nd rfl (.inl rfl))
        (pss_cons (ps_set (i := 6) sc_law_small.nd rfl (.inl rfl) (pe_fd F_law_pick (hr.mono (by decide)) (by rfl) (pa_cons (pv 0) (pa_cons (pv 3) pa_nil))))
        (pss_cons (ps_set (i := 7) sc_law_small.nd rfl (.inl rfl) (pe_fd F_law_draw (hr.mono (by decide)) (by rfl) (pa_cons (pv 0) (pa_cons (pe_op op_add (pe_op op_fdivW (pv 2) (pv 6)) pe_int) pa_nil))))
        (pss_cons (ps_set (i := 8) sc_law_small.nd rfl (.inl rfl) (pe_fd F_law_pick (hr.mono (by decide)) (by rfl) (pa_cons (pv 0) (pa_cons (pe_lst (pa_cons (pe_fd F_law_draw (hr.mono (by decide)) (by rfl) (pa_cons (pv 0) (pa_cons (pe_op op_add (pv 2) pe_int) pa_nil))) (pa_cons (pe_op op_mulX (pv 6) (pv 7)) (pa_cons (pe_op op_sub (pe_op op_mulX (pv 6) (pv 7)) pe_int) (pa_cons (pe_op op_add (pe_op op_mulX (pv 6) (pv 7)) pe_int) pa_nil))))) pa_nil))))
        (Evl.pss_cut (ps_if (PW.pt (pw_and (pt_cmpR (op_neD hr.units) (pv 4) (pe_lst pa_nil) (nomark _)) (pw_and1 (pt_cmpR op_eq (pe_fd F_law_draw (hr.mono (by decide)) (by rfl) (pa_cons (pv 0) (pa_cons pe_int pa_nil))) pe_int (nomark _))))) (pss_one (ps_set (i := 8) sc_law_small.nd rfl (.inl rfl) (pe_ix ix_tup (pe_ix ix_list (pv 4) (pe_un un_neg pe_int) (fun _ _ => rfl)) pe_int (fun _ _ => rfl)))) pss_nil)
        (pss_one (ps_expr (pe_bm PySem.F.plainAttrs_list PySem.F.slot_list_append PySem.F.type_list_append mt_append (pv 4) (pa_cons (pe_tup (pa_cons (pe_callB (call_min2 rfl) (by rfl) (nb "min" rfl) (by decide +kernel) (pa_cons (pv 2) (pa_cons (pe_callB (call_max2 rfl) (by rfl) (nb "max" rfl) (by decide +kernel) (pa_cons pe_int (pa_cons (pv 8) pa_nil))) pa_nil))) (pa_cons (pv 6) pa_nil))) pa_nil)))))))))
        (Evl.pss_cut (ps_if (pt_cmpR op_gt (pe_fd F_law_draw (hr.mono (by decide)) (by rfl) (pa_cons (pv 0) (pa_cons pe_int pa_nil))) pe_int (nomark _)) (pss_one (ps_expr (pe_bm PySem.F.plainAttrs_list PySem.F.slot_list_insert PySem.F.type_list_insert mt_insert (pv 4) (pa_cons (pe_fd F_law_draw (hr.mono (by decide)) (by rfl) (pa_cons (pv 0) (pa_cons (pe_op op_add (pe_callB call_len_seq (by rfl) (nb "len" rfl) PySem.boot_len (pa_cons (pv 4) pa_nil)) pe_int) pa_nil))) (pa_cons (pe_tup (pa_cons (pe_fd F_law_draw (hr.mono (by decide)) (by rfl) (pa_cons (pv 0) (pa_cons (pe_op op_add (pv 2) pe_int) pa_nil))) (pa_cons pe_int pa_nil))) pa_nil))))) pss_nil)
        (pss_one (ps_ret (pe_callTy call_tuple_of (by rfl) (nb "tuple" rfl) (by decide +kernel) (pa_cons (pe_slice sl_list (pv 4) po_none (po_some (pv 1))) pa_nil)))))))), ?_⟩
    -- steps
    refine go_set ?_
    refine go_pick (B := []) (ds := smallMenu.map fun ns => .list (ns.map PyData.int)) rfl ?_ sub_nil hS (by decide) (by decide) (fun H1 v x hx hS1 => ?_)
    · unfold smallMenu
      walk_at "evd"
    obtain ⟨ns, hns, rfl⟩ := List.mem_map.mp hx
    obtain ⟨n1, n2⟩ := small_ok ns hns
    obtain ⟨as, rfl⟩ := hS1.lref_of (List.mem_cons_self ..)
    -- found
    refine ⟨Nat.zero_le _, fun f hf => ?_⟩
    have hS2 := hS1.make (ds := []) hf .nil
    -- the loop
    dsimp only [gName]
    refine go_for (go_rng1 ?_)
    refine go_draw (B := []) rfl (ed_I0 (ed_varI rfl) ed_int) sub_nil hS2 (small8000 (by omega) (by omega)) (fun H3 many hS3 r0 r1 => ?_)
    refine ⟨many, rfl, by omega, by omega, for_range (lo := 0) (n := many.toNat) (fun i σ H => ∃ (rs : List Rule) (y6 y7 y8 y9 : Option V), σ = [some (.ref d), some (.int most), some (.int top), some (.ref as), some (.ref f), y6, y7, y8, y9] ∧
        St K H (some (d, l)) ((f, rs.map ruleD) :: Γ) ((.ref as, .list (ns.map PyData.int)) :: Δ) ∧ rs.length = i ∧ ∀ r ∈ rs, RuleOk r)
      ⟨[], _, _, _, _, rfl, hS3, rfl, fun r hr => (nomatch hr)⟩ (fun i σ H hi hP => ?_) (fun σ H hP => ?_)⟩
    · obtain ⟨rs, y6, y7, y8, y9, rfl, hS, hlen, hok⟩ := hP
      -- step
      refine go_set ?_
      refine go_pick (B := [(.ref as, .list (ns.map PyData.int))]) rfl (ed_var rfl (.of (List.mem_cons_self ..))) (fun y hy => by rw [List.mem_singleton.mp hy]; exact List.mem_cons_self ..) hS (by simpa using n1) (by rw [List.length_map]; exact small_len ns hns) (fun H1 v x hx hS1 => ?_)
      obtain ⟨step, hstep, rfl⟩ := List.mem_map.mp hx
      obtain ⟨s1, s2⟩ := n2 step hstep
      obtain rfl := hS1.int_of (List.mem_cons_self ..)
      replace hS1 := hS1.weaken (Δ' := (.ref as, .list (ns.map PyData.int)) :: Δ) fun _ => List.mem_cons_of_mem _
      -- times
      have hdv : CDivW top step := ⟨by omega, Nat.lt_of_lt_of_le (PySem.Flt.log2_lt_of (k := 8) (by decide) (by omega)) (by decide)⟩
      have q1 : 0 ≤ top / step := Int.ediv_nonneg ht1 (by omega)
      have q2 : top / step ≤ top := Int.ediv_le_self _ ht1
      refine go_set ?_
      refine go_draw (B := []) rfl (ed_I0 (ed_I (ed_varI rfl) (ed_varI rfl) hdv) ed_int) sub_nil hS1 (small8000 (by omega) (by omega)) (fun H2 t hS2 u1 u2 => ?_)
      have mu : CMulX step t := mulx_ok (a := 8) (b := 12) (by omega) (by omega) (by decide)
      -- bound
      refine go_set ⟨_, rfl, ?_⟩
      refine go_lst (go_cons ?_)
      refine go_draw (B := []) rfl (ed_I0 (ed_varI rfl) ed_int) sub_nil hS2 (small8000 (by omega) (by omega)) (fun H3 r hS3 r0 r1 => ?_)
      refine ⟨_, rfl, _, rfl, _, _, rfl, rfl, mu, _, rfl, _, rfl, _, _, rfl, rfl, mu, _, _, rfl, rfl, _, rfl, _, rfl, _, _, rfl, rfl, mu, _, _, rfl, rfl, (by show 4 ≤ sizeLine; decide), fun p hp => ?_⟩
      have hS4 := hS3.lst (vs := [.int r, .int (step * t), .int (step * t - 1), .int (step * t + 1)]) (ds := [.int r, .int (step * t), .int (step * t - 1), .int (step * t + 1)]) hp (.cons (.int _) (.cons (.int _) (.cons (.int _) (.cons (.int _) .nil))))
      refine ⟨d, l, p, _, _, _, rfl, hS4, List.mem_cons_self .., by simp, by show 4 ≤ 10000; decide, fun H4 v x hx hS5 => ?_⟩
      obtain ⟨c, rfl⟩ : ∃ c : Int, x = .int c := by
        simp only [List.mem_cons, List.not_mem_nil, or_false] at hx
        rcases hx with rfl | rfl | rfl | rfl
        · exact ⟨_, rfl⟩
        · exact ⟨_, rfl⟩
        · exact ⟨_, rfl⟩
        · exact ⟨_, rfl⟩
      obtain rfl := hS5.int_of (List.mem_cons_self ..)
      replace hS5 := hS5.weaken (Δ' := (.ref as, .list (ns.map PyData.int)) :: Δ) fun _ h => List.mem_cons_of_mem _ (List.mem_cons_of_mem _ h)
      -- if found != [] and ..
      refine go_cut (fun σ H' => ∃ b : Int, σ = [some (.ref d), some (.int most), some (.int top), some (.ref as), some (.ref f), some (.int (0 + (i : Int))), some (.int step), some (.int t), some (.int b)] ∧
        St K H' (some (d, l)) ((f, rs.map ruleD) :: Γ) ((.ref as, .list (ns.map PyData.int)) :: Δ)) ?_ (fun σ H5 hM => ?_)
      · refine go_if (go_and (go_test (go_ne rfl hS5 (fun H6 hS6 => ⟨_, rfl, ?_⟩))))
        by_cases hrs : rs = []
        · subst hrs
          refine iteF (iteF ⟨_, rfl, hS6⟩)
        · have e0 : (!rs.isEmpty) = true := by
            cases rs with
            | nil => exact absurd rfl hrs
            | cons r rs => rfl
          rw [e0]
          refine iteT (go_test (go_op (go_draw (B := []) rfl ed_int sub_nil hS6 (by decide +kernel) (fun H7 r hS7 r0 r1 => ⟨rfl, _, rfl, ite2 (fun e => ?_) (fun e => ?_)⟩))))
          · obtain ⟨rl, hrl⟩ : ∃ rl, rs[rs.length - 1]? = some rl := ⟨_, List.getElem?_eq_getElem (by have := List.length_pos_iff.mpr hrs; omega)⟩
            have hrl2 : (rs.map ruleD)[(rs.map ruleD).length - 1]? = some (ruleD rl) := by
              rw [List.length_map, List.getElem?_map, hrl]
              rfl
            obtain ⟨vs, v, k1, k2, k3⟩ := hS7.last hrl2
            obtain ⟨av, rfl⟩ := k3.ref_of (List.mem_cons_self ..)
            have hT := k3.pair (List.mem_cons_self ..)
            exact ⟨_, rfl, _, rfl, f, vs, -1, _, rfl, rfl, SqL.of k1, k2, av, _, 0, _, rfl, rfl, hT, atI_nat (j := 0) rfl, _, rfl, hS7⟩
          · exact ⟨_, rfl, hS7⟩
      · obtain ⟨b, rfl, hS6⟩ := hM
        obtain ⟨vf, hf1, hf2, _, _⟩ := hS6.look
        refine ⟨_, rfl, .inl ⟨rfl, _, SqL.of hf1⟩, _, rfl, _, rfl, _, _, rfl, _, _, rfl, _, rfl, (by show 2 ≤ sizeLine; decide), fun p hp => ?_⟩
        obtain ⟨b', hb', w1, w2⟩ : ∃ b' : Int, (if (if b > 0 then b else 0) < top then (if b > 0 then b else 0) else top) = b' ∧ 0 ≤ b' ∧ b' ≤ 1000 := by
          have hb0 : 0 ≤ (if b > 0 then b else 0) := by split <;> omega
          generalize (if b > 0 then b else 0) = bb at hb0
          refine ⟨_, rfl, ?_, ?_⟩
          · split <;> omega
          · split <;> omega
        rw [hb']
        have hS7 := hS6.tup (vs := [.int b', .int step]) (ds := [.int b', .int step]) hp (.cons (.int _) (.cons (.int _) .nil))
        obtain ⟨vf2, g1, g2, g3⟩ := hS7.push (.of (List.mem_cons_self ..))
        refine ⟨f, vf2, _, rfl, rfl, g1, small1000 (by rw [g2, List.length_map]; omega), ?_⟩
        refine ⟨rs ++ [(b', step)], _, _, _, _, rfl, ?_, ?_, ?_⟩
        · rw [List.map_append]
          exact g3.weaken fun _ h => List.mem_cons_of_mem _ h
        · rw [List.length_append, List.length_singleton, hlen]
        · intro r hr
          rcases List.mem_append.mp hr with hr | hr
          · exact hok r hr
          · rw [List.mem_singleton.mp hr]
            exact ⟨w1, Int.le_trans w2 (by decide), Or.inr ⟨s1, Int.lt_of_le_of_lt s2 (by decide +kernel)⟩⟩
    · obtain ⟨rs, y6, y7, y8, y9, rfl, hS, hlen, hok⟩ := hP
      have hl2 : rs.length ≤ 41 := by omega
      -- if _law_draw(deck, 3) > 0
      refine go_cut (fun σ H' => ∃ rs : List Rule, σ = [some (.ref d), some (.int most), some (.int top), some (.ref as), some (.ref f), y6, y7, y8, y9] ∧
        St K H' (some (d, l)) ((f, rs.map ruleD) :: Γ) ((.ref as, .list (ns.map PyData.int)) :: Δ) ∧ ∀ r ∈ rs, RuleOk r) ?_ (fun σ H5 hM => ?_)
      · refine go_if (go_test (go_op (go_draw (B := []) rfl ed_int sub_nil hS (by decide +kernel) (fun H2 r hS2 r0 r1 => ⟨_, _, rfl, rfl, _, rfl, ite2 (fun e => ?_) (fun e => ?_)⟩))))
        · -- found.insert(.., (.., 0))
          obtain ⟨vf, f1, f2, _, _⟩ := hS2.look
          have hv : vf.length = rs.length := by rw [f2, List.length_map]
          refine go_drop ⟨_, rfl, .inl ⟨rfl, _, SqL.of f1⟩, _, rfl, _, rfl, f, vf, rfl, .inl (SqL.of f1), _, _, rfl, rfl, d, l, _, _, _, rfl, hS2, ?_, fun H3 k hS3 k0 k1 => ?_⟩
          · rw [hv]
            exact small8000 (by omega) (by omega)
          rw [hv] at k1
          refine ⟨_, rfl, _, rfl, _, _, rfl, rfl, d, l, _, _, _, rfl, hS3, small8000 (by omega) (by omega), fun H4 c hS4 c0 c1 => ⟨(by show 2 ≤ sizeLine; decide), fun u hu => ?_⟩⟩
          have hS5 := hS4.tup (vs := [.int c, .int 0]) (ds := [.int c, .int 0]) hu (.cons (.int _) (.cons (.int _) .nil))
          obtain ⟨vf2, g1, g2, g3⟩ := hS5.insAt (.of (List.mem_cons_self ..)) k.toNat
          refine ⟨f, vf2, k, _, rfl, rfl, g1, small1000 (by rw [g2, List.length_map]; omega), k0, by omega, rs.take k.toNat ++ [(c, 0)] ++ rs.drop k.toNat, rfl, ?_, ?_⟩
          · rw [List.map_append, List.map_append, List.map_take, List.map_drop]
            exact g3.weaken fun _ h => List.mem_cons_of_mem _ h
          · intro r' hr'
            rcases List.mem_append.mp hr' with h | h
            · rcases List.mem_append.mp h with h | h
              · exact hok _ (List.mem_of_mem_take h)
              · rw [List.mem_singleton.mp h]
                exact ⟨c0, by show c ≤ 10 ^ 60; omega, Or.inl rfl⟩
            · exact hok _ (List.mem_of_mem_drop h)
        · exact ⟨rs, rfl, hS2, hok⟩
      · obtain ⟨rs, rfl, hS6, hok⟩ := hM
        obtain ⟨vf, f1, f2, _, f4⟩ := hS6.look
        refine go_ret (go_cb (go_cons ⟨_, rfl, _, rfl, _, rfl, f, vf, rfl, SqL.of f1, fun p hp => ?_⟩))
        obtain ⟨mo, rfl⟩ := Int.eq_ofNat_of_zero_le hm1
        have hS7 := hS6.make_ (vs := cutV vf none (some (mo : Int))) (ds := (rs.take mo).map ruleD) hp fun H0 I => by
          rw [cut_take, List.map_take]
          exact dps_take mo (f4 H0 I)
        have hS8 := hS7.freeze
        obtain ⟨vs, hL, hlen2, Δ2, rfl, hS10, hv2⟩ := hS8.lstAt (List.mem_cons_self ..)
        refine ⟨p, vs, rfl, .inl ⟨hL, fun u hu => ?_⟩⟩
        have hS11 := (hS10.tup hu hv2).drop
        refine q _ (.ref u) (rs.take mo) ⟨?_, fun r hr => hok r (List.mem_of_mem_take hr)⟩ (hS11.weaken fun y hy => ?_)
        · rw [List.length_take]
          omega
        · rcases List.mem_cons.mp hy with rfl | hy
          · exact List.mem_cons_self ..
          · exact List.mem_cons_of_mem _ (List.mem_append_right _ (List.mem_cons_of_mem _ (List.mem_cons_of_mem _ hy)))

theorem first_none' (n : Int) : ∀ rs : List Rule, (∀ r ∈ rs, fitR r n = true) → firstBad rs n = none
  | [], _ => rfl
  | r :: rs, h => by
    show (if fitR r n = true then (firstBad rs n).map (· + 1) else some 0) = none
    rw [if_pos (h r (List.mem_cons_self ..)), first_none' n rs fun x hx => h x (List.mem_cons_of_mem _ hx)]
    rfl
theorem first_at' (n : Int) : ∀ (rs : List Rule) (i : Nat) (hi : i < rs.length), (∀ r ∈ rs.take i, fitR r n = true) → fitR rs[i] n = false → firstBad rs n = some i
  | [], i, hi, _, _ => absurd hi (Nat.not_lt_zero _)
  | r :: rs, 0, hi, h, hb => by
    show (if fitR r n = true then (firstBad rs n).map (· + 1) else some 0) = some 0
    have : fitR r n = false := hb
    rw [this]
    rfl
  | r :: rs, i + 1, hi, h, hb => by
    show (if fitR r n = true then (firstBad rs n).map (· + 1) else some 0) = some (i + 1)
    rw [if_pos (h r (by simp)), first_at' n rs i (by simpa using hi) (fun x hx => h x (by rw [List.take_succ_cons]; exact List.mem_cons_of_mem _ hx)) hb]
    rfl
theorem ok_law_first {f : Addr} {fd : FuncData} (F : Fun K "_law_first" "_law_first" s_law_first f fd) (nb : NB mg bnames) (F_law_fits : Fd P w K mg base "_law_fits" 1 ["scale", "number"] (sp_law_fits K))   : FnOk P w K mg base CX0 2 f fd ["scale", "number"] (sp_law_first K) := by
  refine F.ok sc_law_first (fun vs H Q E h => ?_) (fun cdv A outer s H vs Q E hr h => ?_)
  · obtain ⟨dk, Γ, Δ, a, rs, n, rfl, _⟩ := h
    rfl
  · obtain ⟨dk, Γ, Δ, a, rs, n, rfl, hS, hm, h2, q⟩ := h
    refine ⟨_, (pss_cons (ps_for PassesOwn.never rfl (pi_enumT (by rfl) (nb "enumerate" rfl) (pa_cons (pv 0) pa_nil)) (pg_tup (by rfl) (pgs_cons (pg_name (i := 2) sc_law_first.nd rfl (.inl rfl)) (pgs_cons (pg_name (i := 3) sc_law_first.nd rfl (.inl rfl)) pgs_nil)))
        (pss_one (ps_if (pt_not (pt_val (pe_fd F_law_fits (hr.mono (by decide)) (by rfl) (pa_cons (pe_tup (pa_cons (pv 3) pa_nil)) (pa_cons (pv 1) pa_nil))))) (pss_one (ps_ret (pv 2))) pss_nil)))
        (pss_one (ps_ret pe_non))), ?_⟩
    obtain ⟨vs, hT, hlen⟩ := hS.lenT hm
    refine ⟨_, rfl, a, vs, rfl, hT, for_it (n := rs.length) walkET (fun i σ H => ∃ y2 y3, σ = [some (.ref a), some (.int n), y2, y3] ∧ St K H dk Γ Δ ∧ ∀ r ∈ rs.take i, fitR r n = true)
      ⟨_, _, rfl, hS, fun r hr => by simp at hr⟩ (fun i σ H _ hP => ?_) (fun i x σ H H' hi hP hy => ?_) (fun σ H hP => ?_)⟩
    · obtain ⟨_, _, _, hS, _⟩ := hP
      obtain ⟨xs, h1, h3⟩ := hS.lenT hm
      exact ⟨xs, h1, by rw [h3, List.length_map]⟩
    · obtain ⟨y2, y3, rfl, hS, hall⟩ := hP
      obtain ⟨T, x, rfl, hT, rfl, f⟩ := hy
      obtain ⟨d, e1, hS1⟩ := hS.turnT hm f
      rw [List.getElem?_map, List.getElem?_eq_getElem hi] at e1
      cases Option.some.inj e1
      have hS2 := hS1.enumd (i := i) hT
      refine ⟨T, _, rfl, SqT.of upd_same, rfl, _, _, rfl, _, _, rfl, rfl, ?_⟩
      refine ⟨_, rfl, (by show 1 ≤ sizeLine; decide), fun u hu => ⟨_, rfl, ?_⟩⟩
      have hS3 := hS2.tup (vs := [x]) (ds := [ruleD rs[i]]) hu (.cons (.of (List.mem_cons_self ..)) .nil)
      refine ⟨dk, Γ, _, u, [rs[i]], n, rfl, hS3, List.mem_cons_self .., fun r hr => ?_, fun H' hS4 => ⟨_, rfl, ?_⟩⟩
      · rw [List.mem_singleton.mp hr]
        exact h2 _ (List.getElem_mem hi)
      have hS5 := hS4.weaken (Δ' := Δ) fun _ h => List.mem_cons_of_mem _ (List.mem_cons_of_mem _ h)
      have e2 : fitsAll [rs[i]] n = fitR rs[i] n := by
        show (fitR rs[i] n && true) = _
        rw [Bool.and_true]
      rw [e2]
      cases hb : fitR rs[i] n with
      | true =>
        refine iteF ⟨_, _, rfl, hS5, fun r hr => ?_⟩
        rw [List.take_add_one, List.getElem?_eq_getElem hi] at hr
        rcases List.mem_append.mp hr with hr | hr
        · exact hall r hr
        · rw [List.mem_singleton.mp hr]
          exact hb
      | false =>
        refine iteT ⟨_, rfl, ?_⟩
        have g := q H' hS5
        rw [first_at' n rs i hi hall hb] at g
        exact g
    · obtain ⟨y2, y3, rfl, hS, hall⟩ := hP
      have g := q H hS
      rw [first_none' n rs (fun r hr => hall r (by rw [List.take_length]; exact hr))] at g
      exact g

theorem dvs_ints {Δ : List (V × D)} : ∀ (ns : List Int), DvAll Δ (ns.map V.int) (ns.map PyData.int)
  | [] => .nil
  | n :: ns => .cons (.int n) (dvs_ints ns)
theorem nat_lt_a {r m : Int} {N : Nat} (r0 : 0 ≤ r) (r1 : r < m ∨ r = 0) (h : m.natAbs < N) : r.natAbs < N := by omega
theorem nat_lt_b {r m a : Int} {N : Nat} (r0 : 0 ≤ r) (r1 : r < m ∨ r = 0) (h : a.natAbs + m.natAbs < N) : (a - r).natAbs < N := by omega
theorem int_pow_le {a b : Nat} (h : a ≤ b) : (2 : Int) ^ a ≤ 2 ^ b := by
  exact_mod_cast Nat.pow_le_pow_right (by decide) h
theorem add_bound {c e : Int} (hc : c.natAbs < 2 ^ 56300) (he : e.natAbs < 2 ^ 56300) : (c + e).natAbs < 2 ^ 57000 := by
  have h1 : (c + e).natAbs < 2 ^ 56300 + 2 ^ 56300 := by omega
  refine Nat.lt_of_lt_of_le h1 ?_
  rw [← Nat.two_mul, ← Nat.pow_succ']
  exact Nat.pow_le_pow_right (by decide) (by decide)
theorem base_ok {b s w : Int} (b1 : 0 ≤ b) (b2 : b ≤ 10 ^ 60) (s0 : 0 ≤ s) (s1 : s < 2 ^ 1400) (w1 : 1 ≤ w) (w2 : w < 2 ^ 56001) :
    CDivX b (if s > 1 then s else 1) ∧ CMulX (b / (if s > 1 then s else 1)) s ∧ CDivX b w ∧ CMulX w (1 + b / w) ∧ b.natAbs < 2 ^ 56300 ∧ (b / (if s > 1 then s else 1) * s).natAbs < 2 ^ 56300 ∧ (b + s).natAbs < 2 ^ 56300 ∧
    (w * (1 + b / w)).natAbs < 2 ^ 56300 ∧ (w * 3).natAbs < 2 ^ 56300 ∧ (0 : Int).natAbs < 2 ^ 56300 ∧ (1 : Int).natAbs < 2 ^ 56300 ∧ s.natAbs < 2 ^ 56300 := by
  have p0 : (1 : Nat) < 2 ^ 56300 := Nat.one_lt_two_pow (by decide)
  have e60 : (10 : Int) ^ 60 < 2 ^ 200 := by decide +kernel
  have bB : b.natAbs < 2 ^ 200 := by omega
  have hb : b.natAbs < 2 ^ 56300 := Nat.lt_of_lt_of_le bB (Nat.pow_le_pow_right (by decide) (by decide))
  have sB : s.natAbs < 2 ^ 1400 := by omega
  have hsB : s.natAbs < 2 ^ 56300 := Nat.lt_of_lt_of_le sB (Nat.pow_le_pow_right (by decide) (by decide))
  have wB : w.natAbs < 2 ^ 56001 := by omega
  have u1 : 1 ≤ (if s > 1 then s else 1) := by split <;> omega
  generalize hu : (if s > 1 then s else 1) = u at u1
  have us : s ≤ u := by rw [← hu]; split <;> omega
  have d1 : 0 ≤ b / u := Int.ediv_nonneg b1 (by omega)
  have d2 : b / u ≤ b := Int.ediv_le_self _ b1
  have d3 : b / u * s ≤ b := Int.le_trans (Int.mul_le_mul_of_nonneg_left us d1) (Int.ediv_mul_le b (by omega))
  have d4 : 0 ≤ b / u * s := Int.mul_nonneg d1 s0
  have f1 : 0 ≤ b / w := Int.ediv_nonneg b1 (by omega)
  have f2 : b / w ≤ b := Int.ediv_le_self _ b1
  have f3 : b / w * w ≤ b := Int.ediv_mul_le b (by omega)
  have f4 : w * (1 + b / w) = w + b / w * w := by rw [Int.mul_add, Int.mul_one, Int.mul_comm w]
  have f5 : 0 ≤ b / w * w := Int.mul_nonneg f1 (by omega)
  have s2 : (2 : Nat) ^ 200 + 2 ^ 1400 ≤ 2 ^ 56300 := Nat.le_trans (show _ ≤ 2 ^ 1401 by decide +kernel) (Nat.pow_le_pow_right (by decide) (by decide))
  have e56 : (2 : Nat) ^ 56003 = 4 * 2 ^ 56001 := by rw [show 56003 = 2 + 56001 from rfl, Nat.pow_add]
  have e57 : (2 : Nat) ^ 200 ≤ 2 ^ 56001 := Nat.pow_le_pow_right (by decide) (by decide)
  have s3 : 4 * 2 ^ 56001 ≤ 2 ^ 56300 := by rw [← e56]; exact Nat.pow_le_pow_right (by decide) (by decide)
  generalize (2 : Nat) ^ 56300 = N at *
  generalize hM : (2 : Nat) ^ 56001 = M at *
  refine ⟨divx_small (n := 200) (by omega) bB (by decide), mulx_ok (a := 200) (b := 1400) (by omega) sB (by decide), divx_small (n := 200) (by omega) bB (by decide), ?_, hb, by omega, by omega, ?_, by omega, by omega, p0, hsB⟩
  · refine mulx_ok (a := 56001) (b := 201) (by rw [hM]; exact wB) ?_ (by decide)
    have : (2 : Nat) ^ 201 = 2 * 2 ^ 200 := by rw [show 201 = 1 + 200 from rfl, Nat.pow_add]
    rw [this]
    generalize (2 : Nat) ^ 200 = T at *
    omega
  · rw [f4]
    omega
theorem ok_law_numbers {f : Addr} {fd : FuncData} (F : Fun K "_law_numbers" "_law_numbers" s_law_numbers f fd) (nb : NB mg bnames) (F_law_draw : Fd P w K mg base "_law_draw" 1 ["deck", "many"] (sp_law_draw K)) (F_law_multiple : Fd P w K mg base "_law_multiple" 2 ["steps"] (sp_law_multiple K)) (F_law_pick : Fd P w K mg base "_law_pick" 2 ["deck", "items"] (sp_law_pick K))   : FnOk P w K mg base CX0 3 f fd ["deck", "scale"] (sp_law_numbers K) := by
  refine F.ok sc_law_numbers (fun vs H Q E h => ?_) (fun cdv A outer s H vs Q E hr h => ?_)
  · obtain ⟨d, l, a, rs, Γ, Δ, rfl, _⟩ := h
    rfl
  · obtain ⟨d, l, a, rs, Γ, Δ, rfl, hS, hm, ⟨hlen, hok⟩, q⟩ := h
    refine ⟨_, (pss_cons (ps_set (i := 2) sc_law_numbers.nd rfl (.inl rfl) (pe_lst (pa_cons pe_int (pa_cons pe_int (pa_cons (pe_op op_powW pe_int pe_int) (pa_cons (pe_op op_add (pe_op op_powW pe_int pe_int) pe_int) (pa_cons (pe_fd F_law_draw (hr.mono (by decide)) (by rfl) (pa_cons (pv 0) (pa_cons (pe_op op_powW pe_int pe_int) pa_nil))) (pa_cons (pe_op op_powW (pe_op op_powW pe_int pe_int) pe_int) (pa_cons (pe_op op_sub (pe_op op_powW (pe_op op_powW pe_int pe_int) pe_int) (pe_fd F_law_draw (hr.mono (by decide)) (by rfl) (pa_cons (pv 0) (pa_cons (pe_op op_powW pe_int pe_int) pa_nil)))) pa_nil)))))))))
        (pss_cons (ps_for PassesOwn.never rfl (pi_range1 (by rfl) (nb "range" rfl) (pa_cons (pe_ifExp (pt_cmpR (op_neD hr.units) (pv 1) (pe_tup pa_nil) (nomark _)) pe_int pe_int) pa_nil)) (pg_name (i := 3) sc_law_numbers.nd rfl (.inl rfl))
        (pss_cons (ps_asg (pe_fd F_law_pick (hr.mono (by decide)) (by rfl) (pa_cons (pv 0) (pa_cons (pe_callTy call_list_of (by rfl) (nb "list" rfl) (by decide +kernel) (pa_cons (pv 1) pa_nil)) pa_nil))) (pg_tup (by rfl) (pgs_cons (pg_name (i := 4) sc_law_numbers.nd rfl (.inr rfl)) (pgs_cons (pg_name (i := 5) sc_law_numbers.nd rfl (.inr rfl)) pgs_nil))))
        (pss_cons (ps_set (i := 6) sc_law_numbers.nd rfl (.inl rfl) (pe_fd F_law_multiple (hr.mono (by decide)) (by rfl) (pa_cons (pe_lc (own := [("limit", 7), ("own", 8)]) (by rfl) sc_law_numbers.nd (g := gTup K 2 (gCons (gName 7) (gCons (gName 8) gNil))) (pi_tup (pv 1)) (blkOk_by (own := [("limit", 7), ("own", 8)]) (N := ["deck", "scale", "found", "turn", "bound", "step", "whole", "limit", "own", "base", "number"]) (sc := defScope s_law_numbers) (by decide +kernel)) (fun _ _ _ _ _ => by exact (pg_tup (by rfl) (pgs_cons (pg_name (i := 7) sc_law_numbers.nd rfl (.inl rfl)) (pgs_cons (pg_name (i := 8) sc_law_numbers.nd rfl (.inl rfl)) pgs_nil)))) (fun _ _ _ _ _ => by exact (pts_one (PW.pt (pw_and (pt_cmpR op_gt (pv 8) pe_int (nomark _)) (pw_and1 (pt_cmpR op_lt (pv 7) (pe_op op_add (pe_op op_add (pv 4) pe_int) (pv 5)) (nomark _))))))) (fun _ _ _ _ _ => by exact (pv 8))) pa_nil)))
        (pss_cons (ps_set (i := 9) sc_law_numbers.nd rfl (.inl rfl) (pe_lst (pa_cons (pv 4) (pa_cons (pe_op op_mulX (pe_op op_fdivX (pv 4) (pe_callB (call_max2 rfl) (by rfl) (nb "max" rfl) (by decide +kernel) (pa_cons pe_int (pa_cons (pv 5) pa_nil)))) (pv 5)) (pa_cons (pe_op op_add (pv 4) (pv 5)) (pa_cons (pe_op op_mulX (pv 6) (pe_op op_add pe_int (pe_op op_fdivX (pv 4) (pv 6)))) (pa_cons (pe_op op_mul (pv 6) pe_int) pa_nil)))))))
        (pss_one (ps_expr (pe_bm PySem.F.plainAttrs_list PySem.F.slot_list_append PySem.F.type_list_append mt_append (pv 2) (pa_cons (pe_op op_add (pe_fd F_law_pick (hr.mono (by decide)) (by rfl) (pa_cons (pv 0) (pa_cons (pv 9) pa_nil))) (pe_fd F_law_pick (hr.mono (by decide)) (by rfl) (pa_cons (pv 0) (pa_cons (pe_lst (pa_cons pe_int (pa_cons pe_int (pa_cons pe_int (pa_cons (pe_un un_neg pe_int) (pa_cons (pv 5) (pa_cons (pe_un un_neg (pv 5)) pa_nil))))))) pa_nil)))) pa_nil))))))))
        (pss_one (ps_ret (pe_lc (own := [("number", 10)]) (by rfl) sc_law_numbers.nd (pi_list (pv 2)) (blkOk_by (own := [("number", 10)]) (N := ["deck", "scale", "found", "turn", "bound", "step", "whole", "limit", "own", "base", "number"]) (sc := defScope s_law_numbers) (by decide +kernel)) (fun _ _ _ _ _ => by exact (pg_name (i := 10) sc_law_numbers.nd rfl (.inl rfl))) (fun _ _ _ _ _ => by exact pts_nil) (fun _ _ _ _ _ => by exact (pe_op op_mulX (pe_fd F_law_pick (hr.mono (by decide)) (by rfl) (pa_cons (pv 0) (pa_cons (pe_lst (pa_cons pe_int (pa_cons (pe_un un_neg pe_int) pa_nil))) pa_nil))) (pv 10)))))))), ?_⟩
    have c60 : CPowW 10 60 := ⟨by decide, by decide⟩
    have c57 : CPowW 10 57 := ⟨by decide, by decide⟩
    have c30 : CPowW 10 30 := ⟨by decide, by decide⟩
    have c577 : CPowW (10 ^ (57 : Int).toNat) 7 := ⟨by decide, by decide +kernel⟩
    -- found
    refine go_set (go_lst ⟨_, _, rfl, rfl, c60, _, _, rfl, rfl, c60, _, _, rfl, rfl, ?_⟩)
    refine go_cons (go_draw (B := []) rfl (ed_I ed_int ed_int c60) sub_nil hS (by decide +kernel) (fun H1 r hS1 r0 r1 => ⟨_, _, rfl, rfl, c57, _, _, rfl, rfl, c577, _, _, rfl, rfl, c57, _, _, rfl, rfl, c577, ?_⟩))
    refine go_draw (B := []) rfl (ed_I ed_int ed_int c30) sub_nil hS1 (by decide +kernel) (fun H2 t hS2 u0 u1 => ⟨_, _, rfl, rfl, (by show 7 ≤ sizeLine; decide), fun f hf => ?_⟩)
    have hS3 := hS2.make (vs := [0, 1, 10 ^ (60 : Int).toNat, 10 ^ (60 : Int).toNat + 1, r, (10 ^ (57 : Int).toNat) ^ (7 : Int).toNat, (10 ^ (57 : Int).toNat) ^ (7 : Int).toNat - t].map V.int)
      (ds := [0, 1, 10 ^ (60 : Int).toNat, 10 ^ (60 : Int).toNat + 1, r, (10 ^ (57 : Int).toNat) ^ (7 : Int).toNat, (10 ^ (57 : Int).toNat) ^ (7 : Int).toNat - t].map PyData.int) hf (dvs_ints _)
    have hbig : ∀ x ∈ [0, 1, 10 ^ (60 : Int).toNat, 10 ^ (60 : Int).toNat + 1, r, (10 ^ (57 : Int).toNat) ^ (7 : Int).toNat, (10 ^ (57 : Int).toNat) ^ (7 : Int).toNat - t], x.natAbs < 2 ^ 57000 := by
      have h60 : (10 : Int) ^ (60 : Int).toNat = 10 ^ 60 := rfl
      have e1 : (10 ^ (60 : Int).toNat + 1 : Int).natAbs < 2 ^ 57000 := Nat.lt_of_lt_of_le (show _ < 2 ^ 200 by decide +kernel) (Nat.pow_le_pow_right (by decide) (by decide))
      have e2 : ((10 ^ (57 : Int).toNat) ^ (7 : Int).toNat : Int).natAbs < 2 ^ 57000 := Nat.lt_of_lt_of_le (show _ < 2 ^ 1400 by decide +kernel) (Nat.pow_le_pow_right (by decide) (by decide))
      have e3 : (10 ^ (60 : Int).toNat : Int).natAbs < 2 ^ 57000 := Nat.lt_of_lt_of_le (show _ < 2 ^ 200 by decide +kernel) (Nat.pow_le_pow_right (by decide) (by decide))
      have e4 : ((10 ^ (57 : Int).toNat) ^ (7 : Int).toNat : Int).natAbs + (10 ^ (30 : Int).toNat : Int).natAbs < 2 ^ 57000 := Nat.lt_of_lt_of_le (show _ < 2 ^ 1400 by decide +kernel) (Nat.pow_le_pow_right (by decide) (by decide))
      have e0 : (1 : Nat) < 2 ^ 57000 := Nat.one_lt_two_pow (by decide)
      intro x hx
      simp only [List.mem_cons, List.not_mem_nil, or_false] at hx
      rcases hx with rfl | rfl | rfl | rfl | rfl | rfl | rfl
      · exact Nat.lt_trans (by decide) e0
      · exact e0
      · exact e3
      · exact e1
      · exact nat_lt_a r0 r1 e3
      · exact e2
      · exact nat_lt_b u0 u1 e4
    generalize hns : [0, 1, 10 ^ (60 : Int).toNat, 10 ^ (60 : Int).toNat + 1, r, (10 ^ (57 : Int).toNat) ^ (7 : Int).toNat, (10 ^ (57 : Int).toNat) ^ (7 : Int).toNat - t] = ns0 at hbig
    have hl0 : ns0.length = 7 := by rw [← hns]; rfl
    have hS4 : St K (upd H2 f (.lst (ns0.map V.int))) (some (d, l)) ((f, ns0.map PyData.int) :: Γ) Δ := by rw [← hns]; exact hS3
    have hgoal : ∀ {G : Hp → Prop}, G (upd H2 f (.lst (ns0.map V.int))) → G (upd H2 f (.lst [V.int 0, V.int 1, .int (10 ^ (60 : Int).toNat), .int (10 ^ (60 : Int).toNat + 1), .int r, .int ((10 ^ (57 : Int).toNat) ^ (7 : Int).toNat), .int ((10 ^ (57 : Int).toNat) ^ (7 : Int).toNat - t)])) := fun {G} g => by
      rw [← hns] at g
      exact g
    refine hgoal ?_
    clear hgoal hS3 hns
    revert hS4
    generalize upd H2 f (.lst (ns0.map V.int)) = H3
    intro hS4
    dsimp only [gName]
    -- for turn in range(8 if scale != () else 0)
    refine go_for (go_rng1 (cps (fun v H' => ∃ j : Int, v = .int j ∧ St K H' (some (d, l)) ((f, ns0.map PyData.int) :: Γ) Δ ∧ ((j = 8 ∧ rs ≠ []) ∨ j = 0)) (fun Q' q' => ?_) (fun v H6 hv => ?_)))
    · refine go_ite (go_test ⟨_, rfl, Nat.zero_le _, fun u hu => ?_⟩)
      have hS5 := hS4.tup (ds := []) hu .nil
      refine ne_nil_tup (ds := rs.map ruleD) (hS5.dp (.of (List.mem_cons_of_mem _ hm))) (.tup (SqT.of upd_same) .nil) (lay_rules rs) ⟨_, rfl, ?_⟩
      rw [List.isEmpty_map]
      replace hS5 := hS5.weaken (Δ' := Δ) fun _ => List.mem_cons_of_mem _
      cases rs with
      | nil => exact iteF (q' _ _ ⟨0, rfl, hS5, Or.inr rfl⟩)
      | cons r0 rs => exact iteT (q' _ _ ⟨8, rfl, hS5, Or.inl ⟨rfl, List.cons_ne_nil _ _⟩⟩)
    obtain ⟨j, rfl, hS6, hj⟩ := hv
    refine ⟨j, rfl, by omega, by omega, for_range (lo := 0) (n := j.toNat) (fun i σ H => ∃ (ns : List Int) (y3 y4 y5 y6 y9 : Option V), σ = [some (.ref d), some (.ref a), some (.ref f), y3, y4, y5, y6, none, none, y9, none] ∧
        St K H (some (d, l)) ((f, ns.map PyData.int) :: Γ) Δ ∧ ns.length = 7 + i ∧ ∀ x ∈ ns, x.natAbs < 2 ^ 57000)
      ⟨ns0, _, _, _, _, _, rfl, hS6, hl0, hbig⟩ (fun i σ H hi hP => ?_) (fun σ H hP => ?_)⟩
    · obtain ⟨ns, y3, y4, y5, y6, y9, rfl, hS, hnl, hnb⟩ := hP
      have hrs : rs ≠ [] := by
        rcases hj with ⟨_, h⟩ | h
        · exact h
        · subst h
          exact absurd hi (Nat.not_lt_zero _)
      have hi8 : i < 8 := by omega
      -- bound, step = _law_pick(deck, list(scale))
      obtain ⟨vs, hT, hvl, Δ', rfl, hS1, hv⟩ := hS.tupAt hm
      refine go_asg ⟨_, rfl, _, rfl, a, vs, rfl, .inr hT, fun p hp => ?_⟩
      have hS2 := hS1.lst hp hv
      refine ⟨d, l, p, rs.map ruleD, _, _, rfl, hS2, List.mem_cons_self .., by simpa using hrs, by rw [List.length_map]; omega, fun H1 v x hx hS3 => ?_⟩
      obtain ⟨r, hr, rfl⟩ := List.mem_map.mp hx
      obtain ⟨b1, b2, hs⟩ := hok r hr
      obtain ⟨av, rfl⟩ := hS3.ref_of (List.mem_cons_self ..)
      have hTr := hS3.pair (List.mem_cons_self ..)
      replace hS3 := hS3.weaken (Δ' := Δ) fun _ h => List.mem_cons_of_mem _ (List.mem_cons_of_mem _ (List.mem_append_right _ h))
      generalize r.1 = b at b1 b2 hTr
      generalize r.2 = s at hs hTr
      have s0 : 0 ≤ s := by omega
      have s14 : s < 2 ^ 1400 := by
        rcases hs with h | h
        · rw [h]
          exact Int.pow_pos (by decide)
        · exact h.2
      refine ⟨av, _, rfl, hTr, rfl, _, _, rfl, _, _, rfl, rfl, ?_⟩
      dsimp only [gName, List.set_cons_succ, List.set_cons_zero]
      -- whole
      obtain ⟨xs0, hT0, hx0⟩ := hS3.lenT hm
      refine go_set ⟨_, rfl, a, rfl, ⟨xs0, hT0⟩, fun Dd hD => lc_it (n := rs.length) walkT (fun k H => ∃ ws : List Int, St K H (some (d, l)) ((Dd, ws.map PyData.int) :: (f, ns.map PyData.int) :: Γ) Δ ∧ ws.length ≤ k ∧ ∀ x ∈ ws, 0 < x ∧ x < 2 ^ 1400)
        ⟨[], hS3.make (ds := []) hD .nil, Nat.zero_le _, fun x hx => (nomatch hx)⟩ (fun k H _ hP => ?_) (fun k x H H' hk hP hy => ?_) (fun H hP => ?_)⟩
      · obtain ⟨_, hS, _⟩ := hP
        obtain ⟨xs, h1, h3⟩ := hS.lenT hm
        exact ⟨xs, h1, by rw [h3, List.length_map]⟩
      · obtain ⟨ws, hS, hwl, hwb⟩ := hP
        obtain ⟨rfl, ff⟩ := hy
        obtain ⟨dd, e1, hS1⟩ := hS.turnT hm ff
        rw [List.getElem?_map, List.getElem?_eq_getElem hk] at e1
        cases Option.some.inj e1
        obtain ⟨ax, rfl⟩ := hS1.ref_of (List.mem_cons_self ..)
        have hT1 := hS1.pair (List.mem_cons_self ..)
        obtain ⟨c1, c2, cs⟩ := hok _ (List.getElem_mem hk)
        refine ⟨ax, _, rfl, hT1, rfl, _, _, rfl, _, _, rfl, rfl, rfl, ?_⟩
        refine ⟨_, rfl, _, _, rfl, rfl, _, rfl, ite2 (fun e => ?_) (fun e => ?_)⟩
        · have e' : 0 < rs[k].2 := by simpa using e
          refine ⟨_, rfl, _, rfl, _, _, rfl, rfl, _, rfl, _, _, rfl, rfl, _, _, rfl, rfl, _, rfl, ite2 (fun e => ?_) (fun e => ?_)⟩
          · obtain ⟨vd, g1, g2, g3⟩ := (hS.push (y := .int rs[k].2) (x := .int rs[k].2) (.int _))
            refine ⟨_, rfl, vd, g1, small1000 (by rw [g2, List.length_map]; omega), ws ++ [rs[k].2], ?_, ?_, ?_⟩
            · rw [List.map_append]
              exact g3
            · rw [List.length_append, List.length_singleton]
              omega
            · intro x hx
              rcases List.mem_append.mp hx with hx | hx
              · exact hwb x hx
              · rw [List.mem_singleton.mp hx]
                exact ⟨e', by omega⟩
          · exact ⟨ws, hS, by omega, hwb⟩
        · exact iteF ⟨ws, hS, by omega, hwb⟩
      obtain ⟨ws, hS4, hwl, hwb⟩ := hP
      refine ⟨_, _, _, Dd, ws, rfl, hS4.freeze, List.mem_cons_self .., hwb, by omega, fun H2 w hS5 w1 w2 => ?_⟩
      replace hS5 := hS5.weaken (Δ' := Δ) fun _ => List.mem_cons_of_mem _
      have w3 : w < 2 ^ 56001 := Int.lt_of_lt_of_le w2 (int_pow_le (by omega))
      obtain ⟨m1, m2, m3, m4, m5, m6, m7, m8, m9, m10, m11, m12⟩ := base_ok b1 b2 s0 s14 w1 w3
      dsimp only [gName, List.set_cons_succ, List.set_cons_zero]
      -- base
      refine go_set ?_
      refine EvD.go (B := []) (d := .list [.int b, .int (b / (if s > 1 then s else 1) * s), .int (b + s), .int (w * (1 + b / w)), .int (w * 3)]) ?_ sub_nil hS5 (fun vb H4 hS6 => ?_)
      · exact ed_lst (eds_cons (ed_varI rfl) (eds_cons (ed_I (ed_I (ed_varI rfl) (ed_max2 ed_int (ed_varI rfl)) m1) (ed_varI rfl) m2) (eds_cons (ed_I0 (ed_varI rfl) (ed_varI rfl)) (eds_cons (ed_I (ed_varI rfl) (ed_I0 ed_int (ed_I (ed_varI rfl) (ed_varI rfl) m3)) m4)
          (eds_cons (ed_I (ed_varI rfl) ed_int (.inr (by decide))) eds_nil))))) (by show 5 ≤ 10000; decide)
      obtain ⟨ab, rfl⟩ := hS6.lref_of (List.mem_cons_self ..)
      obtain ⟨vf, f1, f2, _, _⟩ := hS6.look
      refine ⟨_, rfl, .inl ⟨rfl, _, SqL.of f1⟩, ?_⟩
      refine go_cons (go_op ?_)
      refine go_pick (B := [(.ref ab, .list [.int b, .int (b / (if s > 1 then s else 1) * s), .int (b + s), .int (w * (1 + b / w)), .int (w * 3)])]) rfl (ed_var rfl (.of (List.mem_cons_self ..))) (fun y hy => by rw [List.mem_singleton.mp hy]; exact List.mem_cons_self ..) hS6 (by simp) (by show 5 ≤ 10000; decide) (fun H7 v x hx hS7 => ?_)
      obtain ⟨c, rfl, hc⟩ : ∃ c : Int, x = .int c ∧ c.natAbs < 2 ^ 56300 := by
        simp only [List.mem_cons, List.not_mem_nil, or_false] at hx
        rcases hx with rfl | rfl | rfl | rfl | rfl
        · exact ⟨_, rfl, m5⟩
        · exact ⟨_, rfl, m6⟩
        · exact ⟨_, rfl, m7⟩
        · exact ⟨_, rfl, m8⟩
        · exact ⟨_, rfl, m9⟩
      obtain rfl := hS7.int_of (List.mem_cons_self ..)
      refine go_pick (B := []) (ds := [.int 0, .int 0, .int 1, .int (-1), .int s, .int (-s)]) rfl ?_ sub_nil hS7 (by simp) (by show 6 ≤ 10000; decide) (fun H8 v x hx hS8 => ?_)
      · walk_at "evd"
      obtain ⟨e, rfl, he⟩ : ∃ c : Int, x = .int c ∧ c.natAbs < 2 ^ 56300 := by
        simp only [List.mem_cons, List.not_mem_nil, or_false] at hx
        rcases hx with rfl | rfl | rfl | rfl | rfl | rfl
        · exact ⟨_, rfl, m10⟩
        · exact ⟨_, rfl, m10⟩
        · exact ⟨_, rfl, m11⟩
        · exact ⟨_, rfl, m11⟩
        · exact ⟨_, rfl, m12⟩
        · exact ⟨_, rfl, by rw [Int.natAbs_neg]; exact m12⟩
      obtain rfl := hS8.int_of (List.mem_cons_self ..)
      replace hS8 := hS8.weaken (Δ' := Δ) fun _ h => List.mem_cons_of_mem _ (List.mem_cons_of_mem _ (List.mem_cons_of_mem _ h))
      obtain ⟨vf2, g1, g2, g3⟩ := hS8.push (y := .int (c + e)) (x := .int (c + e)) (.int _)
      refine ⟨_, _, rfl, rfl, f, vf2, _, rfl, rfl, g1, small1000 (by rw [g2, List.length_map]; omega), ns ++ [c + e], _, _, _, _, _, rfl, ?_, ?_, ?_⟩
      · rw [List.map_append]
        exact g3
      · rw [List.length_append, List.length_singleton]
        omega
      · intro x hx
        rcases List.mem_append.mp hx with hx | hx
        · exact hnb x hx
        · rw [List.mem_singleton.mp hx]
          exact add_bound hc he
    · obtain ⟨ns, y3, y4, y5, y6, y9, rfl, hS, hnl, hnb⟩ := hP
      have hnl2 : ns.length ≤ 15 := by omega
      have hS1 := hS.freeze
      obtain ⟨xs0, hL0, hx0⟩ := hS1.lenL (List.mem_cons_self ..)
      refine ⟨_, rfl, f, rfl, ⟨xs0, hL0⟩, fun Dd hD => lc_it (n := ns.length) walkL (fun k H => ∃ ws : List Int, St K H (some (d, l)) ((Dd, ws.map PyData.int) :: Γ) ((.ref f, .list (ns.map PyData.int)) :: Δ) ∧ ws.length = k)
        ⟨[], hS1.make (ds := []) hD .nil, rfl⟩ (fun k H _ hP => ?_) (fun k x H H' hk hP hy => ?_) (fun H hP => ?_)⟩
      · obtain ⟨_, hS, _⟩ := hP
        obtain ⟨xs, h1, h3⟩ := hS.lenL (List.mem_cons_self ..)
        exact ⟨xs, h1, by rw [h3, List.length_map]⟩
      · obtain ⟨ws, hS, hwl⟩ := hP
        obtain ⟨rfl, ff⟩ := hy
        obtain ⟨dd, e1, hS1⟩ := hS.turnL (List.mem_cons_self ..) ff
        rw [List.getElem?_map, List.getElem?_eq_getElem hk] at e1
        cases Option.some.inj e1
        obtain rfl := hS1.int_of (List.mem_cons_self ..)
        refine ⟨rfl, ?_⟩
        refine go_yes ?_
        refine go_op ?_
        refine go_pick (B := []) (ds := [.int 1, .int (-1)]) rfl ?_ sub_nil hS (by simp) (by show 2 ≤ 10000; decide) (fun H8 v x hx hS8 => ?_)
        · walk_at "evd"
        obtain ⟨e, rfl, he⟩ : ∃ c : Int, x = .int c ∧ c.natAbs < 2 ^ 2 := by
          simp only [List.mem_cons, List.not_mem_nil, or_false] at hx
          rcases hx with rfl | rfl
          · exact ⟨_, rfl, by decide⟩
          · exact ⟨_, rfl, by decide⟩
        obtain rfl := hS8.int_of (List.mem_cons_self ..)
        replace hS8 := hS8.weaken (Δ' := (.ref f, .list (ns.map PyData.int)) :: Δ) fun _ h => List.mem_cons_of_mem _ h
        obtain ⟨vd, g1, g2, g3⟩ := (hS8.push (y := .int (e * ns[k])) (x := .int (e * ns[k])) (.int _))
        refine ⟨_, rfl, _, _, rfl, rfl, mulx_ok he (hnb _ (List.getElem_mem hk)) (by decide), vd, g1, small1000 (by rw [g2, List.length_map]; omega), ws ++ [e * ns[k]], ?_, ?_⟩
        · rw [List.map_append]
          exact g3
        · rw [List.length_append, List.length_singleton, hwl]
      · obtain ⟨ws, hS, hwl⟩ := hP
        exact q _ Dd ws (by omega) (hS.weaken fun _ => List.mem_cons_of_mem _)

theorem dvs_app {Δ : List (V × D)} : ∀ {vs us : List V} {ds es : List D}, DvAll Δ vs ds → DvAll Δ us es → DvAll Δ (vs ++ us) (ds ++ es)
  | _, _, _, _, .nil, h => h
  | _, _, _, _, .cons h t, k => .cons h (dvs_app t k)
theorem fits_first' (n : Int) : ∀ rs : List Rule, fitsAll rs n = (firstBad rs n).isNone
  | [] => rfl
  | r :: rs => by
    have ih := fits_first' n rs
    show (fitR r n && fitsAll rs n) = (if fitR r n = true then (firstBad rs n).map (· + 1) else some 0).isNone
    cases fitR r n with
    | true =>
      rw [if_pos rfl, Bool.true_and, ih]
      cases firstBad rs n <;> rfl
    | false => rfl
theorem fitR_neg (r : Rule) (n : Int) : fitR r (-n) = fitR r n := by
  have e1 : (if -n < 0 then -(-n) else -n) = (if n < 0 then -n else n) := by split <;> split <;> omega
  have e2 : ((-n) % r.2 = 0) ↔ (n % r.2 = 0) := by
    rw [← Int.dvd_iff_emod_eq_zero, ← Int.dvd_iff_emod_eq_zero]
    exact Int.dvd_neg
  unfold fitR
  rw [e1, decide_eq_decide.mpr e2]
theorem fits_neg (rs : List Rule) (n : Int) : fitsAll rs (-n) = fitsAll rs n := by
  unfold fitsAll
  congr 1
  funext r
  exact fitR_neg r n
theorem first_neg (n : Int) : ∀ rs : List Rule, firstBad rs (-n) = firstBad rs n
  | [] => rfl
  | r :: rs => by
    show (if fitR r (-n) = true then (firstBad rs (-n)).map (· + 1) else some 0) = (if fitR r n = true then (firstBad rs n).map (· + 1) else some 0)
    rw [fitR_neg, first_neg n rs]
theorem fits_perm {rs rs' : List Rule} (h : rs'.Perm rs) {n : Int} : fitsAll rs' n = fitsAll rs n := by
  have e : fitsAll rs' n = true ↔ fitsAll rs n = true := by
    unfold fitsAll
    rw [List.all_eq_true, List.all_eq_true]
    exact ⟨fun g r hr => g r (h.mem_iff.mpr hr), fun g r hr => g r (h.mem_iff.mp hr)⟩
  cases h1 : fitsAll rs' n <;> cases h2 : fitsAll rs n <;> simp_all
theorem fits_more {rs : List Rule} {r0 : Rule} {n : Int} (h : fitsAll (rs ++ [r0]) n = true) : fitsAll rs n = true :=
  List.all_eq_true.mpr fun r hr => List.all_eq_true.mp h r (List.mem_append_left _ hr)
theorem oklaw {f : Addr} {fd : FuncData} (F : Fun K "law" "law" slaw f fd) (nb : NB mg bnames) (F_law_deck : Fd P w K mg base "_law_deck" 1 ["script"] (sp_law_deck K)) (F_law_draw : Fd P w K mg base "_law_draw" 1 ["deck", "many"] (sp_law_draw K)) (F_law_first : Fd P w K mg base "_law_first" 2 ["scale", "number"] (sp_law_first K)) (F_law_fits : Fd P w K mg base "_law_fits" 1 ["scale", "number"] (sp_law_fits K)) (F_law_great : Fd P w K mg base "_law_great" 4 ["deck", "most"] (sp_law_great K)) (F_law_mixed : Fd P w K mg base "_law_mixed" 2 ["deck", "items"] (sp_law_mixed K)) (F_law_numbers : Fd P w K mg base "_law_numbers" 3 ["deck", "scale"] (sp_law_numbers K)) (F_law_small : Fd P w K mg base "_law_small" 3 ["deck", "most", "top"] (sp_law_small K)) (Fbroken : Fd P w K mg base "broken" 2 ["scale", "number"] (spbroken K)) (Ffits : Fd P w K mg base "fits" 3 ["scale", "number"] (spfits K)) (Kbroken : Fk P w K mg base "broken" 2 ["scale", "number"] ["number", "scale"] (fun zs => zs.reverse) (spbroken K)) (Kfits : Fk P w K mg base "fits" 3 ["scale", "number"] ["number", "scale"] (fun zs => zs.reverse) (spfits K))  : FnG P w K mg base 5 f fd ["script"] (splaw K) := by
  refine okG F sclaw (fun vs H Q E h => ?_) (fun cdv A outer s H vs Q E hg hr h => ?_)
  · obtain ⟨a, ns, rfl, _⟩ := h
    rfl
  · obtain ⟨a0, ns0, rfl, hS, hlen, q⟩ := h
    refine ⟨_, (pss_cons (ps_set (i := 1) sclaw.nd rfl (.inl rfl) (pe_fd F_law_deck (hr.mono (by decide)) (by rfl) (pa_cons (pv 0) pa_nil)))
        (pss_cons (ps_for PassesOwn.never rfl (pi_range1 (by rfl) (nb "range" rfl) (pa_cons pe_int pa_nil)) (pg_name (i := 2) sclaw.nd rfl (.inl rfl))
        (pss_cons (ps_set (i := 3) sclaw.nd rfl (.inl rfl) (pe_ifExp (pt_cmpR op_lt (pv 2) pe_int (nomark _)) (pe_fd F_law_great (hr.mono (by decide)) (by rfl) (pa_cons (pv 1) (pa_cons (pe_ix ix_list (pe_lst (pa_cons pe_int (pa_cons pe_int (pa_cons pe_int (pa_cons pe_int pa_nil))))) (pv 2) (fun _ _ => rfl)) pa_nil))) (pe_fd F_law_small (hr.mono (by decide)) (by rfl) (pa_cons (pv 1) (pa_cons pe_int (pa_cons pe_int pa_nil))))))
        (pss_cons (ps_par (by rfl) (i := 4) (j := 5) sclaw.nd rfl rfl (by decide) rfl rfl (pa_cons (pe_callTy call_tuple_of (by rfl) (nb "tuple" rfl) (by decide +kernel) (pa_cons (pe_fd F_law_mixed (hr.mono (by decide)) (by rfl) (pa_cons (pv 1) (pa_cons (pe_callTy call_list_of (by rfl) (nb "list" rfl) (by decide +kernel) (pa_cons (pv 3) pa_nil)) pa_nil))) pa_nil)) (pa_cons (pe_callB (call_repr hg (by have := hr.units; exact this)) (by rfl) (nb "repr" rfl) (by decide +kernel) (pa_cons (pv 3) pa_nil)) pa_nil)) (by rfl))
        (pss_cons (ps_set (i := 6) sclaw.nd rfl (.inl rfl) (pe_op op_catA (pv 3) (pe_tup (pa_cons (pe_tup (pa_cons (pe_fd F_law_draw (hr.mono (by decide)) (by rfl) (pa_cons (pv 1) (pa_cons (pe_op op_powW pe_int pe_int) pa_nil))) (pa_cons (pe_ifExp (pt_cmpR (op_neD hr.units) (pv 3) (pe_tup pa_nil) (nomark _)) (pe_ix ix_tup (pe_ix ix_tup (pv 3) pe_int (fun _ _ => rfl)) pe_int (fun _ _ => rfl)) pe_int) pa_nil))) pa_nil))))
        (pss_cons (ps_for PassesOwn.never rfl (pi_enum (by rfl) (nb "enumerate" rfl) (pa_cons (pe_fd F_law_numbers (hr.mono (by decide)) (by rfl) (pa_cons (pv 1) (pa_cons (pv 3) pa_nil))) pa_nil)) (pg_tup (by rfl) (pgs_cons (pg_name (i := 7) sclaw.nd rfl (.inl rfl)) (pgs_cons (pg_name (i := 8) sclaw.nd rfl (.inl rfl)) pgs_nil)))
        (pss_cons (ps_par (by rfl) (i := 9) (j := 10) sclaw.nd rfl rfl (by decide) rfl rfl (pa_cons (pe_fd F_law_fits (hr.mono (by decide)) (by rfl) (pa_cons (pv 3) (pa_cons (pv 8) pa_nil))) (pa_cons (pe_fd F_law_first (hr.mono (by decide)) (by rfl) (pa_cons (pv 3) (pa_cons (pv 8) pa_nil))) pa_nil)) (by rfl))
        (Evl.pss_cut (ps_if (pt_cmpR op_eq (pv 7) (pv 2) (nomark _)) (pss_one (ps_set (i := 11) sclaw.nd rfl (.inl rfl) (pe_lst (pa_cons (pe_fk Kfits (hr.mono (by decide)) (by rfl) (pk_cons (pv 8) (pk_cons (pv 3) pk_nil))) (pa_cons (pe_fk Kbroken (hr.mono (by decide)) (by rfl) (pk_cons (pv 8) (pk_cons (pv 3) pk_nil))) pa_nil))))) (pss_one (ps_set (i := 11) sclaw.nd rfl (.inl rfl) (pe_lst (pa_cons (pe_fd Ffits (hr.mono (by decide)) (by rfl) (pa_cons (pv 3) (pa_cons (pv 8) pa_nil))) (pa_cons (pe_fd Fbroken (hr.mono (by decide)) (by rfl) (pa_cons (pv 3) (pa_cons (pv 8) pa_nil))) pa_nil))))))
        (pss_cons (ps_if (PW.pt (pw_or (pt_cmpR op_ne (pe_callB (call_repr hg (by have := hr.units; exact this)) (by rfl) (nb "repr" rfl) (by decide +kernel) (pa_cons (pv 11) pa_nil)) (pe_callB (call_repr hg (by have := hr.units; exact this)) (by rfl) (nb "repr" rfl) (by decide +kernel) (pa_cons (pe_lst (pa_cons (pv 9) (pa_cons (pv 10) pa_nil))) pa_nil)) (nomark _)) (pw_or1 (pt_cmpR op_ne (pv 9) (pe_cmpR op_isN (pv 10) pe_non (nomark _)) (nomark _))))) (pss_one (ps_ret pe_bl)) pss_nil)
        (pss_cons (ps_if (pt_cmpR op_ne (pe_callB (call_repr hg (by have := hr.units; exact this)) (by rfl) (nb "repr" rfl) (by decide +kernel) (pa_cons (pe_lst (pa_cons (pe_fd Ffits (hr.mono (by decide)) (by rfl) (pa_cons (pv 3) (pa_cons (pe_un un_neg (pv 8)) pa_nil))) (pa_cons (pe_fd Fbroken (hr.mono (by decide)) (by rfl) (pa_cons (pv 3) (pa_cons (pe_un un_neg (pv 8)) pa_nil))) (pa_cons (pe_fd Ffits (hr.mono (by decide)) (by rfl) (pa_cons (pv 4) (pa_cons (pv 8) pa_nil))) pa_nil)))) pa_nil)) (pe_callB (call_repr hg (by have := hr.units; exact this)) (by rfl) (nb "repr" rfl) (by decide +kernel) (pa_cons (pe_lst (pa_cons (pv 9) (pa_cons (pv 10) (pa_cons (pv 9) pa_nil)))) pa_nil)) (nomark _)) (pss_one (ps_ret pe_bl)) pss_nil)
        (pss_one (ps_if (PW.pt (pw_and (pt_cmpR op_lt (pe_callB call_len_seq (by rfl) (nb "len" rfl) PySem.boot_len (pa_cons (pv 6) pa_nil)) pe_int (nomark _)) (pw_and (pt_val (pe_fd Ffits (hr.mono (by decide)) (by rfl) (pa_cons (pv 6) (pa_cons (pv 8) pa_nil)))) (pw_and1 (pt_not (pt_val (pv 9))))))) (pss_one (ps_ret pe_bl)) pss_nil)))))))
        (pss_one (ps_if (PW.pt (pw_or (pt_cmpR op_notBl (pe_fd Ffits (hr.mono (by decide)) (by rfl) (pa_cons (pv 3) (pa_cons pe_int pa_nil))) pe_bl (nomark _)) (pw_or1 (pt_cmpR op_ne (pe_callB (call_repr hg (by have := hr.units; exact this)) (by rfl) (nb "repr" rfl) (by decide +kernel) (pa_cons (pv 3) pa_nil)) (pv 5) (nomark _))))) (pss_one (ps_ret pe_bl)) pss_nil)))))))
        (pss_one (ps_ret pe_bl)))), ?_⟩
    -- deck = _law_deck(script)
    refine go_set ⟨_, rfl, a0, ns0, rfl, hS, hlen, fun H1 d l hS1 => ?_⟩
    dsimp only [L2.start]
    -- for turn in range(6)
    refine ⟨6, rfl, by decide, by decide, for_range (lo := 0) (n := 6) (fun i σ H => ∃ y2 y3 y4 y5 y6 y7 y8 y9 y10 y11 : Option V, σ = [some (.ref a0), some (.ref d), y2, y3, y4, y5, y6, y7, y8, y9, y10, y11] ∧ St K H (some (d, l)) [] [])
      ⟨_, _, _, _, _, _, _, _, _, _, rfl, hS1⟩ (fun i σ H hi hP => ?_) (fun σ H hP => q H)⟩
    obtain ⟨y2, y3, y4, y5, y6, y7, y8, y9, y10, y11, rfl, hS⟩ := hP
    -- scale
    refine go_set (cps (fun v H' => ∃ rs : List Rule, RulesOk 40 rs ∧ St K H' (some (d, l)) [] [(v, scaleD rs)]) (fun Q' q' => ?_) (fun v H2 hv => ?_))
    · refine go_ite ⟨_, rfl, _, _, rfl, rfl, _, rfl, ite2 (fun e => ?_) (fun e => ?_)⟩
      · have e' : (0 : Int) + (i : Int) < 4 := by simpa using e
        refine ⟨_, rfl, (by show 4 ≤ sizeLine; decide), fun p hp => ⟨_, rfl, p, _, _, .int ([40, 3, 12, 6].getD i 0), rfl, rfl, SqL.of upd_same, ?_, ?_⟩⟩
        · have : i = 0 ∨ i = 1 ∨ i = 2 ∨ i = 3 := by omega
          rcases this with rfl | rfl | rfl | rfl <;> rfl
        · have hS2 := (hS.lst (vs := [.int 40, .int 3, .int 12, .int 6]) (ds := [.int 40, .int 3, .int 12, .int 6]) hp (.cons (.int _) (.cons (.int _) (.cons (.int _) (.cons (.int _) .nil))))).weaken (Δ' := []) fun _ h => nomatch h
          have hg : 1 ≤ ([40, 3, 12, 6] : List Int).getD i 0 ∧ ([40, 3, 12, 6] : List Int).getD i 0 ≤ 40 := by
            have : i = 0 ∨ i = 1 ∨ i = 2 ∨ i = 3 := by omega
            rcases this with rfl | rfl | rfl | rfl <;> decide
          exact ⟨d, l, _, [], [], rfl, hS2, hg.1, hg.2, fun H' v rs hr _ hS3 => q' v H' ⟨rs, hr, hS3⟩⟩
      · exact ⟨_, rfl, d, l, 5, 60, [], [], rfl, hS, by decide, by decide, by decide, by decide, fun H' v rs hr hS3 => q' v H' ⟨rs, hr, hS3⟩⟩
    obtain ⟨rs, hrs, hS2⟩ := hv
    have h2 : ∀ r ∈ rs, 0 ≤ r.2 := fun r hr => by
      have := (hrs.2 r hr).2.2
      omega
    obtain ⟨av, rfl⟩ := hS2.ref_of (List.mem_cons_self ..)
    -- turned, kept
    obtain ⟨vs, hT, hvl, Δ', rfl, hS3, hv⟩ := hS2.tupAt (List.mem_cons_self ..)
    refine go_seq ⟨_, rfl, _, rfl, av, vs, rfl, .inr hT, fun p hp => ?_⟩
    have hS4 := hS3.lst hp hv
    refine ⟨d, l, p, rs.map ruleD, _, _, rfl, hS4, List.mem_cons_self .., lay_rules rs, by rw [List.length_map]; have := hrs.1; omega, fun H3 p2 es hperm hS5 => ?_⟩
    obtain ⟨rs', rfl, hp2⟩ := perm_rules hperm
    have hS6 := (hS5.weaken (Δ' := [(.ref av, scaleD rs)]) fun y hy => by rw [List.mem_singleton.mp hy]; exact List.mem_cons_of_mem _ (List.mem_append_right _ (List.mem_cons_self ..))).freeze
    obtain ⟨us, hL, hul, Δ2, rfl, hS7, hu⟩ := hS6.lstAt (List.mem_cons_self ..)
    refine ⟨p2, us, rfl, .inl ⟨hL, fun t ht => ?_⟩⟩
    have hS8 := (hS7.tup ht hu).weaken (Δ' := [(.ref t, scaleD rs'), (.ref av, scaleD rs)]) fun y hy => by
      simp only [List.mem_cons, List.not_mem_nil, or_false] at hy
      rcases hy with rfl | rfl
      · exact List.mem_cons_self ..
      · exact List.mem_cons_of_mem _ (List.mem_append_right _ (List.mem_cons_of_mem _ (List.mem_cons_self ..)))
    have h2' : ∀ r ∈ rs', 0 ≤ r.2 := fun r hr => h2 r (hp2.subset hr)
    refine (ed_repr (B := [(.ref t, scaleD rs'), (.ref av, scaleD rs)]) (ed_var rfl (.of (List.mem_cons_of_mem _ (List.mem_cons_self ..)))) trivial (sm_scale hrs) (by decide) (by decide)) _ _ _ _ _ .rfl' hS8 (fun v H4 Δ4 s4 hS9 dv => ?_)
    obtain rfl := dv.isStr hS9
    replace hS9 := hS9.weaken s4
    refine ⟨_, _, rfl, ?_⟩
    -- more
    dsimp only [gName, List.set_cons_succ, List.set_cons_zero]
    refine go_set (cps (fun v H' => ∃ r0 : Rule, 0 ≤ r0.2 ∧ St K H' (some (d, l)) [] [(v, scaleD (rs ++ [r0])), (.ref t, scaleD rs'), (.ref av, scaleD rs)]) (fun Q' q' => ?_) (fun v H5 hv => ?_))
    · refine go_op ⟨_, rfl, ?_⟩
      refine go_tup (go_cons (go_tup (go_cons ?_)))
      refine go_draw (B := []) rfl (ed_I ed_int ed_int ⟨by decide, by decide⟩) sub_nil hS9 (by decide +kernel) (fun H5 r hS10 r0 r1 => ?_)
      refine go_cons (cps (fun v H' => ∃ s : Int, v = .int s ∧ 0 ≤ s ∧ St K H' (some (d, l)) [] [(.ref t, scaleD rs'), (.ref av, scaleD rs)]) (fun Q'' q'' => ?_) (fun v H6 hv => ?_))
      · refine go_ite (go_test ⟨_, rfl, Nat.zero_le _, fun u hu => ?_⟩)
        have hS11 := hS10.tup (ds := []) hu .nil
        refine ne_nil_tup (ds := rs.map ruleD) (hS11.dp (.of (List.mem_cons_of_mem _ (List.mem_cons_of_mem _ (List.mem_cons_self ..))))) (.tup (SqT.of upd_same) .nil) (lay_rules rs) ⟨_, rfl, ?_⟩
        rw [List.isEmpty_map]
        replace hS11 := hS11.weaken (Δ' := [(.ref t, scaleD rs'), (.ref av, scaleD rs)]) fun _ => List.mem_cons_of_mem _
        cases rs with
        | nil => exact iteF (q'' _ _ ⟨2, rfl, by decide, hS11⟩)
        | cons k ks =>
          obtain ⟨us, hL2, hlen2, Δ2, rfl, hS3, hv2⟩ := hS11.tupAt (List.mem_cons_of_mem _ (List.mem_cons_self ..))
          obtain ⟨v, e1, e2⟩ := dvs_at (i := 0) hv2 (x := ruleD k) rfl
          have hS4 := hS3.also e2
          obtain ⟨ax, rfl⟩ := hS4.ref_of (List.mem_cons_self ..)
          have hT := hS4.pair (List.mem_cons_self ..)
          exact iteT ⟨_, rfl, av, us, 0, _, rfl, rfl, hL2, atI_nat (j := 0) e1, ax, _, 1, _, rfl, rfl, hT, atI_nat (j := 1) rfl, q'' _ _ ⟨k.2, rfl, h2 k (List.mem_cons_self ..), hS11⟩⟩
      obtain ⟨s, rfl, s0, hS11⟩ := hv
      refine ⟨(by show 2 ≤ sizeLine; decide), fun p1 hp1 => ?_⟩
      have hS12 := hS11.tup (vs := [.int r, .int s]) (ds := [.int r, .int s]) hp1 (.cons (.int _) (.cons (.int _) .nil))
      refine ⟨(by show 1 ≤ sizeLine; decide), fun p2 hp2 => ?_⟩
      have hS13 := hS12.tup (vs := [.ref p1]) (ds := [ruleD (r, s)]) hp2 (.cons (.of (List.mem_cons_self ..)) .nil)
      obtain ⟨us, hU, hul, Δ3, rfl, hS14, hu⟩ := hS13.tupAt (a := av) (ds := rs.map ruleD) (List.mem_cons_of_mem _ (List.mem_cons_of_mem _ (List.mem_cons_of_mem _ (List.mem_cons_self ..))))
      have hull : us.length = rs.length := by rw [hul, List.length_map]
      refine ⟨av, p2, us, [.ref p1], rfl, rfl, hU, SqT.of upd_same, Nat.le_of_lt (small1000 (by rw [hull]; have := hrs.1; show rs.length + 1 ≤ 1000; omega)), fun e => ?_, fun _ e => (by cases e), fun _ _ p3 hp3 => ?_⟩
      · have hr0 : rs = [] := by
          rw [e] at hull
          exact List.length_eq_zero_iff.mp hull.symm
        subst hr0
        exact q' _ _ ⟨(r, s), s0, hS13.weaken fun y hy => by
          simp only [List.mem_cons, List.not_mem_nil, or_false] at hy
          rcases hy with rfl | rfl | rfl
          · exact List.mem_cons_self ..
          · exact List.mem_cons_of_mem _ (List.mem_cons_of_mem _ (List.mem_cons_self ..))
          · exact List.mem_cons_of_mem _ (List.mem_cons_of_mem _ (List.mem_cons_of_mem _ (List.mem_cons_self ..)))⟩
      · have hS15 := hS14.tup (vs := us ++ [.ref p1]) (ds := rs.map ruleD ++ [ruleD (r, s)]) hp3 (dvs_app hu (.cons (.of (List.mem_append_right _ (List.mem_cons_of_mem _ (List.mem_cons_self ..)))) .nil))
        refine q' _ _ ⟨(r, s), s0, hS15.weaken fun y hy => ?_⟩
        simp only [List.mem_cons, List.not_mem_nil, or_false] at hy
        rcases hy with rfl | rfl | rfl
        · unfold scaleD
          rw [List.map_append]
          exact List.mem_cons_self ..
        · exact List.mem_cons_of_mem _ (List.mem_append_right _ (List.mem_cons_of_mem _ (List.mem_cons_of_mem _ (List.mem_cons_self ..))))
        · exact List.mem_cons_of_mem _ (List.mem_append_right _ (List.mem_cons_of_mem _ (List.mem_cons_of_mem _ (List.mem_cons_of_mem _ (List.mem_cons_self ..)))))
    obtain ⟨r0, hr0, hS10⟩ := hv
    obtain ⟨am, rfl⟩ := hS10.ref_of (List.mem_cons_self ..)
    have h2m : ∀ r ∈ rs ++ [r0], 0 ≤ r.2 := fun r hr => by
      rcases List.mem_append.mp hr with hr | hr
      · exact h2 r hr
      · rw [List.mem_singleton.mp hr]
        exact hr0
    -- for spot, number in enumerate(_law_numbers(deck, scale))
    dsimp only [gName, List.set_cons_succ, List.set_cons_zero]
    refine go_for (go_walkEL ⟨_, rfl, _, rfl, d, l, av, rs, _, _, rfl, hS10, List.mem_cons_of_mem _ (List.mem_cons_of_mem _ (List.mem_cons_self ..)), hrs, fun H6 pn ns hnl hS11 => ?_⟩)
    have hS12 := hS11.freeze
    obtain ⟨xs0, hL0, hx0⟩ := hS12.lenL (List.mem_cons_self ..)
    refine ⟨pn, xs0, rfl, hL0, for_it (n := ns.length) walkEL (fun k σ H => ∃ y7 y8 y9 y10 y11 : Option V, σ = [some (.ref a0), some (.ref d), some (.int (0 + (i : Int))), some (.ref av), some (.ref t), some (.str (scaleD rs).shown), some (.ref am), y7, y8, y9, y10, y11] ∧
        St K H (some (d, l)) [] [(.ref pn, .list (ns.map PyData.int)), (.ref am, scaleD (rs ++ [r0])), (.ref t, scaleD rs'), (.ref av, scaleD rs)])
      ⟨_, _, _, _, _, rfl, hS12⟩ (fun k σ H _ hP => ?_) (fun k x σ H H' hk hP hy => ?_) (fun σ H hP => ?_)⟩
    · obtain ⟨_, _, _, _, _, _, hS⟩ := hP
      obtain ⟨xs, h1, h3⟩ := hS.lenL (List.mem_cons_self ..)
      exact ⟨xs, h1, by rw [h3, List.length_map]⟩
    · obtain ⟨y7, y8, y9, y10, y11, rfl, hS⟩ := hP
      obtain ⟨T, x, rfl, hT, rfl, ff⟩ := hy
      obtain ⟨dd, e1, hS1⟩ := hS.turnL (List.mem_cons_self ..) ff
      rw [List.getElem?_map, List.getElem?_eq_getElem hk] at e1
      cases Option.some.inj e1
      obtain rfl := hS1.int_of (List.mem_cons_self ..)
      have hS2 := (hS1.enumd (i := k) hT).weaken (Δ' := [(.ref pn, .list (ns.map PyData.int)), (.ref am, scaleD (rs ++ [r0])), (.ref t, scaleD rs'), (.ref av, scaleD rs)]) fun _ => List.mem_cons_of_mem _
      refine ⟨T, _, rfl, SqT.of upd_same, rfl, _, _, rfl, _, _, rfl, rfl, ?_⟩
      revert hS2
      generalize upd H T (.tup [.int (k : Nat), .int ns[k]]) = H7
      generalize ns[k] = n
      intro hS2
      dsimp only [gName, List.set_cons_succ, List.set_cons_zero]
      have Bs : Dv [(V.ref pn, PyData.list (ns.map PyData.int)), (.ref am, scaleD (rs ++ [r0])), (.ref t, scaleD rs'), (.ref av, scaleD rs)] (.ref av) (scaleD rs) := .of (List.mem_cons_of_mem _ (List.mem_cons_of_mem _ (List.mem_cons_of_mem _ (List.mem_cons_self ..))))
      have Bt : Dv [(V.ref pn, PyData.list (ns.map PyData.int)), (.ref am, scaleD (rs ++ [r0])), (.ref t, scaleD rs'), (.ref av, scaleD rs)] (.ref t) (scaleD rs') := .of (List.mem_cons_of_mem _ (List.mem_cons_of_mem _ (List.mem_cons_self ..)))
      have Bm : Dv [(V.ref pn, PyData.list (ns.map PyData.int)), (.ref am, scaleD (rs ++ [r0])), (.ref t, scaleD rs'), (.ref av, scaleD rs)] (.ref am) (scaleD (rs ++ [r0])) := .of (List.mem_cons_of_mem _ (List.mem_cons_self ..))
      -- due, place
      refine go_seq ⟨_, rfl, _, rfl, _, _, _, av, rs, n, rfl, hS2, List.mem_cons_of_mem _ (List.mem_cons_of_mem _ (List.mem_cons_of_mem _ (List.mem_cons_self ..))), h2, fun H8 hS3 => ⟨_, rfl, _, rfl, _, _, _, av, rs, n, rfl, hS3, List.mem_cons_of_mem _ (List.mem_cons_of_mem _ (List.mem_cons_of_mem _ (List.mem_cons_self ..))), h2, fun H9 hS4 => ⟨_, _, rfl, ?_⟩⟩⟩
      dsimp only [gName, List.set_cons_succ, List.set_cons_zero]
      have hpl : ∀ {Δ : List (V × D)}, Dv Δ (placeV (firstBad rs n)) (placeD (firstBad rs n)) := dv_place
      have smp := sm_place (n := n) hrs.1
      -- seen
      refine go_cut (fun σ H' => ∃ vs : V, σ = [some (.ref a0), some (.ref d), some (.int (0 + (i : Int))), some (.ref av), some (.ref t), some (.str (scaleD rs).shown), some (.ref am), some (.int (k : Nat)), some (.int n), some (.bl (fitsAll rs n)), some (placeV (firstBad rs n)), some vs] ∧
        St K H' (some (d, l)) [] ((vs, .list [.bool (fitsAll rs n), placeD (firstBad rs n)]) :: [(.ref pn, .list (ns.map PyData.int)), (.ref am, scaleD (rs ++ [r0])), (.ref t, scaleD rs'), (.ref av, scaleD rs)])) ?_ (fun σ H10 hM => ?_)
      · refine go_if ⟨_, rfl, _, rfl, rfl, _, rfl, ite2 (fun e => ?_) (fun e => ?_)⟩
        · refine go_asgL ?_
          refine EvD.go (B := _) (d := .list [.bool (fitsAll rs n), placeD (firstBad rs n)]) (ed_lst (eds_cons (ed_fitsK (ed_var rfl Bs) (ed_varI rfl) h2) (eds_cons (ed_brokenK (ed_var rfl Bs) (ed_varI rfl) h2) eds_nil)) (by show 2 ≤ 10000; decide)) .rfl' hS4 (fun v H' hS' => ⟨v, rfl, hS'⟩)
        · refine go_asgL ?_
          refine EvD.go (B := _) (d := .list [.bool (fitsAll rs n), placeD (firstBad rs n)]) (ed_lst (eds_cons (ed_fits (ed_var rfl Bs) (ed_varI rfl) h2) (eds_cons (ed_broken (ed_var rfl Bs) (ed_varI rfl) h2) eds_nil)) (by show 2 ≤ 10000; decide)) .rfl' hS4 (fun v H' hS' => ⟨v, rfl, hS'⟩)
      obtain ⟨vs, rfl, hS5⟩ := hM
      have sm2 : Sm 1147 1 (.list [.bool (fitsAll rs n), placeD (firstBad rs n)] : D) := by
        refine sm_list (n := 570) (k := 0) (ds := [.bool (fitsAll rs n), placeD (firstBad rs n)]) fun d hd => ?_
        simp only [List.mem_cons, List.not_mem_nil, or_false] at hd
        rcases hd with rfl | rfl
        · exact (sm_bool _).mono (by decide) (Nat.le_refl _)
        · exact smp
      have sm3 : Sm 1719 1 (.list [.bool (fitsAll rs n), placeD (firstBad rs n), .bool (fitsAll rs n)] : D) := by
        refine sm_list (n := 570) (k := 0) (ds := [.bool (fitsAll rs n), placeD (firstBad rs n), .bool (fitsAll rs n)]) fun d hd => ?_
        simp only [List.mem_cons, List.not_mem_nil, or_false] at hd
        rcases hd with rfl | rfl | rfl
        · exact (sm_bool _).mono (by decide) (Nat.le_refl _)
        · exact smp
        · exact (sm_bool _).mono (by decide) (Nat.le_refl _)
      -- repr(seen) != repr([due, place]) or due != (place is None)
      refine go_seq (go_if (go_or (EvD.test (B := _) (b := false) ?_ .rfl' hS5 (fun H11 hS6 => iteF (EvD.test (B := _) (b := false) ?_ .rfl' hS6 (fun H12 hS7 => iteF ?_))))))
      · have g := ed_neS (K := K) (B := (vs, .list [.bool (fitsAll rs n), placeD (firstBad rs n)]) :: [(.ref pn, .list (ns.map PyData.int)), (.ref am, scaleD (rs ++ [r0])), (.ref t, scaleD rs'), (.ref av, scaleD rs)])
          (ed_repr (ed_var (σ := [some (.ref a0), some (.ref d), some (.int (0 + (i : Int))), some (.ref av), some (.ref t), some (.str (scaleD rs).shown), some (.ref am), some (.int (k : Nat)), some (.int n), some (.bl (fitsAll rs n)), some (placeV (firstBad rs n)), some vs]) (n := 11) rfl (.of (List.mem_cons_self ..))) trivial sm2 (by decide) (by decide))
          (ed_repr (ed_lst (eds_cons (ed_varB (n := 9) rfl) (eds_cons (ed_var (n := 10) rfl hpl) eds_nil)) (by show 2 ≤ 10000; decide)) trivial sm2 (by decide) (by decide))
        rw [decide_eq_true rfl] at g
        exact g
      · have g := ed_neB (K := K) (B := (vs, .list [.bool (fitsAll rs n), placeD (firstBad rs n)]) :: [(.ref pn, .list (ns.map PyData.int)), (.ref am, scaleD (rs ++ [r0])), (.ref t, scaleD rs'), (.ref av, scaleD rs)])
          (ed_varB (σ := [some (.ref a0), some (.ref d), some (.int (0 + (i : Int))), some (.ref av), some (.ref t), some (.str (scaleD rs).shown), some (.ref am), some (.int (k : Nat)), some (.int n), some (.bl (fitsAll rs n)), some (placeV (firstBad rs n)), some vs]) (n := 9) rfl)
          (ed_isN (o := firstBad rs n) (ed_var (n := 10) rfl hpl))
        rw [← fits_first', decide_eq_true rfl] at g
        exact g
      refine go_next ?_
      dsimp only
      -- repr([fits(scale, -number), ..]) != repr([due, place, due])
      refine go_seq (go_if (EvD.test (B := _) (b := false) ?_ .rfl' hS7 (fun H13 hS8 => iteF ?_)))
      · have g := ed_neS (K := K) (B := (vs, .list [.bool (fitsAll rs n), placeD (firstBad rs n)]) :: [(.ref pn, .list (ns.map PyData.int)), (.ref am, scaleD (rs ++ [r0])), (.ref t, scaleD rs'), (.ref av, scaleD rs)])
          (σ := [some (.ref a0), some (.ref d), some (.int (0 + (i : Int))), some (.ref av), some (.ref t), some (.str (scaleD rs).shown), some (.ref am), some (.int (k : Nat)), some (.int n), some (.bl (fitsAll rs n)), some (placeV (firstBad rs n)), some vs])
          (ed_repr (d := .list [.bool (fitsAll rs (-n)), placeD (firstBad rs (-n)), .bool (fitsAll rs' n)]) (ed_lst (eds_cons (ed_fits (E := E0) (ed_var (n := 3) rfl (Bs.sub (Sub.cons .rfl'))) (ed_neg (ed_varI (n := 8) rfl)) h2) (eds_cons (ed_broken (E := E0) (ed_var (n := 3) rfl (Bs.sub (Sub.cons .rfl'))) (ed_neg (ed_varI (n := 8) rfl)) h2)
            (eds_cons (ed_fits (E := E0) (ed_var (n := 4) rfl (Bt.sub (Sub.cons .rfl'))) (ed_varI (n := 8) rfl) h2') eds_nil))) (by show 3 ≤ 10000; decide)) trivial (by rw [fits_neg, first_neg, fits_perm hp2]; exact sm3) (by decide) (by decide))
          (ed_repr (ed_lst (eds_cons (ed_varB (n := 9) rfl) (eds_cons (ed_var (n := 10) rfl hpl) (eds_cons (ed_varB (n := 9) rfl) eds_nil))) (by show 3 ≤ 10000; decide)) trivial sm3 (by decide) (by decide))
        rw [fits_neg, first_neg, fits_perm hp2, decide_eq_true rfl] at g
        exact g
      refine go_next ?_
      dsimp only
      -- len(more) < 41 and fits(more, number) and (not due)
      obtain ⟨um, hU, hul, _⟩ := hS8.tupAt (a := am) (ds := (rs ++ [r0]).map ruleD) (List.mem_cons_of_mem _ (List.mem_cons_of_mem _ (List.mem_cons_self ..)))
      have fin : ∀ H', St K H' (some (d, l)) [] ((vs, .list [.bool (fitsAll rs n), placeD (firstBad rs n)]) :: [(.ref pn, .list (ns.map PyData.int)), (.ref am, scaleD (rs ++ [r0])), (.ref t, scaleD rs'), (.ref av, scaleD rs)]) →
          ∃ y7 y8 y9 y10 y11 : Option V, [some (V.ref a0), some (.ref d), some (.int (0 + (i : Int))), some (.ref av), some (.ref t), some (.str (scaleD rs).shown), some (.ref am), some (.int (k : Nat)), some (.int n), some (.bl (fitsAll rs n)), some (placeV (firstBad rs n)), some vs] =
            [some (.ref a0), some (.ref d), some (.int (0 + (i : Int))), some (.ref av), some (.ref t), some (.str (scaleD rs).shown), some (.ref am), y7, y8, y9, y10, y11] ∧ St K H' (some (d, l)) [] [(.ref pn, .list (ns.map PyData.int)), (.ref am, scaleD (rs ++ [r0])), (.ref t, scaleD rs'), (.ref av, scaleD rs)] :=
        fun H' h => ⟨_, _, _, _, _, rfl, h.weaken fun _ => List.mem_cons_of_mem _⟩
      refine go_if (go_and ⟨_, rfl, am, um, rfl, .inr hU, _, _, rfl, rfl, _, rfl, ite2 (fun e => ?_) (fun e => ?_)⟩)
      · refine go_and (EvD.testB (B := _) (ed_fits (rs := rs ++ [r0]) (ed_var rfl (Bm.sub (Sub.cons .rfl'))) (ed_varI rfl) h2m) .rfl' hS8 (fun H14 hS9 => ?_))
        cases hf : fitsAll (rs ++ [r0]) n with
        | false => exact iteF (iteF (fin _ hS9))
        | true =>
          have hd := fits_more hf
          refine iteT (go_not ⟨_, rfl, _, rfl, ?_⟩)
          rw [hd]
          exact iteF (by rw [hd] at fin; exact fin _ (by rw [hd] at hS9; exact hS9))
      · exact iteF (fin _ hS8)
    · obtain ⟨y7, y8, y9, y10, y11, rfl, hS⟩ := hP
      have Bs : Dv [(V.ref pn, PyData.list (ns.map PyData.int)), (.ref am, scaleD (rs ++ [r0])), (.ref t, scaleD rs'), (.ref av, scaleD rs)] (.ref av) (scaleD rs) := .of (List.mem_cons_of_mem _ (List.mem_cons_of_mem _ (List.mem_cons_of_mem _ (List.mem_cons_self ..))))
      have h0 : fitsAll rs 0 = true := List.all_eq_true.mpr fun r hr => by
        have := (hrs.2 r hr).1
        unfold fitR
        rw [if_neg (by decide), decide_eq_true this]
        rfl
      dsimp only
      refine go_if (go_or (EvD.test (B := _) (b := false) ?_ .rfl' hS (fun H11 hS6 => iteF (EvD.test (B := _) (b := false) ?_ .rfl' hS6 (fun H12 hS7 => iteF ?_)))))
      · have g := ed_notB (K := K) (B := [(V.ref pn, PyData.list (ns.map PyData.int)), (.ref am, scaleD (rs ++ [r0])), (.ref t, scaleD rs'), (.ref av, scaleD rs)])
          (σ := [some (.ref a0), some (.ref d), some (.int (0 + (i : Int))), some (.ref av), some (.ref t), some (.str (scaleD rs).shown), some (.ref am), y7, y8, y9, y10, y11])
          (ed_fits (E := E0) (ed_var (n := 3) rfl Bs) (ed_int (i := 0)) h2) (ed_bl (b := true))
        rw [h0, decide_eq_true rfl] at g
        exact g
      · have g := ed_neS (K := K) (B := [(V.ref pn, PyData.list (ns.map PyData.int)), (.ref am, scaleD (rs ++ [r0])), (.ref t, scaleD rs'), (.ref av, scaleD rs)])
          (σ := [some (.ref a0), some (.ref d), some (.int (0 + (i : Int))), some (.ref av), some (.ref t), some (.str (scaleD rs).shown), some (.ref am), y7, y8, y9, y10, y11])
          (ed_repr (ed_var (n := 3) rfl Bs) trivial (sm_scale hrs) (by decide) (by decide)) (ed_var (n := 5) rfl (.str (scaleD rs).shown))
        rw [decide_eq_true rfl] at g
        exact g
      exact ⟨_, _, _, _, _, _, _, _, _, _, rfl, hS7.weaken fun _ h => nomatch h⟩

end
theorem all_mk {l : PySem.W.OpenLaw} {w : World} {K : PySem.W.Frag} {h : Heap} {mg : Str → Option Value} {fa : Addr} (X : K.In h) (G : h.Ns mainGlobals mg) (hfa : mg "law" = some (.ref fa))
    {f0 : Addr} {od0 an0 : Option Addr} {sl0 : Array (Option Value)} {oc0 kV0 dc0 pm0 cd0 ct0 : Value}
    {f1 : Addr} {od1 an1 : Option Addr} {sl1 : Array (Option Value)} {oc1 kV1 dc1 pm1 cd1 ct1 : Value}
    {f2 : Addr} {od2 an2 : Option Addr} {sl2 : Array (Option Value)} {oc2 kV2 dc2 pm2 cd2 ct2 : Value}
    {f3 : Addr} {od3 an3 : Option Addr} {sl3 : Array (Option Value)} {oc3 kV3 dc3 pm3 cd3 ct3 : Value}
    {f4 : Addr} {od4 an4 : Option Addr} {sl4 : Array (Option Value)} {oc4 kV4 dc4 pm4 cd4 ct4 : Value}
    {f5 : Addr} {od5 an5 : Option Addr} {sl5 : Array (Option Value)} {oc5 kV5 dc5 pm5 cd5 ct5 : Value}
    {f6 : Addr} {od6 an6 : Option Addr} {sl6 : Array (Option Value)} {oc6 kV6 dc6 pm6 cd6 ct6 : Value}
    {f7 : Addr} {od7 an7 : Option Addr} {sl7 : Array (Option Value)} {oc7 kV7 dc7 pm7 cd7 ct7 : Value}
    {f8 : Addr} {od8 an8 : Option Addr} {sl8 : Array (Option Value)} {oc8 kV8 dc8 pm8 cd8 ct8 : Value}
    {f9 : Addr} {od9 an9 : Option Addr} {sl9 : Array (Option Value)} {oc9 kV9 dc9 pm9 cd9 ct9 : Value}
    {f10 : Addr} {od10 an10 : Option Addr} {sl10 : Array (Option Value)} {oc10 kV10 dc10 pm10 cd10 ct10 : Value}
    {f11 : Addr} {od11 an11 : Option Addr} {sl11 : Array (Option Value)} {oc11 kV11 dc11 pm11 cd11 ct11 : Value}
    {f12 : Addr} {od12 an12 : Option Addr} {sl12 : Array (Option Value)} {oc12 kV12 dc12 pm12 cd12 ct12 : Value}
    {f13 : Addr} {od13 an13 : Option Addr} {sl13 : Array (Option Value)} {oc13 kV13 dc13 pm13 cd13 ct13 : Value}
    {f14 : Addr} {od14 an14 : Option Addr} {sl14 : Array (Option Value)} {oc14 kV14 dc14 pm14 cd14 ct14 : Value}
    {f15 : Addr} {od15 an15 : Option Addr} {sl15 : Array (Option Value)} {oc15 kV15 dc15 pm15 cd15 ct15 : Value}
    {f16 : Addr} {od16 an16 : Option Addr} {sl16 : Array (Option Value)} {oc16 kV16 dc16 pm16 cd16 ct16 : Value}
    {f17 : Addr} {od17 an17 : Option Addr} {sl17 : Array (Option Value)} {oc17 kV17 dc17 pm17 cd17 ct17 : Value}
    (a0 : PySem.W.nsIn K mainGlobals "fits_rule" = some (some (.ref f0))) (l0 : K.lookup f0 = some ⟨oc0, od0, .func (PySem.W.fnOf "fits_rule" "fits_rule" (defArgs sfits_rule) (defBody sfits_rule) (defScope sfits_rule) .none kV0 dc0 pm0 an0 cd0 ct0), sl0⟩) (c0 : PySem.W.codeIn K cd0 "fits_rule" = true) (k0 : PySem.W.keepIn K (.ref f0) = true)
    (a1 : PySem.W.nsIn K mainGlobals "broken" = some (some (.ref f1))) (l1 : K.lookup f1 = some ⟨oc1, od1, .func (PySem.W.fnOf "broken" "broken" (defArgs sbroken) (defBody sbroken) (defScope sbroken) .none kV1 dc1 pm1 an1 cd1 ct1), sl1⟩) (c1 : PySem.W.codeIn K cd1 "broken" = true) (k1 : PySem.W.keepIn K (.ref f1) = true)
    (a2 : PySem.W.nsIn K mainGlobals "fits" = some (some (.ref f2))) (l2 : K.lookup f2 = some ⟨oc2, od2, .func (PySem.W.fnOf "fits" "fits" (defArgs sfits) (defBody sfits) (defScope sfits) .none kV2 dc2 pm2 an2 cd2 ct2), sl2⟩) (c2 : PySem.W.codeIn K cd2 "fits" = true) (k2 : PySem.W.keepIn K (.ref f2) = true)
    (a3 : PySem.W.nsIn K mainGlobals "_law_deck" = some (some (.ref f3))) (l3 : K.lookup f3 = some ⟨oc3, od3, .func (PySem.W.fnOf "_law_deck" "_law_deck" (defArgs s_law_deck) (defBody s_law_deck) (defScope s_law_deck) .none kV3 dc3 pm3 an3 cd3 ct3), sl3⟩) (c3 : PySem.W.codeIn K cd3 "_law_deck" = true) (k3 : PySem.W.keepIn K (.ref f3) = true)
    (a4 : PySem.W.nsIn K mainGlobals "_law_draw" = some (some (.ref f4))) (l4 : K.lookup f4 = some ⟨oc4, od4, .func (PySem.W.fnOf "_law_draw" "_law_draw" (defArgs s_law_draw) (defBody s_law_draw) (defScope s_law_draw) .none kV4 dc4 pm4 an4 cd4 ct4), sl4⟩) (c4 : PySem.W.codeIn K cd4 "_law_draw" = true) (k4 : PySem.W.keepIn K (.ref f4) = true)
    (a5 : PySem.W.nsIn K mainGlobals "_law_pick" = some (some (.ref f5))) (l5 : K.lookup f5 = some ⟨oc5, od5, .func (PySem.W.fnOf "_law_pick" "_law_pick" (defArgs s_law_pick) (defBody s_law_pick) (defScope s_law_pick) .none kV5 dc5 pm5 an5 cd5 ct5), sl5⟩) (c5 : PySem.W.codeIn K cd5 "_law_pick" = true) (k5 : PySem.W.keepIn K (.ref f5) = true)
    (a6 : PySem.W.nsIn K mainGlobals "_law_mixed" = some (some (.ref f6))) (l6 : K.lookup f6 = some ⟨oc6, od6, .func (PySem.W.fnOf "_law_mixed" "_law_mixed" (defArgs s_law_mixed) (defBody s_law_mixed) (defScope s_law_mixed) .none kV6 dc6 pm6 an6 cd6 ct6), sl6⟩) (c6 : PySem.W.codeIn K cd6 "_law_mixed" = true) (k6 : PySem.W.keepIn K (.ref f6) = true)
    (a7 : PySem.W.nsIn K mainGlobals "_law_divisor" = some (some (.ref f7))) (l7 : K.lookup f7 = some ⟨oc7, od7, .func (PySem.W.fnOf "_law_divisor" "_law_divisor" (defArgs s_law_divisor) (defBody s_law_divisor) (defScope s_law_divisor) .none kV7 dc7 pm7 an7 cd7 ct7), sl7⟩) (c7 : PySem.W.codeIn K cd7 "_law_divisor" = true) (k7 : PySem.W.keepIn K (.ref f7) = true)
    (a8 : PySem.W.nsIn K mainGlobals "_law_multiple" = some (some (.ref f8))) (l8 : K.lookup f8 = some ⟨oc8, od8, .func (PySem.W.fnOf "_law_multiple" "_law_multiple" (defArgs s_law_multiple) (defBody s_law_multiple) (defScope s_law_multiple) .none kV8 dc8 pm8 an8 cd8 ct8), sl8⟩) (c8 : PySem.W.codeIn K cd8 "_law_multiple" = true) (k8 : PySem.W.keepIn K (.ref f8) = true)
    (a9 : PySem.W.nsIn K mainGlobals "_law_fits" = some (some (.ref f9))) (l9 : K.lookup f9 = some ⟨oc9, od9, .func (PySem.W.fnOf "_law_fits" "_law_fits" (defArgs s_law_fits) (defBody s_law_fits) (defScope s_law_fits) .none kV9 dc9 pm9 an9 cd9 ct9), sl9⟩) (c9 : PySem.W.codeIn K cd9 "_law_fits" = true) (k9 : PySem.W.keepIn K (.ref f9) = true)
    (a10 : PySem.W.nsIn K mainGlobals "_law_raised" = some (some (.ref f10))) (l10 : K.lookup f10 = some ⟨oc10, od10, .func (PySem.W.fnOf "_law_raised" "_law_raised" (defArgs s_law_raised) (defBody s_law_raised) (defScope s_law_raised) .none kV10 dc10 pm10 an10 cd10 ct10), sl10⟩) (c10 : PySem.W.codeIn K cd10 "_law_raised" = true) (k10 : PySem.W.keepIn K (.ref f10) = true)
    (a11 : PySem.W.nsIn K mainGlobals "_law_step" = some (some (.ref f11))) (l11 : K.lookup f11 = some ⟨oc11, od11, .func (PySem.W.fnOf "_law_step" "_law_step" (defArgs s_law_step) (defBody s_law_step) (defScope s_law_step) .none kV11 dc11 pm11 an11 cd11 ct11), sl11⟩) (c11 : PySem.W.codeIn K cd11 "_law_step" = true) (k11 : PySem.W.keepIn K (.ref f11) = true)
    (a12 : PySem.W.nsIn K mainGlobals "_law_kinds" = some (some (.ref f12))) (l12 : K.lookup f12 = some ⟨oc12, od12, .func (PySem.W.fnOf "_law_kinds" "_law_kinds" (defArgs s_law_kinds) (defBody s_law_kinds) (defScope s_law_kinds) .none kV12 dc12 pm12 an12 cd12 ct12), sl12⟩) (c12 : PySem.W.codeIn K cd12 "_law_kinds" = true) (k12 : PySem.W.keepIn K (.ref f12) = true)
    (a13 : PySem.W.nsIn K mainGlobals "_law_great" = some (some (.ref f13))) (l13 : K.lookup f13 = some ⟨oc13, od13, .func (PySem.W.fnOf "_law_great" "_law_great" (defArgs s_law_great) (defBody s_law_great) (defScope s_law_great) .none kV13 dc13 pm13 an13 cd13 ct13), sl13⟩) (c13 : PySem.W.codeIn K cd13 "_law_great" = true) (k13 : PySem.W.keepIn K (.ref f13) = true)
    (a14 : PySem.W.nsIn K mainGlobals "_law_small" = some (some (.ref f14))) (l14 : K.lookup f14 = some ⟨oc14, od14, .func (PySem.W.fnOf "_law_small" "_law_small" (defArgs s_law_small) (defBody s_law_small) (defScope s_law_small) .none kV14 dc14 pm14 an14 cd14 ct14), sl14⟩) (c14 : PySem.W.codeIn K cd14 "_law_small" = true) (k14 : PySem.W.keepIn K (.ref f14) = true)
    (a15 : PySem.W.nsIn K mainGlobals "_law_first" = some (some (.ref f15))) (l15 : K.lookup f15 = some ⟨oc15, od15, .func (PySem.W.fnOf "_law_first" "_law_first" (defArgs s_law_first) (defBody s_law_first) (defScope s_law_first) .none kV15 dc15 pm15 an15 cd15 ct15), sl15⟩) (c15 : PySem.W.codeIn K cd15 "_law_first" = true) (k15 : PySem.W.keepIn K (.ref f15) = true)
    (a16 : PySem.W.nsIn K mainGlobals "_law_numbers" = some (some (.ref f16))) (l16 : K.lookup f16 = some ⟨oc16, od16, .func (PySem.W.fnOf "_law_numbers" "_law_numbers" (defArgs s_law_numbers) (defBody s_law_numbers) (defScope s_law_numbers) .none kV16 dc16 pm16 an16 cd16 ct16), sl16⟩) (c16 : PySem.W.codeIn K cd16 "_law_numbers" = true) (k16 : PySem.W.keepIn K (.ref f16) = true)
    (a17 : PySem.W.nsIn K mainGlobals "law" = some (some (.ref f17))) (l17 : K.lookup f17 = some ⟨oc17, od17, .func (PySem.W.fnOf "law" "law" (defArgs slaw) (defBody slaw) (defScope slaw) .none kV17 dc17 pm17 an17 cd17 ct17), sl17⟩) (c17 : PySem.W.codeIn K cd17 "law" = true) (k17 : PySem.W.keepIn K (.ref f17) = true)
    (hz : ∀ x : Str, bnames.contains x = true → PySem.W.nsIn K mainGlobals x = some none) :
    ∃ fd : FuncData, (∀ (s : Shared) (v : Value), BindsTo s fd ⟨[v], []⟩ [("script", v)]) ∧ ∀ base : Heap, K.In base → base.Ns mainGlobals mg → FnG l.prog w K mg base 5 fa fd ["script"] (splaw K) := by
  have e := hfa.symm.trans (PySem.W.mg_of X G a17)
  cases e
  have nb : NB mg bnames := fun x hx => PySem.W.mg_none_of X G (hz x hx)
  have F0 := fun_mk (st := sfits_rule) l0 c0 k0
  have b0 := F0.binds (ps := ["rule", "number"]) fun _ _ _ _ _ _ us hl => match us, hl with | [_, _], _ => rfl
  have F1 := fun_mk (st := sbroken) l1 c1 k1
  have b1 := F1.binds (ps := ["scale", "number"]) fun _ _ _ _ _ _ us hl => match us, hl with | [_, _], _ => rfl
  have F2 := fun_mk (st := sfits) l2 c2 k2
  have b2 := F2.binds (ps := ["scale", "number"]) fun _ _ _ _ _ _ us hl => match us, hl with | [_, _], _ => rfl
  have F3 := fun_mk (st := s_law_deck) l3 c3 k3
  have b3 := F3.binds (ps := ["script"]) fun _ _ _ _ _ _ us hl => match us, hl with | [_], _ => rfl
  have F4 := fun_mk (st := s_law_draw) l4 c4 k4
  have b4 := F4.binds (ps := ["deck", "many"]) fun _ _ _ _ _ _ us hl => match us, hl with | [_, _], _ => rfl
  have F5 := fun_mk (st := s_law_pick) l5 c5 k5
  have b5 := F5.binds (ps := ["deck", "items"]) fun _ _ _ _ _ _ us hl => match us, hl with | [_, _], _ => rfl
  have F6 := fun_mk (st := s_law_mixed) l6 c6 k6
  have b6 := F6.binds (ps := ["deck", "items"]) fun _ _ _ _ _ _ us hl => match us, hl with | [_, _], _ => rfl
  have F7 := fun_mk (st := s_law_divisor) l7 c7 k7
  have b7 := F7.binds (ps := ["one", "other"]) fun _ _ _ _ _ _ us hl => match us, hl with | [_, _], _ => rfl
  have F8 := fun_mk (st := s_law_multiple) l8 c8 k8
  have b8 := F8.binds (ps := ["steps"]) fun _ _ _ _ _ _ us hl => match us, hl with | [_], _ => rfl
  have F9 := fun_mk (st := s_law_fits) l9 c9 k9
  have b9 := F9.binds (ps := ["scale", "number"]) fun _ _ _ _ _ _ us hl => match us, hl with | [_, _], _ => rfl
  have F10 := fun_mk (st := s_law_raised) l10 c10 k10
  have b10 := F10.binds (ps := ["base", "times"]) fun _ _ _ _ _ _ us hl => match us, hl with | [_, _], _ => rfl
  have F11 := fun_mk (st := s_law_step) l11 c11 k11
  have b11 := F11.binds (ps := ["deck", "kinds"]) fun _ _ _ _ _ _ us hl => match us, hl with | [_, _], _ => rfl
  have F12 := fun_mk (st := s_law_kinds) l12 c12 k12
  have b12 := F12.binds (ps := ["deck"]) fun _ _ _ _ _ _ us hl => match us, hl with | [_], _ => rfl
  have F13 := fun_mk (st := s_law_great) l13 c13 k13
  have b13 := F13.binds (ps := ["deck", "most"]) fun _ _ _ _ _ _ us hl => match us, hl with | [_, _], _ => rfl
  have F14 := fun_mk (st := s_law_small) l14 c14 k14
  have b14 := F14.binds (ps := ["deck", "most", "top"]) fun _ _ _ _ _ _ us hl => match us, hl with | [_, _, _], _ => rfl
  have F15 := fun_mk (st := s_law_first) l15 c15 k15
  have b15 := F15.binds (ps := ["scale", "number"]) fun _ _ _ _ _ _ us hl => match us, hl with | [_, _], _ => rfl
  have F16 := fun_mk (st := s_law_numbers) l16 c16 k16
  have b16 := F16.binds (ps := ["deck", "scale"]) fun _ _ _ _ _ _ us hl => match us, hl with | [_, _], _ => rfl
  have F17 := fun_mk (st := slaw) l17 c17 k17
  refine ⟨PySem.W.fnOf "law" "law" (defArgs slaw) (defBody slaw) (defScope slaw) .none kV17 dc17 pm17 an17 cd17 ct17, fun s v => .of_eq rfl, fun base _ _ => ?_⟩
  have D_law_deck : Fd l.prog w K mg base "_law_deck" 1 ["script"] (sp_law_deck K) := .mk' F3 (ok_law_deck F3 nb   ) (PySem.W.mg_of X G a3) b3
  have D_law_draw : Fd l.prog w K mg base "_law_draw" 1 ["deck", "many"] (sp_law_draw K) := .mk' F4 (ok_law_draw F4 nb   ) (PySem.W.mg_of X G a4) b4
  have D_law_fits : Fd l.prog w K mg base "_law_fits" 1 ["scale", "number"] (sp_law_fits K) := .mk' F9 (ok_law_fits F9 nb   ) (PySem.W.mg_of X G a9) b9
  have D_law_first : Fd l.prog w K mg base "_law_first" 2 ["scale", "number"] (sp_law_first K) := .mk' F15 (ok_law_first F15 nb D_law_fits  ) (PySem.W.mg_of X G a15) b15
  have D_law_pick : Fd l.prog w K mg base "_law_pick" 2 ["deck", "items"] (sp_law_pick K) := .mk' F5 (ok_law_pick F5 nb D_law_draw  ) (PySem.W.mg_of X G a5) b5
  have D_law_kinds : Fd l.prog w K mg base "_law_kinds" 3 ["deck"] (sp_law_kinds K) := .mk' F12 (ok_law_kinds F12 nb D_law_pick  ) (PySem.W.mg_of X G a12) b12
  have D_law_mixed : Fd l.prog w K mg base "_law_mixed" 2 ["deck", "items"] (sp_law_mixed K) := .mk' F6 (ok_law_mixed F6 nb D_law_draw  ) (PySem.W.mg_of X G a6) b6
  have D_law_raised : Fd l.prog w K mg base "_law_raised" 1 ["base", "times"] (sp_law_raised K) := .mk' F10 (ok_law_raised F10 nb   ) (PySem.W.mg_of X G a10) b10
  have D_law_step : Fd l.prog w K mg base "_law_step" 3 ["deck", "kinds"] (sp_law_step K) := .mk' F11 (ok_law_step F11 nb D_law_draw D_law_pick D_law_raised  ) (PySem.W.mg_of X G a11) b11
  have D_law_great : Fd l.prog w K mg base "_law_great" 4 ["deck", "most"] (sp_law_great K) := .mk' F13 (ok_law_great F13 nb D_law_draw D_law_kinds D_law_mixed D_law_pick D_law_step  ) (PySem.W.mg_of X G a13) b13
  have D_law_divisor : Fd l.prog w K mg base "_law_divisor" 1 ["one", "other"] (sp_law_divisor K) := .mk' F7 (ok_law_divisor F7 nb   ) (PySem.W.mg_of X G a7) b7
  have D_law_multiple : Fd l.prog w K mg base "_law_multiple" 2 ["steps"] (sp_law_multiple K) := .mk' F8 (ok_law_multiple F8 nb D_law_divisor  ) (PySem.W.mg_of X G a8) b8
  have D_law_numbers : Fd l.prog w K mg base "_law_numbers" 3 ["deck", "scale"] (sp_law_numbers K) := .mk' F16 (ok_law_numbers F16 nb D_law_draw D_law_multiple D_law_pick  ) (PySem.W.mg_of X G a16) b16
  have D_law_small : Fd l.prog w K mg base "_law_small" 3 ["deck", "most", "top"] (sp_law_small K) := .mk' F14 (ok_law_small F14 nb D_law_draw D_law_pick  ) (PySem.W.mg_of X G a14) b14
  have Dfits_rule : Fd l.prog w K mg base "fits_rule" 1 ["rule", "number"] (spfits_rule K) := .mk' F0 (okfits_rule F0 nb   ) (PySem.W.mg_of X G a0) b0
  have Dbroken : Fd l.prog w K mg base "broken" 2 ["scale", "number"] (spbroken K) := .mk' F1 (okbroken F1 nb Dfits_rule  ) (PySem.W.mg_of X G a1) b1
  have Ebroken : Fk l.prog w K mg base "broken" 2 ["scale", "number"] ["number", "scale"] (fun zs => zs.reverse) (spbroken K) := ⟨_, _, _, okbroken F1 nb Dfits_rule  , PySem.W.mg_of X G a1, F1.kp, F1.kb fun _ _ _ _ _ _ us hl => match us, hl with | [_, _], _ => rfl⟩
  have Dfits : Fd l.prog w K mg base "fits" 3 ["scale", "number"] (spfits K) := .mk' F2 (okfits F2 nb Dbroken  ) (PySem.W.mg_of X G a2) b2
  have Efits : Fk l.prog w K mg base "fits" 3 ["scale", "number"] ["number", "scale"] (fun zs => zs.reverse) (spfits K) := ⟨_, _, _, okfits F2 nb Dbroken  , PySem.W.mg_of X G a2, F2.kp, F2.kb fun _ _ _ _ _ _ us hl => match us, hl with | [_, _], _ => rfl⟩
  exact oklaw F17 nb D_law_deck D_law_draw D_law_first D_law_fits D_law_great D_law_mixed D_law_numbers D_law_small Dbroken Dfits Ebroken Efits 
end K02
open PySem PySem.W PyProof.Rows
set_option maxRecDepth 100000 in
set_option maxHeartbeats 0 in
theorem PySem.Challenge.cw_everyexact_k02_whole_what_fits_holds : PySem.Challenge.rw_everyexact_k02_whole_what_fits.Holds := by
  w_on; o_law; k_head; (case hw => w_witness2)
  k_fill
  refine EE.walk_ofG (l := PySem.Challenge.rw_everyexact_k02_whole_what_fits) (n := 63) (k := 5) (x := "script") (sp := K02.splaw) rfl (by decide) rfl ⟨rfl, by decide, by decide⟩ (fun w h Y => PySem.W.kIn_of Y) ?F (fun K H a ns hl _ hS => ⟨a, ns, rfl, hS, hl, fun _ => rfl⟩)
  case F =>
    intro w mg fa h KX G hmg
    refine' K02.all_mk KX G hmg ?a0 ?l0 ?c0 ?k0 ?a1 ?l1 ?c1 ?k1 ?a2 ?l2 ?c2 ?k2 ?a3 ?l3 ?c3 ?k3 ?a4 ?l4 ?c4 ?k4 ?a5 ?l5 ?c5 ?k5 ?a6 ?l6 ?c6 ?k6 ?a7 ?l7 ?c7 ?k7 ?a8 ?l8 ?c8 ?k8 ?a9 ?l9 ?c9 ?k9 ?a10 ?l10 ?c10 ?k10 ?a11 ?l11 ?c11 ?k11 ?a12 ?l12 ?c12 ?k12 ?a13 ?l13 ?c13 ?k13 ?a14 ?l14 ?c14 ?k14 ?a15 ?l15 ?c15 ?k15 ?a16 ?l16 ?c16 ?k16 ?a17 ?l17 ?c17 ?k17   ?hz
    (case a0 => k_is); (case l0 => k_is); (case c0 => k_is); (case k0 => k_is)
    (case a1 => k_is); (case l1 => k_is); (case c1 => k_is); (case k1 => k_is)
    (case a2 => k_is); (case l2 => k_is); (case c2 => k_is); (case k2 => k_is)
    (case a3 => k_is); (case l3 => k_is); (case c3 => k_is); (case k3 => k_is)
    (case a4 => k_is); (case l4 => k_is); (case c4 => k_is); (case k4 => k_is)
    (case a5 => k_is); (case l5 => k_is); (case c5 => k_is); (case k5 => k_is)
    (case a6 => k_is); (case l6 => k_is); (case c6 => k_is); (case k6 => k_is)
    (case a7 => k_is); (case l7 => k_is); (case c7 => k_is); (case k7 => k_is)
    (case a8 => k_is); (case l8 => k_is); (case c8 => k_is); (case k8 => k_is)
    (case a9 => k_is); (case l9 => k_is); (case c9 => k_is); (case k9 => k_is)
    (case a10 => k_is); (case l10 => k_is); (case c10 => k_is); (case k10 => k_is)
    (case a11 => k_is); (case l11 => k_is); (case c11 => k_is); (case k11 => k_is)
    (case a12 => k_is); (case l12 => k_is); (case c12 => k_is); (case k12 => k_is)
    (case a13 => k_is); (case l13 => k_is); (case c13 => k_is); (case k13 => k_is)
    (case a14 => k_is); (case l14 => k_is); (case c14 => k_is); (case k14 => k_is)
    (case a15 => k_is); (case l15 => k_is); (case c15 => k_is); (case k15 => k_is)
    (case a16 => k_is); (case l16 => k_is); (case c16 => k_is); (case k16 => k_is)
    (case a17 => k_is); (case l17 => k_is); (case c17 => k_is); (case k17 => k_is)
    case hz =>
      intro x hx
      simp only [EE.bnames, List.contains_cons, List.contains_nil, Bool.or_false, Bool.or_eq_true, beq_iff_eq] at hx
      rcases hx with rfl | rfl | rfl | rfl | rfl | rfl | rfl | rfl | rfl | rfl | rfl | rfl | rfl | rfl | rfl | rfl | rfl | rfl | rfl | rfl <;> k_is
