import PyProof.Rows.All
import Wide.All
import OpenK.AllK
import Wide.FinOn
import HandS.ForMost
import HandS.Wide
import HandS.TupAny
import HandS.Style
import HandS.Walk
import HandS.Flow
import HandS.Zip
import HandS.IsInst
import KE.GoesEnum
import HandS.WideBits
import HandS.More
import HandS.Evl
import PyProof.ReprLen
import PyProof.Rows.StrJoinMade
import HandS.Conv
import HandS.Exc
import HandS.ExcOwn
import HandS.ExcIs
import HandS.CallLocal
import HandS.RaiseMore
import HandS.WordsExc
import HandS.Gcd
import KE.KMathGC
import HandS.SortRule
import HandS.SetFor
import HandS.Strs
import HandS.SortInts
import HandS.TryOnly
import HandS.TupMul
import PyProof.Rows.Digits
import KE.KRevSl
import HandS.Dict
import KE.KDictZip
import PySem.Challenge.RW_everyexact_k49_whole_products_exactly_by
set_option Elab.async false
set_option linter.all false
set_option maxRecDepth 100000
set_option maxHeartbeats 8000000
namespace EE
open PySem PySem.Spec PyProof.Rows L2

/-! ### data in the heap -/
theorem Same.sqT {K : PySem.W.Frag} {H H' : Hp} {a : Addr} {xs : List V} (e : Same H H') (h : SqT K H a xs) : SqT K H' a xs := by
  rcases h with (h | ⟨o, h⟩) | h
  · exact Or.inl (Or.inl (e a _ h))
  · exact Or.inl (Or.inr ⟨o, e a _ h⟩)
  · exact Or.inr h
mutual
theorem dp_up {K : PySem.W.Frag} {H H' : Hp} (e : Same H H') : ∀ {d : PyData} {v : V}, Dp K H v d → Dp K H' v d
  | .none, _, h => by cases h; exact .non
  | .bool b, _, h => by cases h; exact .bl b
  | .int i, _, h => by cases h; exact .int i
  | .str x, _, h => by cases h; exact .str x
  | .list ds, _, h => by
    cases h with
    | lst hs ha => exact .lst (e.seq hs) (dps_up e ha)
  | .tuple ds, _, h => by
    cases h with
    | tup hs ha => exact .tup (Same.sqT e hs) (dps_up e ha)
  | .dict _, _, h => by cases h
theorem dps_up {K : PySem.W.Frag} {H H' : Hp} (e : Same H H') : ∀ {ds : List PyData} {vs : List V}, DpAll K H vs ds → DpAll K H' vs ds
  | [], _, h => by cases h; exact .nil
  | d :: ds, _, h => by
    cases h with
    | cons h1 h2 => exact .cons (dp_up e h1) (dps_up e h2)
end
theorem dps_len {K : PySem.W.Frag} {H : Hp} : ∀ {ds : List PyData} {vs : List V}, DpAll K H vs ds → vs.length = ds.length
  | [], _, h => by cases h; rfl
  | d :: ds, _, h => by
    cases h with
    | cons h1 h2 => rw [List.length_cons, List.length_cons, dps_len h2]
theorem dps_at {K : PySem.W.Frag} {H : Hp} : ∀ {ds : List PyData} {vs : List V} {i : Nat} {d : PyData}, DpAll K H vs ds → ds[i]? = some d → ∃ v, vs[i]? = some v ∧ Dp K H v d
  | [], _, i, _, h, e => by simp at e
  | d :: ds, _, 0, d', h, e => by
    cases h with
    | cons h1 h2 =>
      have : d = d' := by simpa using e
      subst this
      exact ⟨_, rfl, h1⟩
  | d :: ds, _, i + 1, d', h, e => by
    cases h with
    | cons h1 h2 =>
      obtain ⟨v, h3, h4⟩ := dps_at (i := i) (d := d') h2 (by simpa using e)
      exact ⟨v, by simpa using h3, h4⟩
theorem dps_at' {K : PySem.W.Frag} {H : Hp} {ds : List PyData} {vs : List V} {i : Nat} {v : V} (h : DpAll K H vs ds) (e : vs[i]? = some v) : ∃ d, ds[i]? = some d ∧ Dp K H v d := by
  have hl := dps_len h
  obtain ⟨hi, _⟩ := List.getElem?_eq_some_iff.mp e
  have hd : ds[i]? = some (ds[i]'(by omega)) := List.getElem?_eq_getElem _
  obtain ⟨v', h1, h2⟩ := dps_at h hd
  rw [e] at h1
  cases h1
  exact ⟨_, hd, h2⟩
theorem dps_app {K : PySem.W.Frag} {H : Hp} : ∀ {ds es : List PyData} {vs us : List V}, DpAll K H vs ds → DpAll K H us es → DpAll K H (vs ++ us) (ds ++ es)
  | [], _, _, _, h, k => by cases h; exact k
  | d :: ds, _, _, _, h, k => by
    cases h with
    | cons h1 h2 => exact .cons h1 (dps_app h2 k)
theorem dps_erase {K : PySem.W.Frag} {H : Hp} : ∀ {ds : List PyData} {vs : List V} (i : Nat), DpAll K H vs ds → DpAll K H (vs.eraseIdx i) (ds.eraseIdx i)
  | [], _, _, h => by cases h; exact .nil
  | d :: ds, _, 0, h => by
    cases h with
    | cons h1 h2 => exact h2
  | d :: ds, _, i + 1, h => by
    cases h with
    | cons h1 h2 => exact .cons h1 (dps_erase i h2)
theorem dps_set {K : PySem.W.Frag} {H : Hp} {w : V} {e : PyData} (k : Dp K H w e) : ∀ {ds : List PyData} {vs : List V} (i : Nat), DpAll K H vs ds → DpAll K H (vs.set i w) (ds.set i e)
  | [], _, _, h => by cases h; exact .nil
  | d :: ds, _, 0, h => by
    cases h with
    | cons h1 h2 => exact .cons k h2
  | d :: ds, _, i + 1, h => by
    cases h with
    | cons h1 h2 => exact .cons h1 (dps_set k i h2)
theorem dps_take {K : PySem.W.Frag} {H : Hp} : ∀ {ds : List PyData} {vs : List V} (i : Nat), DpAll K H vs ds → DpAll K H (vs.take i) (ds.take i)
  | _, _, 0, h => .nil
  | [], _, _ + 1, h => by cases h; exact .nil
  | d :: ds, _, i + 1, h => by
    cases h with
    | cons h1 h2 => exact .cons h1 (dps_take i h2)
theorem dps_drop {K : PySem.W.Frag} {H : Hp} : ∀ {ds : List PyData} {vs : List V} (i : Nat), DpAll K H vs ds → DpAll K H (vs.drop i) (ds.drop i)
  | _, _, 0, h => h
  | [], _, _ + 1, h => by cases h; exact .nil
  | d :: ds, _, i + 1, h => by
    cases h with
    | cons h1 h2 => exact dps_drop i h2
theorem dps_ints {K : PySem.W.Frag} {H : Hp} : ∀ {ns : List Int} {vs : List V}, DpAll K H vs (ns.map PyData.int) → vs = ns.map V.int
  | [], _, h => by cases h; rfl
  | n :: ns, _, h => by
    cases h with
    | cons h1 h2 =>
      cases h1
      rw [dps_ints h2]
      rfl
theorem dps_of_ints {K : PySem.W.Frag} {H : Hp} : ∀ (ns : List Int), DpAll K H (ns.map V.int) (ns.map PyData.int)
  | [] => .nil
  | n :: ns => .cons (.int n) (dps_of_ints ns)
theorem dps_bls {K : PySem.W.Frag} {H : Hp} : ∀ {ns : List Bool} {vs : List V}, DpAll K H vs (ns.map PyData.bool) → vs = ns.map V.bl
  | [], _, h => by cases h; rfl
  | n :: ns, _, h => by
    cases h with
    | cons h1 h2 =>
      cases h1
      rw [dps_bls h2]
      rfl

/-! ### repr of data -/
def rRepr (K : PySem.W.Frag) : List V → Hp → VK → Prop := fun vs H Q => ∃ a d, vs = [.ref a] ∧ Dp K H (.ref a) d ∧ d.showable = true ∧ d.depth ≤ 60 ∧ d.shown.length ≤ sizeLine ∧ Q (.str d.shown) H
mutual
theorem dp_noDict {K : PySem.W.Frag} {H : Hp} : ∀ {d : PyData} {v : V}, Dp K H v d → d.hasDict = false
  | .none, _, _ => by simp only [PyData.hasDict]
  | .bool _, _, _ => by simp only [PyData.hasDict]
  | .int _, _, _ => by simp only [PyData.hasDict]
  | .str _, _, _ => by simp only [PyData.hasDict]
  | .list ds, _, h => by
    cases h with
    | lst _ ha => simp only [PyData.hasDict]; exact dps_noDict ha
  | .tuple ds, _, h => by
    cases h with
    | tup _ ha => simp only [PyData.hasDict]; exact dps_noDict ha
  | .dict _, _, h => by cases h
theorem dps_noDict {K : PySem.W.Frag} {H : Hp} : ∀ {ds : List PyData} {vs : List V}, DpAll K H vs ds → PyData.hasDictAll ds = false
  | [], _, _ => by simp only [PyData.hasDictAll]
  | d :: ds, _, h => by
    cases h with
    | cons h1 h2 => simp only [PyData.hasDictAll, dp_noDict h1, dps_noDict h2, Bool.or_false]
end

section
variable {X : Cx}
theorem call_repr (hg : X.A.guards = some []) (hu : X.A.units + 64 < cLine) : CallR X (.builtin "repr") (rRepr X.K) := by
  intro pins s σ H xs us Q I r h
  obtain ⟨a, d, rfl, hd, hs, hdp, hz, q⟩ := h
  obtain ⟨u, rfl, ru⟩ := vals1 r
  obtain ⟨as, rd⟩ := Dp.reads I d (.ref a) u hd ru
  cases ru
  exact repr_of_reads' rd hs (PyData.noDict_hsm (dp_noDict hd)) hg (by omega) (fun _ _ e => e) (fun h' u tk k => ⟨.str d.shown, H, I.kept k, ⟨_, rfl⟩, q⟩) hz
/-! ### enumerate of a tuple -/
theorem meets_enumNew1 {v : Value} {o : Obj} {G : Heap → Prop} (B : Begins v o G) :
    Meets (Builtin.«enumerate.__new__» ⟨[.type "enumerate", v], []⟩) (fun _ R s => G s.heap ∧
      R (.ok (.ret (.ref (s.heap.push o).objs.size)))
        { s with heap := (s.heap.push o).push { cls := .type "enumerate", data := .fields #[.none, .bool false, .ref s.heap.objs.size, rawInt 0, .none, .none] } }) :=
  .of_wp fun prog w A R s h => by
    obtain ⟨hp, g, d, tk, os⟩ := s
    obtain ⟨g1, h⟩ := h
    have sub := sub_enumerate
    have its : ∀ {A' : Around} {E : Value → Shared → Prop} {Q : Value → Shared → Prop}, Q (.ref hp.objs.size) ⟨hp.push o, g, d, tk, os⟩ → wpAny (model prog w) A' (pyIter v) Q E ⟨hp, g, d, tk, os⟩ :=
      fun {A' E Q} q => B.iter prog w A' E ⟨hp, g, d, tk, os⟩ Q g1 q
    wp_walk using its
    refine wpAny_stack_any fun st => wpAny_pure ?_
    split
    · rename_i c _ _ _ _ _
      cases (c == Value.type "enumerate") <;> (wp_walk using its; exact ⟨_, rfl, h⟩)
    · wp_walk using its
      exact ⟨_, rfl, h⟩
theorem enum_tuple1 {prog : Program} {w : World} {A : Around} {E : Value → Shared → Prop} {s : Shared} {t : Addr} {items : Array Value} {Q : Value → Shared → Prop} (ht : s.heap.IsTuple t items)
    (h : ∀ h', IsEnum h' (s.heap.objs.size + 1) s.heap.objs.size 0 .none → h'.IsTupleIter s.heap.objs.size t 0 →
      (∀ b o, s.heap.get? b = some o → h'.get? b = some o) → Q (.ref (s.heap.objs.size + 1)) { s with heap := h' }) :
    wpAny (model prog w) A (call (.type "enumerate") [.ref t]) Q E s := by
  have B := begins_tuple t items
  refine callType_new F.called_enumerate (by decide) (F.typeCall_enumerate_1 _) (F.newCall_enumerate_1 _) (fun obj => F.args_object_init_2 obj _) F.entry_enumerate_new (meets_enumNew1 B) ⟨ht, ?_⟩
  generalize ho : ({ cls := .type "tuple_iterator", data := .fields #[.ref t, .int 0 0] } : Obj) = o at B
  have hz : (s.heap.push o).objs.size = s.heap.objs.size + 1 := Heap.size_push ..
  have g2 : ((s.heap.push o).push { cls := .type "enumerate", data := .fields #[.none, .bool false, .ref s.heap.objs.size, rawInt 0, .none, .none] }).get? (s.heap.objs.size + 1)
      = some { cls := .type "enumerate", data := .fields #[.none, .bool false, .ref s.heap.objs.size, rawInt 0, .none, .none] } := by
    rw [← hz]
    exact Heap.get?_push_size _ rfl
  have g1 : ((s.heap.push o).push { cls := .type "enumerate", data := .fields #[.none, .bool false, .ref s.heap.objs.size, rawInt 0, .none, .none] }).get? s.heap.objs.size = some o :=
    Heap.get?_push_of_some _ (Heap.get?_push_size _ B.free)
  show _ ∧ _
  rw [hz]
  subst ho
  exact ⟨⟨_, g2, rfl⟩, h _ g2 ⟨_, g1, rfl, rfl⟩ fun b ob e => Heap.get?_push_of_some _ (Heap.get?_push_of_some _ e)⟩
theorem enumT_end {prog : Program} {w : World} {A : Around} {E : Value → Shared → Prop} {s : Shared} {e it t : Addr} {i : Nat} {items : Array Value} {old : Value} {Q : Option Value → Shared → Prop} (hh : A.handled = none)
    (he : IsEnum s.heap e it ((i : Nat) : Int) old) (hit : s.heap.IsTupleIter it t i) (ht : s.heap.IsTuple t items) (hx : items[i]? = none)
    (h : ∀ h', Heap.ExtBut it s.heap h' → Q none { s with heap := h' }) : wpAny (model prog w) A (pyNext (.ref e)) Q E s := by
  have hT : s.TypeIs (.ref e) "enumerate" := ⟨_, he, rfl⟩
  unfold pyNext
  refine wpAny_bind (wpAny_attempt (wpAny_callSpecial?_slot (name := Str.ofString "__next__") hT F.slot_enumerate_next (wpAny_call_entry F.slot_enumerate_next hT F.entry_enumerate_next ?_ (F.args_enumerate_next_1 _))))
  show wpAny _ _ (field (.ref e) 2 >>= _) _ _ _
  refine wpAny_bind (wpAny_field he rfl (x := .ref it) rfl ?_)
  refine wpAny_bind (wpAny_nextOf_tuple_end (A := A.in1) hh hit ht hx fun h' x he' hx' => ?_)
  obtain ⟨o, ho, hc⟩ := hx'
  exact wpAny_bind (wpAny_isInstance (T := "StopIteration") (b := true) ⟨o, ho, hc⟩ isSubtype_stop (wpAny_pure (h _ he')))
def Itet (K : PySem.W.Frag) (a : Addr) : It where
  go := fun i H => ∃ (xs : List V) (x : V), SqT K H a xs ∧ xs[i]? = some x
  yld := fun i H v H' => ∃ T x, v = .ref T ∧ H T = none ∧ H' = upd H T (.tup [.int (i : Nat), x]) ∧ ∀ xs, SqT K H a xs → xs[i]? = some x
  stop := fun i H => ∃ xs : List V, SqT K H a xs ∧ xs.length ≤ i
theorem turn_enumT {P : Program} {w : World} {K : PySem.W.Frag} {elts : List Expr} {kk : Nat} {tpos : Pos} (a e it : Addr) :
    Turn P w K (.Tuple elts kk tpos) (Itet K a) [e, it] e (fun i h => (∃ old, IsEnum h e it ((i : Nat) : Int) old) ∧ h.IsTupleIter it a i ∧ e ≠ it) where
  mem := List.mem_cons_self ..
  obj := fun i h st b hb => by
    obtain ⟨⟨old, he⟩, ⟨o, ho, hc, hd⟩, _⟩ := st
    simp only [List.mem_cons, List.not_mem_nil, or_false] at hb
    rcases hb with rfl | rfl
    · exact ⟨_, he, fun v q => nomatch q⟩
    · exact ⟨o, ho, fun v q => by rw [hd] at q; cases q⟩
  keep := fun i h h' st k => by
    obtain ⟨⟨old, he⟩, hit, hne⟩ := st
    exact ⟨⟨old, k e (List.mem_cons_self ..) _ he⟩, hit.at fun o q => k it (List.mem_cons_of_mem _ (List.mem_cons_self ..)) o q, hne⟩
  item := by
    intro X hP hw hK hc i pins s σ H E I hf st hg
    subst hP hw hK
    obtain ⟨⟨old, he⟩, hit, hne⟩ := st
    obtain ⟨xs, x, hq, hx⟩ := hg
    obtain ⟨its, rv, p, hz⟩ := I.tuple hq
    have pT : s.heap.IsTuple a its.toArray := p
    have hai : a ≠ it := fun z => by
      obtain ⟨o, ho, hcl, _⟩ := hit
      obtain ⟨o2, ho2, hcl2, _⟩ := p
      rw [z, ho] at ho2
      cases ho2
      rw [hcl] at hcl2
      exact absurd hcl2 (by decide)
    obtain ⟨u, hu, ru⟩ := rv.get hx
    obtain ⟨hi', _⟩ := List.getElem?_eq_some_iff.mp hu
    have D := Draws.tuple (prog := X.prog) (w := X.w) (A := X.A.in1) (I.ok.hd hc) it a hai its.toArray
    have hea : e ≠ a := fun z => by
      obtain ⟨o2, ho2, hcl2, _⟩ := p
      rw [← z, show s.heap.get? e = some _ from he] at ho2
      cases ho2
      have bad : Value.type "enumerate" = Value.type "tuple" := hcl2
      exact absurd bad (by decide)
    have hfp : e ∉ [it, a] := by
      simp only [List.mem_cons, List.not_mem_nil, or_false, not_or]
      exact ⟨hne, hea⟩
    refine wpAny_pyNext_enum_itemD D he ⟨hit, pT⟩ (by simpa using hi') hne hfp fun y h' tk hy ho hst' hT hsz hk => ?_
    have ey : y = u := by
      have : its[i]? = some y := by simpa using hy
      rw [this] at hu
      exact Option.some.inj hu
    subst ey
    refine ⟨_, rfl, wpAny_letOwnedTupleGo_enum (s := { s with heap := h', toks := tk + 1 }) ho fun h2 he2 sb => ?_⟩
    have el : e < s.heap.objs.size := Heap.lt_size he
    have il : it < s.heap.objs.size := by
      obtain ⟨_, q, _⟩ := hit
      exact Heap.lt_size q
    have hT2 : h2.get? s.heap.objs.size = some { cls := .type "tuple", data := .seq #[.int i tk, y] } := (sb.2 _ (Nat.ne_of_gt el)).trans hT
    have new : ObjOk X.prog X.w (upd H s.heap.objs.size (.tup [.int (i : Nat), x])) h2 s.heap.objs.size (.tup [.int (i : Nat), x]) :=
      ⟨by show 2 ≤ sizeLine; decide, _, .cons ⟨tk, rfl⟩ (.cons ru .nil), ⟨_, hT2, rfl, _, rfl⟩⟩
    have I1 := I.turnedNew (h' := h2) (t' := tk + 1) (ch := [e, it]) (fun b ob hb q => by
      simp only [List.mem_cons, List.not_mem_nil, or_false, not_or] at hb
      exact (sb.2 b hb.1).trans (hk b ob hb.1 hb.2 q)) hf (Nat.le_refl _) new
    refine ⟨.ref s.heap.objs.size, _, I1, rfl, ⟨_, x, rfl, I.hok.fresh (Nat.le_refl _), rfl, fun ys hy2 => ?_⟩, ⟨⟨y, ?_⟩, hst'.1.at fun o q => (sb.2 it (Ne.symm hne)).trans q, hne⟩, fun b hb => ?_⟩
    · rw [I.tuple_inj hy2 hq]
      exact hx
    · rw [show ((i + 1 : Nat) : Int) = (i : Int) + 1 by omega]
      exact he2
    · have h0 := (hf b hb).1
      simp only [List.mem_cons, List.not_mem_nil, or_false] at hb
      have nb : b ≠ s.heap.objs.size := by
        rcases hb with z | z
        · rw [z]; exact Nat.ne_of_lt el
        · rw [z]; exact Nat.ne_of_lt il
      rw [upd_ne nb]
      exact h0
  done := by
    intro X hP hw hK hc i pins s σ H E I hf st hg
    subst hP hw hK
    obtain ⟨⟨old, he⟩, hit, hne⟩ := st
    obtain ⟨xs, hq, hx⟩ := hg
    obtain ⟨its, rv, p, hz⟩ := I.tuple hq
    have pT : s.heap.IsTuple a its.toArray := p
    have hai : a ≠ it := fun z => by
      obtain ⟨o, ho, hcl, _⟩ := hit
      obtain ⟨o2, ho2, hcl2, _⟩ := p
      rw [z, ho] at ho2
      cases ho2
      rw [hcl] at hcl2
      exact absurd hcl2 (by decide)
    obtain ⟨f0, f1, f2, f3, f4, f5⟩ := hf it (List.mem_cons_of_mem _ (List.mem_cons_self ..))
    have hl := rv.length
    exact enumT_end (I.ok.hd hc) he hit pT (by simp; omega) fun h' eb => ⟨rfl, I.turned (t' := s.toks) (fun b o hb q => eb b o hb q) f0 f1 f3 f4 f5⟩
  self := fun A i s Q E st h => let ⟨⟨_, he⟩, _⟩ := st; wpAny_pyIter_enum he h
def iEnumT (K : PySem.W.Frag) (ta : TA) : TI := fun σ H R => ta σ H fun vs H1 => ∃ a xs, vs = [.ref a] ∧ SqT K H1 a xs ∧ R (Itet K a) H1
theorem pi_enumT {e : Expr} {ta : TA} {p pos tpos : Pos} {elts : List Expr} {kk : Nat} (hg : Gl X "enumerate") (hm : X.mg "enumerate" = none) (ha : PA X [e] ta) (hs : starEach [e] X.env = [(false, eval e X.env)] := by rfl) :
    PI X (.Tuple elts kk tpos) (.Call (.Name "enumerate" p) [e] [] pos) (iEnumT X.K ta) := by
  refine ⟨fun pins s σ H R I h => ?_⟩
  have arg := ha.run pos pins s σ H _ I h
  refine Call_ (ld_blt I hg hm boot_enumerate (PyProof.Rows.callWith_type1 (thn arg fun us s1 ⟨vs, H1, I1, r1, q1⟩ => ?_) hs rfl))
  obtain ⟨a, xs, ex, hq, q⟩ := q1
  subst ex
  obtain rfl := Vals.ref1 r1
  obtain ⟨its, rv, p', hz⟩ := I1.tuple hq
  refine enum_tuple1 (items := its.toArray) p' fun h' he hit hk => wpAny_pyIter_enum he ?_
  refine ⟨s1.heap.objs.size + 1, [s1.heap.objs.size + 1, s1.heap.objs.size], _, _, H1, rfl, I1.kept (t' := s1.toks) hk, turn_enumT a _ s1.heap.objs.size, ⟨⟨.none, he⟩, hit, Nat.succ_ne_self _⟩, fun b hb => ?_, q⟩
  simp only [List.mem_cons, List.not_mem_nil, or_false] at hb
  have hle : s1.heap.objs.size ≤ b := by
    rcases hb with z | z
    · rw [z]; exact Nat.le_succ _
    · rw [z]; exact Nat.le_refl _
  exact I1.fpOk hle (I1.hok.fresh hle)
theorem walk_enumT {K : PySem.W.Frag} {a : Addr} {xs : List V} : Walk (Itet K a) xs.length (fun H => SqT K H a xs) (YPair (fun i => some (.int (i : Nat))) (fun i => xs[i]?)) := by
  refine ⟨fun i H hi q => ⟨xs, xs[i], q, List.getElem?_eq_getElem hi⟩, fun H q => ⟨xs, q, Nat.le_refl _⟩, fun i H v H' hi q y => ?_⟩
  obtain ⟨T, x, h1, h2, h3, h4⟩ := y
  exact ⟨T, .int (i : Nat), x, h1, h2, h3, rfl, h4 xs q⟩
end
end EE

namespace EE
open PySem PySem.Spec PyProof.Rows L2
/-! ### a def that shows things: it is called where nothing is being shown -/
structure FnG (P : Program) (w : World) (K : PySem.W.Frag) (mg : Str → Option Value) (base : Heap) (k : Nat) (f : Addr) (fd : FuncData) (ps : List Str) (sp : Sp) : Prop where
  len : ∀ vs H Q E, sp vs H Q E → vs.length = ps.length
  run : ∀ (A : Around) (outer : List Env) (s : Shared) (H : Hp) (args : Args) (us : List Value) (vs : List V) (Q : VK) (E : XK), A.guards = some [] → Room k A →
    Env0 P w K mg base A outer s H → BindsTo s fd args (ps.zip us) → Vals vs us → sp vs H Q E → codeAny (model P w) A (.call (.ref f) args) (CR CX0 outer P w H s Q E) s
section
variable {P : Program} {w : World} {K : PySem.W.Frag} {mg : Str → Option Value} {base : Heap}
theorem okG {x qual : Str} {st : Stmt} {f : Addr} {fd : FuncData} {N ps : List Str} {k : Nat} {sp : Sp} (F : Fun K x qual st f fd) (S : FnScope N ps (defScope st)) (len : ∀ vs H Q E, sp vs H Q E → vs.length = ps.length)
    (hb : ∀ (cdv : Value) (A : Around) (outer : List Env) (s : Shared) (H : Hp) (vs : List V) (Q : VK) (E : XK), (A.deeper (envOfC qual (defScope st) s.heap.objs.size f cdv)).guards = some [] →
      Room k (A.deeper (envOfC qual (defScope st) s.heap.objs.size f cdv)) → sp vs H Q E →
      ∃ t, PSs (cxOf CX0 P w K mg base N qual (defScope st) f cdv A outer s H E).nox (defBody st) t ∧ t { nx := fun _ H' => Q .non H', rt := Q } (start N vs) H) : FnG P w K mg base (k + 1) f fd ps sp := by
  obtain ⟨oc, od, kV, doc, pm, an, cdv, ct, osl, rfl, lk, hcd⟩ := F.ex
  constructor
  · exact len
  intro A outer s H args us vs Q E hg hr e0 hbd r hsp
  have KX := e0.mod.kin.keeps (h' := s.heap) fun b o e => (e0.bs b o e).1
  have lim := e0.mod.nolimit.keeps (h' := s.heap) fun b o e => (e0.bs b o e).1
  obtain ⟨t, ht, hq⟩ := hb cdv A outer s H vs Q E hg (hr.deeper _) hsp
  refine codeAny_call_function hr.depth (KX _ _ lk) rfl S.co S.gen rfl (PySem.W.codeRec_of KX hcd) (hbd _ _ _ _ (wpAny_newFunctionEnv_cells S.kind (fun y hy => ?_) fun env he s1 xx => ?_))
  · obtain ⟨n, v⟩ := y
    have hm := (List.of_mem_zip hy).1
    rcases S.par n hm with q | q
    · exact Or.inl q
    · exact Or.inr ⟨q, PySem.W.cellsFrom_some _ _ _ (Or.inl q)⟩
  · subst he
    refine ⟨lim.keeps xx.toInCall.keep, codeAny_func ?_⟩
    have I := inv_start (CX := CX0) (E := E) (cd := cdv) (f := f) (qual := qual) S hr.hd e0 (len _ _ _ _ hsp) r xx
    refine wpAny_mono (ht.nox.run [] s1 (start N vs) H _ I hq) (fun fl s' hs => ?_) fun e s' hs => hs
    cases fl with
    | next =>
      obtain ⟨σ', H', J, q⟩ := hs
      exact ⟨V.non, H', J.os, J.bare, J.base, J.hok, rfl, q⟩
    | brk => obtain ⟨_, _, _, q⟩ := hs; exact q.elim
    | cont => obtain ⟨_, _, _, q⟩ := hs; exact q.elim
    | ret u =>
      obtain ⟨v, σ', H', J, rv, q⟩ := hs
      exact ⟨v, H', J.os, J.bare, J.base, J.hok, rv, q⟩
/-- the end: the law's def, called at the top -/
theorem call_lawG {mb : Str → Option Value} {k : Nat} {fa a : Addr} {fd : FuncData} {x : Str} {sp : Sp} {s₁ : Shared} {vs : List Value} {ns : List Int}
    (KX : K.In s₁.heap) (hns : s₁.heap.Ns mainGlobals mg) (hb : s₁.heap.Ns builtinsNs mb) (hbb : ∀ x : Str, x ≠ "__name__" → mb x = bootBuiltins x) (hlim : s₁.heap.NoLimit) (hg : s₁.gens = #[])
    (ha : s₁.heap.get? a = some { cls := .type "list", data := .seq vs.toArray }) (hi : IntsAre vs ns) (hl : ns.length ≤ sizeLine) (hr : Room k callerA)
    (F : ∀ base : Heap, K.In base → base.Ns mainGlobals mg → FnG P w K mg base k fa fd [x] sp) (hbind : ∀ (s : Shared) (u : Value), BindsTo s fd ⟨[u], []⟩ [(x, u)])
    (hsp : ∀ H : Hp, Only H → SqL K H a (ns.map V.int) → sp [.ref a] H (fun v _ => v = .bl true) fun _ _ _ => False) :
    codeAny (model P w) callerA (.call (.ref fa) ⟨[.ref a], []⟩) (fun r s' => r = .ok (.ret (.bool true)) ∧ OldK s₁.heap s'.heap ∧ s'.os = s₁.os ∧ AllBare s'.gens) s₁ := by
  have rv : Vals (ns.map V.int) vs := vals_of_ints hi
  have lenV := hi.length
  obtain ⟨H, hO, hS, hok, hA, hK⟩ : ∃ H : Hp, Only H ∧ SqL K H a (ns.map V.int) ∧ HOk P w H s₁.heap ∧ (∀ b, H b ≠ none → b = a) ∧ (H a ≠ none → K.lookup a = none) := by
    cases hk : K.lookup a with
    | some o =>
      have e := (KX a o hk).symm.trans ha
      cases e
      refine ⟨fun _ => none, fun _ => Or.inl rfl, Or.inr ⟨_, vs.toArray, _, hk, rfl, rfl, rfl, ?_, ?_⟩, fun b u z => (nomatch z), fun b z => absurd rfl z, fun z => absurd rfl z⟩
      · rw [List.size_toArray, lenV]
        exact hl
      · simpa using rv
    | none =>
      have at_a : (fun b => if b = a then some (HO.frz { cls := .type "list", data := .seq vs.toArray } (.lst (ns.map V.int))) else none : Hp) a = some (HO.frz { cls := .type "list", data := .seq vs.toArray } (.lst (ns.map V.int))) := if_pos rfl
      refine ⟨fun b => if b = a then some (.frz { cls := .type "list", data := .seq vs.toArray } (.lst (ns.map V.int))) else none, fun b => ?_, Or.inl (Or.inr ⟨_, at_a⟩), fun b u z => ?_, fun b z => ?_, fun _ => rfl⟩
      · by_cases e : b = a
        · exact Or.inr ⟨_, _, if_pos e⟩
        · exact Or.inl (if_neg e)
      · by_cases e : b = a
        · subst e
          rw [at_a] at z
          cases z
          refine ⟨ha, ?_, vs, 0, rv, ha⟩
          rw [List.length_map]
          exact hl
        · exact nomatch (if_neg e).symm.trans z
      · exact Decidable.byContradiction fun e => z (if_neg e)
  have hid : ∀ {b : Addr} {o : Obj}, s₁.heap.get? b = some o → H b = none → (hidT s₁.heap H).get? b = some o := fun e n => hidT_get e n
  have noA : ∀ {b : Addr} {o : Obj} {es : Array DictEntry} {ep : Nat}, s₁.heap.get? b = some o → o.data = .dict es ep → H b = none := fun {b o es ep} e d =>
    Decidable.byContradiction fun q => by
      have e' := hA b q
      subst e'
      have eo := ha.symm.trans e
      cases eo
      have d' : Data.seq vs.toArray _ = Data.dict es ep := d
      cases d'
  have nsK : ∀ {b : Addr} {m : Str → Option Value}, s₁.heap.Ns b m → (hidT s₁.heap H).Ns b m := fun n => by
    obtain ⟨o, es, ep, e, d, r⟩ := n
    exact ⟨o, es, ep, hid e (noA e d), d, r⟩
  have hKb : K.In (hidT s₁.heap H) := fun b o e => hid (KX b o e) (Decidable.byContradiction fun q => by
    have e' := hA b q
    subst e'
    rw [hK q] at e
    cases e)
  have e0 : Env0 P w K mg (hidT s₁.heap H) callerA [] s₁ H := by
    refine ⟨rfl, ⟨hKb, nsK hns, ⟨mb, nsK hb, hbb⟩, ?_⟩, fun b o e => of_hidT e, Nat.le_of_eq (hidT_size _ _), trivial, fun b hb => ?_, hok, .of_eq hg⟩
    · obtain ⟨mc, h1, h2⟩ := hlim
      exact ⟨mc, nsK h1, h2⟩
    · exact absurd (show b ∈ ([] : List Addr) from hb) (List.not_mem_nil)
  have run := (F _ hKb (nsK hns)).run callerA [] s₁ H ⟨[.ref a], []⟩ [.ref a] [.ref a] _ _ rfl hr e0 (hbind s₁ (.ref a)) (.cons rfl .nil) (hsp H hO hS)
  refine codeAny_mono run fun r s' h => ?_
  cases r with
  | error e => exact (show False from h).elim
  | ok fl =>
    cases fl with
    | next => exact (show False from h).elim
    | brk => exact (show False from h).elim
    | cont => exact (show False from h).elim
    | ret u =>
      obtain ⟨v, H', os, bare, un, hok', r', q⟩ := h
      obtain rfl : v = .bl true := q
      obtain rfl : u = Value.bool true := r'
      refine ⟨rfl, OldK.of_keep fun b o e => ?_, os, bare⟩
      rcases hO b with z | ⟨ob, xs, z⟩
      · exact un.keep b o e z (by intro y; exact absurd (show b ∈ ([] : List Addr) from y) List.not_mem_nil) List.not_mem_nil
      · have e1 := (hok b _ z).1
        have e2 := (hok' b _ (un.frzs b ob _ z)).1
        rw [e1] at e
        cases e
        exact e2
end
theorem walk_ofG {l : PySem.W.OpenLaw} {n k : Nat} {q : Program} {loose : List Str} {XP : (Str → Option Value) → Heap → Prop} {YP : World → Heap → Prop} {d : DefRec} {K : Params → PySem.W.Frag} {sp : PySem.W.Frag → Sp} {x : Str}
    (hn : l.most = some n) (hn2 : n ≤ sizeLine) (hdf : d.params.defaults = []) (hr : Room k callerA)
    (hY : ∀ (w : World) (h : Heap), YP w h → (K w.params).In h)
    (F : ∀ (w : World) (mg : Str → Option Value) (fa : Addr) (h : Heap), (K w.params).In h → h.Ns mainGlobals mg → mg d.name = some (.ref fa) →
      ∃ fd : FuncData, (∀ (s : Shared) (u : Value), BindsTo s fd ⟨[u], []⟩ [(x, u)]) ∧
        ∀ base : Heap, (K w.params).In base → base.Ns mainGlobals mg → FnG l.prog w (K w.params) mg base k fa fd [x] (sp (K w.params)))
    (hsp : ∀ (K : PySem.W.Frag) (H : Hp) (a : Addr) (ns : List Int), ns.length ≤ n → Only H → SqL K H a (ns.map V.int) → sp K [.ref a] H (fun v _ => v = .bl true) fun _ _ _ => False) :
    PySem.W.WalkO q loose XP YP l.row.toRowW d [] (fun f vs => PySem.call f vs) :=
  Att.attach_call hn hdf fun w s₀ s₁ mg mb fa o pm cd doc a vs ns G Y ho hd hcd hmg hobj hints hlen hg => by
    have KX := hY w _ Y
    obtain ⟨fd, hb, hF⟩ := F w mg fa _ KX G.T.g hmg
    exact call_lawG KX G.T.g G.T.b G.T.builtins G.T.nolimit hg hobj hints (Nat.le_trans hlen hn2) hr hF hb (fun H hO hS => hsp _ H a ns hlen hO hS)
end EE

namespace EE
open PySem PySem.Spec PyProof.Rows L2
abbrev D := PyData
/-! ### what is known of the heap: lists that may change (Γ), things that stay (Δ), the deck -/
/-- the deck's dict of four keys -/
abbrev dk4 (l c : Addr) (st ct : Int) : HO := .dK [(.inr "deep", .ref l), (.inr "cells", .ref c), (.inr "stamp", .int st), (.inr "count", .int ct)]
def DeckOk (H0 : Hp) (l : Addr) (o : HO) (xs : List Int) : Prop := ∃ (c : Addr) (cs : List Int) (st ct : Int), o = dk4 l c st ct ∧ H0 c = some (.lst (cs.map V.int)) ∧ cs ≠ [] ∧ cs.length ≤ 64 ∧ 0 ≤ st ∧ st < 4294967291 ∧
  (∀ x ∈ xs, 0 ≤ x) ∧ xs.length ≤ 64
theorem DeckOk.mono {H0 H1 : Hp} {l : Addr} {o : HO} {xs : List Int} (s : Same H0 H1) (h : DeckOk H0 l o xs) : DeckOk H1 l o xs := by
  obtain ⟨c, cs, st, ct, e, h1, h2⟩ := h
  exact ⟨c, cs, st, ct, e, s _ _ h1, h2⟩
def DeckAt (H0 H : Hp) (d l : Addr) : Prop := ∃ (o : HO) (xs : List Int), H d = some o ∧ H l = some (.lst (xs.map V.int)) ∧ DeckOk H0 l o xs
theorem DeckAt.mono {H0 H1 H : Hp} {d l : Addr} (s : Same H0 H1) (h : DeckAt H0 H d l) : DeckAt H1 H d l := by
  obtain ⟨o, xs, h1, h2, h3⟩ := h
  exact ⟨o, xs, h1, h2, h3.mono s⟩
abbrev Dk := Option (Addr × Addr)
structure StI (K : PySem.W.Frag) (H0 H : Hp) (dk : Dk) (Γ : List (Addr × List D)) (Δ : List (V × D)) : Prop where
  le : Same H0 H
  data : ∀ p ∈ Δ, Dp K H0 p.1 p.2
  lists : ∀ g ∈ Γ, H0 g.1 = none ∧ ∃ vs, H g.1 = some (.lst vs) ∧ DpAll K H0 vs g.2
  nd : (Γ.map (·.1)).Nodup
  deck : ∀ d l, dk = some (d, l) → H0 d = none ∧ H0 l = none ∧ (∀ g ∈ Γ, g.1 ≠ d ∧ g.1 ≠ l) ∧ DeckAt H0 H d l
def St (K : PySem.W.Frag) (H : Hp) (dk : Dk) (Γ : List (Addr × List D)) (Δ : List (V × D)) : Prop := ∃ H0, StI K H0 H dk Γ Δ
/-- a value that is known as a datum -/
inductive Dv (Δ : List (V × D)) : V → D → Prop
  | of {v d} : (v, d) ∈ Δ → Dv Δ v d
  | non : Dv Δ .non .none
  | bl (b : Bool) : Dv Δ (.bl b) (.bool b)
  | int (i : Int) : Dv Δ (.int i) (.int i)
  | str (x : Str) : Dv Δ (.str x) (.str x)
inductive DvAll (Δ : List (V × D)) : List V → List D → Prop
  | nil : DvAll Δ [] []
  | cons {v vs d ds} : Dv Δ v d → DvAll Δ vs ds → DvAll Δ (v :: vs) (d :: ds)
theorem dps_zip {K : PySem.W.Frag} {H : Hp} : ∀ {ds : List D} {vs : List V}, DpAll K H vs ds → ∀ q ∈ vs.zip ds, Dp K H q.1 q.2
  | [], _, h, q, hq => by cases h; cases hq
  | d :: ds, _, h, q, hq => by
    cases h with
    | cons h1 h2 =>
      rcases List.mem_cons.mp (show q ∈ (_, d) :: List.zip _ ds from hq) with rfl | hq
      · exact h1
      · exact dps_zip h2 q hq
theorem dvs_zip_ : ∀ {ds : List D} {vs : List V} {Δ : List (V × D)}, vs.length = ds.length → (∀ q ∈ vs.zip ds, q ∈ Δ) → DvAll Δ vs ds
  | [], [], _, _, _ => .nil
  | [], _ :: _, _, h, _ => by cases h
  | _ :: _, [], _, h, _ => by cases h
  | d :: ds, v :: vs, Δ, h, k => .cons (.of (k _ (List.mem_cons_self ..))) (dvs_zip_ (by simpa using h) fun q hq => k q (List.mem_cons_of_mem _ hq))
theorem dvs_zip {ds : List D} {vs : List V} {Δ : List (V × D)} (h : vs.length = ds.length) : DvAll (vs.zip ds ++ Δ) vs ds := dvs_zip_ h fun q hq => List.mem_append_left _ hq
section
variable {K : PySem.W.Frag} {H0 H H' : Hp} {dk : Dk} {Γ Γ' : List (Addr × List D)} {Δ Δ' : List (V × D)} {v : V} {d : D} {vs : List V} {ds : List D} {p a l : Addr}
theorem Dv.sub (s : ∀ x ∈ Δ, x ∈ Δ') (h : Dv Δ v d) : Dv Δ' v d := by
  cases h with
  | of m => exact .of (s _ m)
  | non => exact .non
  | bl b => exact .bl b
  | int i => exact .int i
  | str x => exact .str x
theorem DvAll.sub (s : ∀ x ∈ Δ, x ∈ Δ') : ∀ {vs : List V} {ds : List D}, DvAll Δ vs ds → DvAll Δ' vs ds
  | _, _, .nil => .nil
  | _, _, .cons h t => .cons (h.sub s) (DvAll.sub s t)
theorem Dv.dp (hd : ∀ p ∈ Δ, Dp K H0 p.1 p.2) (h : Dv Δ v d) : Dp K H0 v d := by
  cases h with
  | of m => exact hd _ m
  | non => exact .non
  | bl b => exact .bl b
  | int i => exact .int i
  | str x => exact .str x
theorem DvAll.dp (hd : ∀ p ∈ Δ, Dp K H0 p.1 p.2) : ∀ {vs : List V} {ds : List D}, DvAll Δ vs ds → DpAll K H0 vs ds
  | _, _, .nil => .nil
  | _, _, .cons h t => .cons (h.dp hd) (DvAll.dp hd t)
theorem DvAll.len : ∀ {vs : List V} {ds : List D}, DvAll Δ vs ds → vs.length = ds.length
  | _, _, .nil => rfl
  | _, _, .cons _ t => by rw [List.length_cons, List.length_cons, t.len]
theorem St.dp (h : St K H dk Γ Δ) (k : Dv Δ v d) : Dp K H v d := by
  obtain ⟨H0, I⟩ := h
  exact dp_up I.le (k.dp I.data)
theorem St.weaken (h : St K H dk Γ Δ) (s : ∀ x ∈ Δ', x ∈ Δ) : St K H dk Γ Δ' := by
  obtain ⟨H0, I⟩ := h
  exact ⟨H0, I.le, fun p hp => I.data p (s p hp), I.lists, I.nd, I.deck⟩
theorem St.ints (h : St K H dk Γ Δ) (k : ∀ x ∈ Δ', Dv Δ x.1 x.2) : St K H dk Γ (Δ' ++ Δ) := by
  obtain ⟨H0, I⟩ := h
  refine ⟨H0, I.le, fun p hp => ?_, I.lists, I.nd, I.deck⟩
  rcases List.mem_append.mp hp with hp | hp
  · exact (k p hp).dp I.data
  · exact I.data p hp
theorem St.also (h : St K H dk Γ Δ) (k : Dv Δ v d) : St K H dk Γ ((v, d) :: Δ) := h.ints (Δ' := [(v, d)]) fun x hx => by
  rw [List.mem_singleton.mp hx]
  exact k
/-- a new thing that stays -/
theorem St.new_ (h : St K H dk Γ Δ) (hp : H p = none) {o : HO} (hd : ∀ H0 : Hp, H0 p = some o → (∀ q ∈ Δ, Dp K H0 q.1 q.2) → Dp K H0 (.ref p) d) : St K (upd H p o) dk Γ ((.ref p, d) :: Δ) := by
  obtain ⟨H0, I⟩ := h
  have h0 : H0 p = none := I.le.free hp
  have s1 : Same H0 (upd H0 p o) := fun b u e => by rw [upd_ne (ne_of_none e h0)]; exact e
  have s2 : Same (upd H0 p o) (upd H p o) := fun b u e => by
    by_cases hb : b = p
    · subst hb; rw [upd_same] at e ⊢; exact e
    · rw [upd_ne hb] at e ⊢; exact I.le b u e
  have old : ∀ q ∈ Δ, Dp K (upd H0 p o) q.1 q.2 := fun q hq => dp_up s1 (I.data q hq)
  refine ⟨upd H0 p o, s2, fun q hq => ?_, fun g hg => ?_, I.nd, fun d l e => ?_⟩
  · rcases List.mem_cons.mp hq with rfl | hq
    · exact hd _ upd_same old
    · exact old q hq
  · obtain ⟨g0, vs, g1, g2⟩ := I.lists g hg
    have ne : g.1 ≠ p := ne_of_none g1 hp
    rw [upd_ne ne, upd_ne ne]
    exact ⟨g0, vs, g1, dps_up s1 g2⟩
  · obtain ⟨a1, a2, a3, s, xs, b1, b2, b3⟩ := I.deck d l e
    have n1 := ne_of_none b1 hp
    have n2 := ne_of_none b2 hp
    rw [upd_ne n1, upd_ne n2]
    refine ⟨a1, a2, a3, s, xs, ?_, ?_, b3.mono s1⟩
    · rw [upd_ne n1]; exact b1
    · rw [upd_ne n2]; exact b2
theorem St.tup (h : St K H dk Γ Δ) (hp : H p = none) (k : DvAll Δ vs ds) : St K (upd H p (.tup vs)) dk Γ ((.ref p, .tuple ds) :: Δ) := h.new_ hp fun H0 e q => .tup (SqT.of e) (k.dp q)
theorem St.lst (h : St K H dk Γ Δ) (hp : H p = none) (k : DvAll Δ vs ds) : St K (upd H p (.lst vs)) dk Γ ((.ref p, .list ds) :: Δ) := h.new_ hp fun H0 e q => .lst (SqL.of e) (k.dp q)
/-- a new list that may change -/
theorem St.make_ (h : St K H dk Γ Δ) (hp : H p = none) (k : ∀ H0, StI K H0 H dk Γ Δ → DpAll K H0 vs ds) : St K (upd H p (.lst vs)) dk ((p, ds) :: Γ) Δ := by
  obtain ⟨H0, I⟩ := h
  have h0 : H0 p = none := I.le.free hp
  refine ⟨H0, fun b u e => ?_, I.data, fun g hg => ?_, ?_, fun d l e => ?_⟩
  · rw [upd_ne (ne_of_none (I.le b u e) hp)]
    exact I.le b u e
  · rcases List.mem_cons.mp hg with rfl | hg
    · exact ⟨h0, vs, upd_same, k H0 I⟩
    · obtain ⟨g0, vs', g1, g2⟩ := I.lists g hg
      exact ⟨g0, vs', by rw [upd_ne (ne_of_none g1 hp)]; exact g1, g2⟩
  · rw [List.map_cons, List.nodup_cons]
    refine ⟨fun hm => ?_, I.nd⟩
    obtain ⟨g, hg, e⟩ := List.mem_map.mp hm
    obtain ⟨_, _, g1, _⟩ := I.lists g hg
    exact ne_of_none g1 hp e
  · obtain ⟨a1, a2, a3, s, xs, b1, b2, b3⟩ := I.deck d l e
    have n1 := ne_of_none b1 hp
    have n2 := ne_of_none b2 hp
    refine ⟨a1, a2, fun g hg => ?_, s, xs, ?_, ?_, b3⟩
    · rcases List.mem_cons.mp hg with rfl | hg
      · exact ⟨n1.symm, n2.symm⟩
      · exact a3 g hg
    · rw [upd_ne n1]; exact b1
    · rw [upd_ne n2]; exact b2
theorem St.make (h : St K H dk Γ Δ) (hp : H p = none) (k : DvAll Δ vs ds) : St K (upd H p (.lst vs)) dk ((p, ds) :: Γ) Δ := h.make_ hp fun H0 I => k.dp I.data
/-- what changes no more -/
theorem St.freeze (h : St K H dk ((p, ds) :: Γ) Δ) : St K H dk Γ ((.ref p, .list ds) :: Δ) := by
  obtain ⟨H0, I⟩ := h
  obtain ⟨g0, vs, g1, g2⟩ := I.lists (p, ds) (List.mem_cons_self ..)
  have nd := I.nd
  rw [List.map_cons, List.nodup_cons] at nd
  have s1 : Same H0 (upd H0 p (.lst vs)) := fun b u e => by rw [upd_ne (ne_of_none e g0)]; exact e
  have old : ∀ q ∈ Δ, Dp K (upd H0 p (.lst vs)) q.1 q.2 := fun q hq => dp_up s1 (I.data q hq)
  refine ⟨upd H0 p (.lst vs), fun b u e => ?_, fun q hq => ?_, fun g hg => ?_, nd.2, fun d l e => ?_⟩
  · by_cases hb : b = p
    · subst hb; rw [upd_same] at e; rw [← e]; exact g1
    · rw [upd_ne hb] at e; exact I.le b u e
  · rcases List.mem_cons.mp hq with rfl | hq
    · exact .lst (SqL.of upd_same) (dps_up s1 g2)
    · exact old q hq
  · obtain ⟨k0, vs', k1, k2⟩ := I.lists g (List.mem_cons_of_mem _ hg)
    have ne : g.1 ≠ p := fun e => nd.1 (List.mem_map.mpr ⟨g, hg, e⟩)
    rw [upd_ne ne]
    exact ⟨k0, vs', k1, dps_up s1 k2⟩
  · obtain ⟨a1, a2, a3, r⟩ := I.deck d l e
    have ap := a3 (p, ds) (List.mem_cons_self ..)
    rw [upd_ne ap.1.symm, upd_ne ap.2.symm]
    exact ⟨a1, a2, fun g hg => a3 g (List.mem_cons_of_mem _ hg), r.mono s1⟩
/-- the first list as it stands -/
theorem St.look (h : St K H dk ((p, ds) :: Γ) Δ) : ∃ vs, H p = some (.lst vs) ∧ vs.length = ds.length ∧ (∀ (i : Nat) (x : D), ds[i]? = some x → ∃ v, vs[i]? = some v ∧ St K H dk ((p, ds) :: Γ) ((v, x) :: Δ)) ∧ (∀ H0, StI K H0 H dk ((p, ds) :: Γ) Δ → DpAll K H0 vs ds) := by
  obtain ⟨H0, I⟩ := h
  obtain ⟨g0, vs, g1, g2⟩ := I.lists (p, ds) (List.mem_cons_self ..)
  refine ⟨vs, g1, dps_len g2, fun i x e => ?_, fun H1 J => ?_⟩
  · obtain ⟨v, e1, e2⟩ := dps_at g2 e
    exact ⟨v, e1, H0, I.le, fun q hq => by rcases List.mem_cons.mp hq with rfl | hq; exact e2; exact I.data q hq, I.lists, I.nd, I.deck⟩
  · obtain ⟨_, vs', k1, k2⟩ := J.lists (p, ds) (List.mem_cons_self ..)
    rw [g1] at k1
    cases k1
    exact k2
/-- the first list changes -/
theorem St.put (h : St K H dk ((p, ds) :: Γ) Δ) {es : List D} {us : List V} (k : ∀ H0, StI K H0 H dk ((p, ds) :: Γ) Δ → DpAll K H0 us es) : St K (upd H p (.lst us)) dk ((p, es) :: Γ) Δ := by
  obtain ⟨H0, I⟩ := h
  obtain ⟨g0, vs, g1, g2⟩ := I.lists (p, ds) (List.mem_cons_self ..)
  have nd := I.nd
  rw [List.map_cons, List.nodup_cons] at nd
  refine ⟨H0, fun b u e => ?_, I.data, fun g hg => ?_, I.nd, fun d l e => ?_⟩
  · rw [upd_ne (ne_of_none e g0)]
    exact I.le b u e
  · rcases List.mem_cons.mp hg with rfl | hg
    · exact ⟨g0, us, upd_same, k H0 I⟩
    · obtain ⟨k0, vs', k1, k2⟩ := I.lists g (List.mem_cons_of_mem _ hg)
      exact ⟨k0, vs', by rw [upd_ne fun e => nd.1 (List.mem_map.mpr ⟨g, hg, e⟩)]; exact k1, k2⟩
  · obtain ⟨a1, a2, a3, s, xs, b1, b2, b3⟩ := I.deck d l e
    have ap := a3 (p, ds) (List.mem_cons_self ..)
    refine ⟨a1, a2, fun g hg => ?_, s, xs, ?_, ?_, b3⟩
    · rcases List.mem_cons.mp hg with rfl | hg
      · exact ap
      · exact a3 g (List.mem_cons_of_mem _ hg)
    · rw [upd_ne ap.1.symm]; exact b1
    · rw [upd_ne ap.2.symm]; exact b2
theorem St.swap {q : Addr} {es : List D} (h : St K H dk ((p, ds) :: (q, es) :: Γ) Δ) : St K H dk ((q, es) :: (p, ds) :: Γ) Δ := by
  obtain ⟨H0, I⟩ := h
  have mm : ∀ g, g ∈ (q, es) :: (p, ds) :: Γ → g ∈ (p, ds) :: (q, es) :: Γ := fun g hg => by
    simp only [List.mem_cons] at hg ⊢
    rcases hg with h | h | h
    · exact Or.inr (Or.inl h)
    · exact Or.inl h
    · exact Or.inr (Or.inr h)
  have nd := I.nd
  simp only [List.map_cons, List.nodup_cons, List.mem_cons, not_or] at nd
  refine ⟨H0, I.le, I.data, fun g hg => I.lists g (mm g hg), ?_, fun d l e => ?_⟩
  · simp only [List.map_cons, List.nodup_cons, List.mem_cons, not_or]
    exact ⟨⟨fun e => nd.1.1 e.symm, nd.2.1⟩, nd.1.2, nd.2.2⟩
  · obtain ⟨a1, a2, a3, r⟩ := I.deck d l e
    exact ⟨a1, a2, fun g hg => a3 g (mm g hg), r⟩
theorem St.drop (h : St K H dk ((p, ds) :: Γ) Δ) : St K H dk Γ Δ := h.freeze.weaken fun _ => List.mem_cons_of_mem _
/-- the deck -/
theorem St.deck4 {d l : Addr} (h : St K H (some (d, l)) Γ Δ) : ∃ (c : Addr) (cs : List Int) (st ct : Int) (xs : List Int), H d = some (dk4 l c st ct) ∧ H l = some (.lst (xs.map V.int)) ∧ H c = some (.lst (cs.map V.int)) ∧ c ≠ d ∧ c ≠ l ∧
    cs ≠ [] ∧ cs.length ≤ 64 ∧ 0 ≤ st ∧ st < 4294967291 ∧ (∀ x ∈ xs, 0 ≤ x) ∧ xs.length ≤ 64 ∧
    ∀ (H' : Hp) (ct' : Int) (xs' : List Int), (∀ b, b ≠ d → b ≠ l → H' b = H b) → H' d = some (dk4 l c st ct') → H' l = some (.lst (xs'.map V.int)) → (∀ x ∈ xs', 0 ≤ x) → xs'.length ≤ 64 → St K H' (some (d, l)) Γ ((.ref c, .list (cs.map PyData.int)) :: Δ) := by
  obtain ⟨H0, I⟩ := h
  obtain ⟨a1, a2, a3, o, xs, b1, b2, c, cs, st, ct, rfl, h1, h2, h2', h3, h4, h5, h6⟩ := I.deck d l rfl
  refine ⟨c, cs, st, ct, xs, b1, b2, I.le _ _ h1, ne_of_none h1 a1, ne_of_none h1 a2, h2, h2', h3, h4, h5, h6, fun H' ct' xs' k k1 k2 k3 k4 => ?_⟩
  refine ⟨H0, fun b u e => ?_, fun q hq => ?_, fun g hg => ?_, I.nd, fun d' l' e => ?_⟩
  · rw [k b (ne_of_none e a1) (ne_of_none e a2)]
    exact I.le b u e
  · rcases List.mem_cons.mp hq with rfl | hq
    · exact .lst (SqL.of h1) (dps_of_ints cs)
    · exact I.data q hq
  · obtain ⟨g0, vs, g1, g2⟩ := I.lists g hg
    rw [k _ (a3 g hg).1 (a3 g hg).2]
    exact ⟨g0, vs, g1, g2⟩
  · cases e
    exact ⟨a1, a2, a3, _, xs', k1, k2, c, cs, st, ct', rfl, h1, h2, h2', h3, h4, k3, k4⟩
/-- a tuple, a list that stays: its items -/
theorem St.tupAt {a : Addr} (h : St K H dk Γ Δ) (k : (V.ref a, PyData.tuple ds) ∈ Δ) : ∃ vs, SqT K H a vs ∧ vs.length = ds.length ∧ ∃ Δ', Δ' = vs.zip ds ++ Δ ∧ St K H dk Γ Δ' ∧ DvAll Δ' vs ds := by
  obtain ⟨H0, I⟩ := h
  cases I.data _ k with
  | tup hs ha =>
    rename_i vs
    have hl := dps_len ha
    refine ⟨vs, Same.sqT I.le hs, hl, _, rfl, ⟨H0, I.le, fun q hq => ?_, I.lists, I.nd, I.deck⟩, ?_⟩
    · rcases List.mem_append.mp hq with hq | hq
      · exact dps_zip ha q hq
      · exact I.data q hq
    · exact dvs_zip hl
theorem St.lstAt {a : Addr} (h : St K H dk Γ Δ) (k : (V.ref a, PyData.list ds) ∈ Δ) : ∃ vs, SqL K H a vs ∧ vs.length = ds.length ∧ ∃ Δ', Δ' = vs.zip ds ++ Δ ∧ St K H dk Γ Δ' ∧ DvAll Δ' vs ds := by
  obtain ⟨H0, I⟩ := h
  cases I.data _ k with
  | lst hs ha =>
    rename_i vs
    have hl := dps_len ha
    refine ⟨vs, I.le.seq hs, hl, _, rfl, ⟨H0, I.le, fun q hq => ?_, I.lists, I.nd, I.deck⟩, ?_⟩
    · rcases List.mem_append.mp hq with hq | hq
      · exact dps_zip ha q hq
      · exact I.data q hq
    · exact dvs_zip hl
theorem dvs_at : ∀ {vs : List V} {ds : List D} {i : Nat} {x : D}, DvAll Δ vs ds → ds[i]? = some x → ∃ v, vs[i]? = some v ∧ Dv Δ v x
  | _, _, _, _, .nil, e => by simp at e
  | _, _, 0, _, .cons h _, e => by
    cases Option.some.inj (show some _ = some _ from e)
    exact ⟨_, rfl, h⟩
  | _, _, i + 1, _, .cons _ t, e => by
    obtain ⟨v, h1, h2⟩ := dvs_at (i := i) t (by simpa using e)
    exact ⟨v, by simpa using h1, h2⟩
theorem St.popAt (h : St K H dk ((p, ds) :: Γ) Δ) {k : Nat} {x : D} (hk : ds[k]? = some x) : ∃ vs y, H p = some (.lst vs) ∧ vs.length = ds.length ∧ vs[k]? = some y ∧ St K (upd H p (.lst (vs.eraseIdx k))) dk ((p, ds.eraseIdx k) :: Γ) ((y, x) :: Δ) := by
  obtain ⟨vs, h1, h2, h3, h4⟩ := h.look
  obtain ⟨y, h5, h6⟩ := h3 k x hk
  refine ⟨vs, y, h1, h2, h5, h6.put fun H0 I => ?_⟩
  obtain ⟨_, vs', k1, k2⟩ := I.lists (p, ds) (List.mem_cons_self ..)
  rw [h1] at k1
  cases k1
  exact dps_erase k k2
theorem St.push (h : St K H dk ((p, ds) :: Γ) Δ) {y : V} {x : D} (hy : Dv Δ y x) : ∃ vs, H p = some (.lst vs) ∧ vs.length = ds.length ∧ St K (upd H p (.lst (vs ++ [y]))) dk ((p, ds ++ [x]) :: Γ) Δ := by
  obtain ⟨vs, h1, h2, h3, h4⟩ := h.look
  exact ⟨vs, h1, h2, h.put fun H0 I => dps_app (h4 H0 I) (.cons (hy.dp I.data) .nil)⟩
theorem St.setAt (h : St K H dk ((p, ds) :: Γ) Δ) {y : V} {x : D} (hy : Dv Δ y x) (k : Nat) : ∃ vs, H p = some (.lst vs) ∧ vs.length = ds.length ∧ St K (upd H p (.lst (vs.set k y))) dk ((p, ds.set k x) :: Γ) Δ := by
  obtain ⟨vs, h1, h2, h3, h4⟩ := h.look
  exact ⟨vs, h1, h2, h.put fun H0 I => dps_set (hy.dp I.data) k (h4 H0 I)⟩
theorem St.insAt (h : St K H dk ((p, ds) :: Γ) Δ) {y : V} {x : D} (hy : Dv Δ y x) (k : Nat) : ∃ vs, H p = some (.lst vs) ∧ vs.length = ds.length ∧ St K (upd H p (.lst (vs.take k ++ [y] ++ vs.drop k))) dk ((p, ds.take k ++ [x] ++ ds.drop k) :: Γ) Δ := by
  obtain ⟨vs, h1, h2, h3, h4⟩ := h.look
  exact ⟨vs, h1, h2, h.put fun H0 I => dps_app (dps_app (dps_take k (h4 H0 I)) (.cons (hy.dp I.data) .nil)) (dps_drop k (h4 H0 I))⟩
theorem St.int_of (h : St K H dk Γ Δ) {i : Int} (k : (v, PyData.int i) ∈ Δ) : v = .int i := by
  obtain ⟨H0, I⟩ := h
  cases I.data _ k
  rfl
theorem St.ints_of (h : St K H dk Γ Δ) {ns : List Int} (k : DvAll Δ vs (ns.map PyData.int)) : vs = ns.map V.int := by
  obtain ⟨H0, I⟩ := h
  exact dps_ints (k.dp I.data)
/-- a tuple of two ints -/
theorem St.pair (h : St K H dk Γ Δ) {a : Addr} {i j : Int} (k : (V.ref a, PyData.tuple [.int i, .int j]) ∈ Δ) : SqT K H a [.int i, .int j] := by
  obtain ⟨vs, h1, h2, Δ', e, h3, h4⟩ := h.tupAt k
  have := h3.ints_of (ns := [i, j]) h4
  rw [this] at h1
  exact h1
theorem St.ref_of (h : St K H dk Γ Δ) (k : (v, PyData.tuple ds) ∈ Δ) : ∃ a, v = .ref a := by
  obtain ⟨H0, I⟩ := h
  cases I.data _ k
  exact ⟨_, rfl⟩
theorem St.lref_of (h : St K H dk Γ Δ) (k : (v, PyData.list ds) ∈ Δ) : ∃ a, v = .ref a := by
  obtain ⟨H0, I⟩ := h
  cases I.data _ k
  exact ⟨_, rfl⟩
end
theorem ixN_of {n : Nat} {i : Int} (h0 : 0 ≤ i) (h : i < n) : ixN n i = some i.toNat := by
  unfold ixN
  rw [if_pos h0, if_pos h]
theorem seq_of {n : Nat} {i : Int} (h0 : 0 ≤ i) (h : i < n) : seqIndex? i n = some i.toNat := (ixN_seq (ixN_of h0 h)).1
theorem atI_of {α : Type} {xs : List α} {i : Int} {v : α} (h0 : 0 ≤ i) (h : xs[i.toNat]? = some v) : atI xs i = some v := by
  have e : i = ((i.toNat : Nat) : Int) := by omega
  rw [e]
  exact atI_nat h
section
variable {K : PySem.W.Frag} {a : Addr} {n : Nat}
theorem walkT : Walk (Itt K a) n (fun H => ∃ xs, SqT K H a xs ∧ xs.length = n) (fun i H x H' => H' = H ∧ ∀ xs, SqT K H a xs → xs[i]? = some x) :=
  ⟨fun i H hi q => by obtain ⟨xs, h1, rfl⟩ := q; exact ⟨xs, xs[i], h1, List.getElem?_eq_getElem hi⟩, fun H q => by obtain ⟨xs, h1, rfl⟩ := q; exact ⟨xs, h1, Nat.le_refl _⟩, fun i H x H' hi q y => y⟩
theorem walkL : Walk (Itl K a) n (fun H => ∃ xs, SqL K H a xs ∧ xs.length = n) (fun i H x H' => H' = H ∧ ∀ xs, SqL K H a xs → xs[i]? = some x) :=
  ⟨fun i H hi q => by obtain ⟨xs, h1, rfl⟩ := q; exact ⟨xs, xs[i], h1, List.getElem?_eq_getElem hi⟩, fun H q => by obtain ⟨xs, h1, rfl⟩ := q; exact ⟨xs, h1, Nat.le_refl _⟩, fun i H x H' hi q y => y⟩
theorem walkET : Walk (Itet K a) n (fun H => ∃ xs, SqT K H a xs ∧ xs.length = n) (fun i H v H' => ∃ T x, v = .ref T ∧ H T = none ∧ H' = upd H T (.tup [.int (i : Nat), x]) ∧ ∀ xs, SqT K H a xs → xs[i]? = some x) :=
  ⟨fun i H hi q => by obtain ⟨xs, h1, rfl⟩ := q; exact ⟨xs, xs[i], h1, List.getElem?_eq_getElem hi⟩, fun H q => by obtain ⟨xs, h1, rfl⟩ := q; exact ⟨xs, h1, Nat.le_refl _⟩, fun i H x H' hi q y => y⟩
theorem walkEL : Walk (Ite K a) n (fun H => ∃ xs, SqL K H a xs ∧ xs.length = n) (fun i H v H' => ∃ T x, v = .ref T ∧ H T = none ∧ H' = upd H T (.tup [.int (i : Nat), x]) ∧ ∀ xs, SqL K H a xs → xs[i]? = some x) :=
  ⟨fun i H hi q => by obtain ⟨xs, h1, rfl⟩ := q; exact ⟨xs, xs[i], h1, List.getElem?_eq_getElem hi⟩, fun H q => by obtain ⟨xs, h1, rfl⟩ := q; exact ⟨xs, h1, Nat.le_refl _⟩, fun i H x H' hi q y => y⟩
end
section
variable {K : PySem.W.Frag} {H H' : Hp} {dk : Dk} {Γ : List (Addr × List D)} {Δ : List (V × D)} {x : V} {d : D} {ds : List D} {a T : Addr} {i : Nat}
theorem dvs_back : ∀ {vs : List V} {ds : List D} {i : Nat} {v : V}, DvAll Δ vs ds → vs[i]? = some v → ∃ x, ds[i]? = some x ∧ Dv Δ v x
  | _, _, _, _, .nil, e => by simp at e
  | _, _, 0, _, .cons h _, e => by
    cases Option.some.inj (show some _ = some _ from e)
    exact ⟨_, rfl, h⟩
  | _, _, i + 1, _, .cons _ t, e => by
    obtain ⟨v, h1, h2⟩ := dvs_back (i := i) t (by simpa using e)
    exact ⟨v, by simpa using h1, h2⟩
/-- a tuple that stays is walked: the item of this turn -/
theorem St.turnT (h : St K H dk Γ Δ) (k : (V.ref a, PyData.tuple ds) ∈ Δ) (f : ∀ xs, SqT K H a xs → xs[i]? = some x) : ∃ d, ds[i]? = some d ∧ St K H dk Γ ((x, d) :: Δ) := by
  obtain ⟨vs, h1, h2, Δ', rfl, h3, h4⟩ := h.tupAt k
  obtain ⟨d, e1, e2⟩ := dvs_back h4 (f vs h1)
  refine ⟨d, e1, (h3.also e2).weaken fun q hq => ?_⟩
  rcases List.mem_cons.mp hq with rfl | hq
  · exact List.mem_cons_self ..
  · exact List.mem_cons_of_mem _ (List.mem_append_right _ hq)
theorem St.turnL (h : St K H dk Γ Δ) (k : (V.ref a, PyData.list ds) ∈ Δ) (f : ∀ xs, SqL K H a xs → xs[i]? = some x) : ∃ d, ds[i]? = some d ∧ St K H dk Γ ((x, d) :: Δ) := by
  obtain ⟨vs, h1, h2, Δ', rfl, h3, h4⟩ := h.lstAt k
  obtain ⟨d, e1, e2⟩ := dvs_back h4 (f vs h1)
  refine ⟨d, e1, (h3.also e2).weaken fun q hq => ?_⟩
  rcases List.mem_cons.mp hq with rfl | hq
  · exact List.mem_cons_self ..
  · exact List.mem_cons_of_mem _ (List.mem_append_right _ hq)
theorem St.lenT (h : St K H dk Γ Δ) (k : (V.ref a, PyData.tuple ds) ∈ Δ) : ∃ xs, SqT K H a xs ∧ xs.length = ds.length := by
  obtain ⟨vs, h1, h2, _⟩ := h.tupAt k
  exact ⟨vs, h1, h2⟩
theorem St.lenL (h : St K H dk Γ Δ) (k : (V.ref a, PyData.list ds) ∈ Δ) : ∃ xs, SqL K H a xs ∧ xs.length = ds.length := by
  obtain ⟨vs, h1, h2, _⟩ := h.lstAt k
  exact ⟨vs, h1, h2⟩
/-- the pair of enumerate -/
theorem St.enumd (h : St K H dk Γ ((x, d) :: Δ)) (hT : H T = none) : St K (upd H T (.tup [.int (i : Nat), x])) dk Γ ((x, d) :: Δ) :=
  (h.tup (ds := [.int (i : Nat), d]) hT (.cons (.int _) (.cons (.of (List.mem_cons_self ..)) .nil))).weaken fun _ => List.mem_cons_of_mem _
end
end EE

namespace EE
open PySem PySem.Spec PyProof.Rows L2
/-! ### defs of the text, by what they promise -/
structure Fd (P : Program) (w : World) (K : PySem.W.Frag) (mg : Str → Option Value) (base : Heap) (x : Str) (k : Nat) (ps : List Str) (sp : Sp) : Prop where
  ex : ∃ (f : Addr) (fd : FuncData), FnOk P w K mg base CX0 k f fd ps sp ∧ mg x = some (.ref f) ∧ PySem.W.keepIn K (.ref f) = true ∧ Binds K fd ps []
section
variable {P : Program} {w : World} {K : PySem.W.Frag} {mg : Str → Option Value} {base : Heap}
theorem Fd.mk' {x qual : Str} {st : Stmt} {f : Addr} {fd : FuncData} {k : Nat} {ps : List Str} {sp : Sp} (F : Fun K x qual st f fd) (G : FnOk P w K mg base CX0 k f fd ps sp) (hm : mg x = some (.ref f)) (hb : Binds K fd ps []) : Fd P w K mg base x k ps sp :=
  ⟨f, fd, G, hm, F.kp, hb⟩
end
section
variable {X : Cx} {k : Nat} {ps : List Str} {sp : Sp} {x : Str} {p pos : Pos} {e : Expr} {es : List Expr} {t : TA}
theorem pe_fd (F : Fd X.prog X.w X.K X.mg X.base x k ps sp) (hr : Room k X.A) (hg : Gl X x) (ha : PA X (e :: es) t) (hx : Passes CX0 X E0 := by exact pass0) (hdb : (x == ("__debug__" : Str)) = false := by decide) (he : starEach (e :: es) X.env = (false, eval e X.env) :: starEach es X.env := by rfl)
    (hpl : (backTo pos (starEach es X.env)).any (·.1) = false := by rfl) : PE X (.Call (.Name x p) (e :: es) [] pos) (tCall sp [] E0 t) := by
  obtain ⟨f, fd, G, hm, hk, hb⟩ := F.ex
  exact pe_call G hr hg hm hk hb .nil hx ha hdb he hpl
theorem pe_k {x : Str} {i : Int} {pos : Pos} (hm : ∃ t, X.mg x = some (.int i t)) (hg : Gl X x) (hd : (x == ("__debug__" : Str)) = false := by decide) : PE X (.Name x pos) (tC (.int i)) := by
  obtain ⟨t, hm⟩ := hm
  exact pe_glob hg hm ⟨_, rfl⟩ hd
end
/-- the built-in names stand as they were -/
def bnames : List Str := ["len", "abs", "max", "min", "int", "list", "tuple", "range", "enumerate", "repr", "isinstance", "sum", "sorted", "str", "any", "all", "zip", "bool", "set", "dict"]
def NB (mg : Str → Option Value) (l : List Str) : Prop := ∀ x, l.contains x = true → mg x = none
/-! ### f(k = v, ..), all by name -/
structure KB (fdk : FuncData) (K : PySem.W.Frag) (ps ks : List Str) (g : List Value → List Value) (gV : List V → List V) : Prop where
  to : ∀ (s : Shared) (ws : List Value), K.In s.heap → (g ws).length = ps.length → BindsTo s fdk ⟨[], ks.zip ws⟩ (ps.zip (g ws))
  rel : ∀ {zs : List V} {ws : List Value}, Vals zs ws → Vals (gV zs) (g ws)
structure Fk (P : Program) (w : World) (K : PySem.W.Frag) (mg : Str → Option Value) (base : Heap) (x : Str) (k : Nat) (ps ks : List Str) (gV : List V → List V) (sp : Sp) : Prop where
  ex : ∃ (f : Addr) (fd : FuncData) (g : List Value → List Value), FnOk P w K mg base CX0 k f fd ps sp ∧ mg x = some (.ref f) ∧ PySem.W.keepIn K (.ref f) = true ∧ KB fd K ps ks g gV
section
variable {X : Cx} {k : Nat} {ps ks : List Str} {gV : List V → List V} {sp : Sp} {x : Str} {p pos : Pos} {kws : List Keyword} {tk : TA}
def tCallK0 (sp : Sp) (gV : List V → List V) (E : XK) (tk : TA) : TE := fun σ H Q => tk σ H fun zs H2 => sp (gV zs) H2 Q E
theorem pe_fk (F : Fk X.prog X.w X.K X.mg X.base x k ps ks gV sp) (hr : Room k X.A) (hg : Gl X x) (hkw : PK X kws tk) (hall : (backToKw pos (keywordEach kws X.env)).all (·.1.isSome) = true := by rfl) (hks : (backToKw pos (keywordEach kws X.env)).filterMap (·.1) = ks := by rfl)
    (hdb : (x == ("__debug__" : Str)) = false := by decide) (hpl : ((backTo pos (starEach [] X.env)).any (·.1) || (backToKw pos (keywordEach kws X.env)).any (·.1.isNone)) = false := by rfl) :
    PE X (.Call (.Name x p) [] kws pos) (tCallK0 sp gV E0 tk) := by
  obtain ⟨f, fd, g, G, hm, hk, hb⟩ := F.ex
  refine ⟨fun pins s σ H Q I h => wpAny_Call_Name_kw (ld_glob I hg hm ?_ hdb)⟩
  refine PySem.W.callWith_KW0 (h₀ := X.base) (first := []) I.ok.mod.kin hk hall (thn (hkw.run pos pins s σ H _ I h) fun ws s2 q => ?_) hpl
  obtain ⟨zs, H2, I2, rz, q2⟩ := q
  refine ⟨I2.kIn, ?_⟩
  rw [hks]
  have r2 := hb.rel rz
  have hl : (g ws).length = ps.length := by
    rw [← r2.length]
    exact G.len _ _ _ _ q2
  refine wpAny_call (codeAny_mono (G.run X.A X.stack s2 H2 ⟨[], ks.zip ws⟩ (g ws) (gV zs) Q E0 hr I2.env0 (hb.to s2 ws I2.kIn hl) r2 q2) fun r s' hq => ?_)
  cases r with
  | error e => exact (show False from hq).elim
  | ok fl =>
    cases fl with
    | ret u => exact I2.after hq
    | next => exact (show False from hq).elim
    | brk => exact (show False from hq).elim
    | cont => exact (show False from hq).elim
end
theorem _root_.L2.Fun.kb {K : PySem.W.Frag} {x qual : Str} {st : Stmt} {f : Addr} {fd : FuncData} {ps ks : List Str} (F : Fun K x qual st f fd)
    (h : ∀ (kV doc pm : Value) (an : Option Addr) (cdv ct : Value) (us : List Value), us.length = ps.length → bindArgs (PySem.W.fnOf x qual (defArgs st) (defBody st) (defScope st) .none kV doc pm an cdv ct) ⟨[], ks.zip us⟩ = pure (ps.zip us.reverse)) :
    KB fd K ps ks (fun ws => ws.reverse) (fun zs => zs.reverse) := by
  obtain ⟨oc, od, kV, doc, pm, an, cdv, ct, osl, rfl, lk, hcd⟩ := F.ex
  refine ⟨fun s ws _ hl => .of_eq (h kV doc pm an cdv ct ws ?_), fun r => r.reverse⟩
  rw [List.length_reverse] at hl
  exact hl
/-! ### powers of great bases -/
def CPowW (i j : Int) : Prop := 0 ≤ j ∧ (Builtin.Int.intBits i : Int) * j ≤ 2 ^ 27
theorem op_powW {X : Cx} : OpR X (binaryOp .Pow) (rI CPowW fun i j => .int (i ^ j.toNat)) := opI fun _ _ _ _ _ _ _ hc q => pow_int hc.1 hc.2 q
/-! ### // by any positive divisor, where C divides -/
def CDivX (i j : Int) : Prop := 0 < j ∧ Builtin.divisionGoesByPylong i j = false
theorem op_fdivX {X : Cx} : OpR X (binaryOp .FloorDiv) (rI CDivX fun i j => .int (i / j)) := opI fun i j _ _ _ _ _ hc q => by
  have h1 : (0 : Int) < j := hc.1
  refine floordiv_int (by omega) ?_ (.inl hc.2)
  rw [Int.fdiv_eq_ediv_of_nonneg i (by omega)]
  exact q
theorem divx_of {i j : Int} (h : CDivW i j) : CDivX i j := ⟨h.1, PyProof.noPylong_of_log2 h.2⟩
theorem divx_small {i j : Int} {n : Nat} (hj : 0 < j) (hi : i.natAbs < 2 ^ n) (hn : n ≤ 4000) : CDivX i j := ⟨hj, (divp_ok hj (by have := PyProof.Rows.intBits_le hi; omega)).2⟩
end EE

namespace EE
open PySem PySem.Spec PyProof.Rows L2
/-! ### data that can be shown and compared: n bounds its text -/
structure Sm (n k : Nat) (d : D) : Prop where
  show_ : d.showable = true
  deep : d.depth ≤ k
  long : d.shown.length ≤ n
  lay : d.canLay0 = true
theorem Sm.mono {n k n' k' : Nat} {d : D} (h : Sm n k d) (h1 : n ≤ n') (h2 : k ≤ k') : Sm n' k' d := ⟨h.show_, Nat.le_trans h.deep h2, Nat.le_trans h.long h1, h.lay⟩
theorem sm_non : Sm 5 0 (.none : D) := ⟨by simp only [PyData.showable], by simp only [PyData.depth]; exact Nat.le_refl 0, by decide, by simp only [PyData.canLay0]⟩
theorem sm_bool (b : Bool) : Sm 5 0 (.bool b : D) := ⟨by simp only [PyData.showable], by simp only [PyData.depth]; exact Nat.le_refl 0, by cases b <;> decide, by simp only [PyData.canLay0]⟩
theorem sm_int {i : Int} (h0 : 0 ≤ i) (h : i < 10 ^ 570) : Sm 570 0 (.int i : D) := by
  refine ⟨?_, by simp only [PyData.depth]; exact Nat.le_refl 0, ?_, by simp only [PyData.canLay0]⟩
  · simp only [PyData.showable, decide_eq_true_eq]
    have h2 : i.natAbs < 2 ^ 1900 := by
      have e : (10 : Int) ^ 570 < 2 ^ 1900 := by decide +kernel
      omega
    exact Nat.lt_trans (PySem.Flt.log2_lt_of (by decide) h2) (by decide)
  · simp only [PyData.shown]
    exact toString_length_le h0 (by decide) h
theorem sms_sum {n k : Nat} : ∀ {ds : List D}, (∀ d ∈ ds, Sm n k d) → PyData.showableAll ds = true ∧ PyData.depthAll ds ≤ k ∧ ((PyData.shownAll ds).map (·.length)).sum ≤ ds.length * n ∧ PyData.canLayAll0 ds = true ∧ (PyData.shownAll ds).length = ds.length
  | [], _ => ⟨by simp only [PyData.showableAll], by simp only [PyData.depthAll]; exact Nat.zero_le _, by simp [PyData.shownAll], by simp only [PyData.canLayAll0], by simp [PyData.shownAll]⟩
  | d :: ds, h => by
    have h1 := h d (List.mem_cons_self ..)
    obtain ⟨a, b, c, e, f⟩ := sms_sum fun x hx => h x (List.mem_cons_of_mem _ hx)
    have h1d := h1.deep
    have h1l := h1.long
    refine ⟨by simp only [PyData.showableAll, h1.show_, a, Bool.and_self], by simp only [PyData.depthAll]; omega, ?_, by simp only [PyData.canLayAll0, h1.lay, e, Bool.and_self], by simp only [PyData.shownAll, List.length_cons, f]⟩
    simp only [PyData.shownAll, List.map_cons, List.sum_cons, List.length_cons, Nat.add_mul, Nat.one_mul]
    omega
theorem sm_list {n k : Nat} {ds : List D} (h : ∀ d ∈ ds, Sm n k d) : Sm (ds.length * (n + 2) + 3) (k + 1) (.list ds : D) := by
  obtain ⟨a, b, c, e, f⟩ := sms_sum h
  refine ⟨by simp only [PyData.showable, a], by simp only [PyData.depth]; omega, ?_, by simp only [PyData.canLay0, e]⟩
  simp only [PyData.shown]
  refine Nat.le_trans (listText_len_le _) ?_
  rw [f, Nat.mul_add]
  omega
theorem sm_tuple {n k : Nat} {ds : List D} (h : ∀ d ∈ ds, Sm n k d) : Sm (ds.length * (n + 2) + 3) (k + 1) (.tuple ds : D) := by
  obtain ⟨a, b, c, e, f⟩ := sms_sum h
  refine ⟨by simp only [PyData.showable, a], by simp only [PyData.depth]; omega, ?_, by simp only [PyData.canLay0, e]⟩
  simp only [PyData.shown]
  refine Nat.le_trans (tupleText_len_le _) ?_
  rw [f, Nat.mul_add]
  omega
theorem Sm.shaped {n k : Nat} {d : D} (h : Sm n k d) (hk : k ≤ 60) : SeqAt.shaped d = true := by
  unfold SeqAt.shaped
  have := h.deep
  simp only [h.lay, Bool.true_and, decide_eq_true_eq]
  omega
/-- what can be compared -/
def Lay (k : Nat) (ds : List D) : Prop := PyData.canLayAll0 ds = true ∧ PyData.depthAll ds ≤ k
theorem lay_nil {k : Nat} : Lay k [] := ⟨by simp only [PyData.canLayAll0], by simp only [PyData.depthAll]; exact Nat.zero_le _⟩
theorem lay_cons {k : Nat} {d : D} {ds : List D} (h : d.canLay0 = true) (h2 : d.depth ≤ k) (t : Lay k ds) : Lay k (d :: ds) := ⟨by simp only [PyData.canLayAll0, h, t.1, Bool.and_self], by simp only [PyData.depthAll]; have := t.2; omega⟩
theorem lay_of {k : Nat} : ∀ {ds : List D}, (∀ d ∈ ds, d.canLay0 = true ∧ d.depth ≤ k) → Lay k ds
  | [], _ => lay_nil
  | d :: ds, h => lay_cons (h d (List.mem_cons_self ..)).1 (h d (List.mem_cons_self ..)).2 (lay_of fun x hx => h x (List.mem_cons_of_mem _ hx))
theorem lay_ints {k : Nat} (ns : List Int) : Lay k (ns.map PyData.int) := lay_of fun d hd => by
  obtain ⟨i, _, rfl⟩ := List.mem_map.mp hd
  exact ⟨by simp only [PyData.canLay0], by simp only [PyData.depth]; exact Nat.zero_le _⟩
theorem lay_list {ds : List D} (h : Lay 60 ds) : SeqAt.shaped (.list ds) = true := by
  have h2 := h.2
  refine Bool.and_eq_true_iff.mpr ⟨by simp only [PyData.canLay0, h.1], decide_eq_true ?_⟩
  simp only [PyData.depth]
  omega
theorem lay_tuple {ds : List D} (h : Lay 60 ds) : SeqAt.shaped (.tuple ds) = true := by
  have h2 := h.2
  refine Bool.and_eq_true_iff.mpr ⟨by simp only [PyData.canLay0, h.1], decide_eq_true ?_⟩
  simp only [PyData.depth]
  omega
section
variable {K : PySem.W.Frag} {H : Hp} {x y : V} {ds : List D} {Q : VK}
theorem ne_nil_list (hx : Dp K H x (.list ds)) (hy : Dp K H y (.list [])) (h : Lay 60 ds) (q : Q (.bl (!ds.isEmpty)) H) : rNeD K x y H Q := by
  refine ⟨.list ds, .list [], hx, hy, lay_list h, lay_list lay_nil, ?_⟩
  cases ds with
  | nil => exact q
  | cons d ds => exact q
theorem ne_nil_tup (hx : Dp K H x (.tuple ds)) (hy : Dp K H y (.tuple [])) (h : Lay 60 ds) (q : Q (.bl (!ds.isEmpty)) H) : rNeD K x y H Q := by
  refine ⟨.tuple ds, .tuple [], hx, hy, lay_tuple h, lay_tuple lay_nil, ?_⟩
  cases ds with
  | nil => exact q
  | cons d ds => exact q
end
/-! ### the deck's dict -/
section
variable {H : Hp} {d l : Addr} {s : Int} {v : V}
theorem k_neq {a b : Str} (h : a ≠ b) : ¬ ((Sum.inr a : Key) = Sum.inr b) := fun e => h (Sum.inr.inj e)
variable {c : Addr} {st ct : Int}
theorem deck_deep (h : H d = some (dk4 l c st ct)) : DGet H d (.str "deep") (some (.ref l)) := by
  have g := DGet.k (k := (.inr "deep" : Key)) h
  rw [valV_pos rfl] at g
  exact g
theorem deck_cells (h : H d = some (dk4 l c st ct)) : DGet H d (.str "cells") (some (.ref c)) := by
  have g := DGet.k (k := (.inr "cells" : Key)) h
  rw [valV_neg (k_neq (by decide)), valV_pos rfl] at g
  exact g
theorem deck_stamp (h : H d = some (dk4 l c st ct)) : DGet H d (.str "stamp") (some (.int st)) := by
  have g := DGet.k (k := (.inr "stamp" : Key)) h
  rw [valV_neg (k_neq (by decide)), valV_neg (k_neq (by decide)), valV_pos rfl] at g
  exact g
theorem deck_count (h : H d = some (dk4 l c st ct)) : DGet H d (.str "count") (some (.int ct)) := by
  have g := DGet.k (k := (.inr "count" : Key)) h
  rw [valV_neg (k_neq (by decide)), valV_neg (k_neq (by decide)), valV_neg (k_neq (by decide)), valV_pos rfl] at g
  exact g
theorem put_count {i : Int} (h : H d = some (dk4 l c st ct)) : DPut H d (.str "count") (.int i) (upd H d (dk4 l c st i)) := by
  have g := DPut.k (k := (.inr "count" : Key)) (v := .int i) h (by show 4 < sizeLine; decide)
  have e : putK [((.inr "deep" : Key), V.ref l), (.inr "cells", .ref c), (.inr "stamp", .int st), (.inr "count", .int ct)] (.inr "count") (.int i) = [(.inr "deep", V.ref l), (.inr "cells", .ref c), (.inr "stamp", .int st), (.inr "count", .int i)] := by
    have n1 : ¬ ((Sum.inr ("deep" : Str) : Key) = Sum.inr ("count" : Str)) := k_neq (by decide)
    have n2 : ¬ ((Sum.inr ("cells" : Str) : Key) = Sum.inr ("count" : Str)) := k_neq (by decide)
    have n3 : ¬ ((Sum.inr ("stamp" : Str) : Key) = Sum.inr ("count" : Str)) := k_neq (by decide)
    simp [putK, n1, n2, n3]
  rw [e] at g
  exact g
end
theorem dk_ne {H : Hp} {d l : Addr} {a : List (Key × V)} {b : List V} (h1 : H d = some (.dK a)) (h2 : H l = some (.lst b)) : d ≠ l := ne_of h1 h2 (by intro z; cases z)
end EE

namespace EE
open PySem PySem.Spec PyProof.Rows L2
theorem ifp {c A B : Prop} [Decidable c] (hc : c) (h : A) : if c then A else B := by
  rw [if_pos hc]
  exact h
theorem ifn {c A B : Prop} [Decidable c] (hc : ¬ c) (h : B) : if c then A else B := by
  rw [if_neg hc]
  exact h
theorem up_old {H : Hp} {a p : Addr} {u o : HO} (h : H a = some u) (hp : H p = none) : upd H p o a = some u := (upd_ne (ne_of_none h hp)).trans h
/-! ### an expression that is worth a datum, whatever is known besides -/
def Sub (Δ Δ' : List (V × D)) : Prop := ∀ x ∈ Δ, x ∈ Δ'
theorem Sub.rfl' {Δ : List (V × D)} : Sub Δ Δ := fun _ h => h
theorem Sub.trans {A B C : List (V × D)} (h : Sub A B) (k : Sub B C) : Sub A C := fun x hx => k x (h x hx)
theorem Sub.cons {A B : List (V × D)} {x : V × D} (h : Sub A B) : Sub A (x :: B) := fun y hy => List.mem_cons_of_mem _ (h y hy)
def EvD (K : PySem.W.Frag) (B : List (V × D)) (te : TE) (σ : L2.St) (d : D) : Prop := ∀ (H : Hp) (dk : Dk) (Γ : List (Addr × List D)) (Δ : List (V × D)) (Q : VK), Sub B Δ → St K H dk Γ Δ →
  (∀ v H' Δ', Sub Δ Δ' → St K H' dk Γ Δ' → Dv Δ' v d → Q v H') → te σ H Q
def EvDs (K : PySem.W.Frag) (B : List (V × D)) (ta : TA) (σ : L2.St) (ds : List D) : Prop := ∀ (H : Hp) (dk : Dk) (Γ : List (Addr × List D)) (Δ : List (V × D)) (Q : List V → Hp → Prop), Sub B Δ → St K H dk Γ Δ →
  (∀ vs H' Δ', Sub Δ Δ' → St K H' dk Γ Δ' → DvAll Δ' vs ds → Q vs H') → ta σ H Q
section
variable {K : PySem.W.Frag} {B : List (V × D)} {σ : L2.St} {ta tb : TE} {tr : TA} {d : D} {ds : List D} {v : V} {i j : Int}
theorem ed_int : EvD K B (tC (.int i)) σ (.int i) := fun H dk Γ Δ Q hb hS q => q _ H Δ .rfl' hS (.int i)
theorem ed_str {x : Str} : EvD K B (tC (.str x)) σ (.str x) := fun H dk Γ Δ Q hb hS q => q _ H Δ .rfl' hS (.str x)
theorem ed_non : EvD K B (tC .non) σ .none := fun H dk Γ Δ Q hb hS q => q _ H Δ .rfl' hS .non
theorem ed_bl {b : Bool} : EvD K B (tC (.bl b)) σ (.bool b) := fun H dk Γ Δ Q hb hS q => q _ H Δ .rfl' hS (.bl b)
theorem ed_var {n : Nat} (e : σ[n]? = some (some v)) (h : Dv B v d) : EvD K B (tVar n) σ d := fun H dk Γ Δ Q hb hS q => ⟨v, e, q v H Δ .rfl' hS (h.sub hb)⟩
theorem ed_varI {n : Nat} (e : σ[n]? = some (some (.int i))) : EvD K B (tVar n) σ (.int i) := ed_var e (.int i)
theorem ed_varB {n : Nat} {b : Bool} (e : σ[n]? = some (some (.bl b))) : EvD K B (tVar n) σ (.bool b) := ed_var e (.bl b)
theorem eds_nil : EvDs K B tNil σ [] := fun H dk Γ Δ Q hb hS q => q _ H Δ .rfl' hS .nil
theorem eds_cons (h : EvD K B ta σ d) (t : EvDs K B tr σ ds) : EvDs K B (tCons ta tr) σ (d :: ds) := fun H dk Γ Δ Q hb hS q =>
  h H dk Γ Δ _ hb hS fun v H1 Δ1 s1 hS1 d1 => t H1 dk Γ Δ1 _ (hb.trans s1) hS1 fun vs H2 Δ2 s2 hS2 d2 => q _ H2 Δ2 (s1.trans s2) hS2 (.cons (d1.sub s2) d2)
theorem ed_tup (h : EvDs K B tr σ ds) (hz : ds.length ≤ 10000) : EvD K B (tTup tr) σ (.tuple ds) := fun H dk Γ Δ Q hb hS q =>
  h H dk Γ Δ _ hb hS fun vs H1 Δ1 s1 hS1 d1 => ⟨by rw [d1.len]; exact Nat.le_trans hz (by decide), fun p hp => q _ _ _ (s1.trans (Sub.cons .rfl')) (hS1.tup hp d1) (.of (List.mem_cons_self ..))⟩
theorem ed_lst (h : EvDs K B tr σ ds) (hz : ds.length ≤ 10000) : EvD K B (tLst tr) σ (.list ds) := fun H dk Γ Δ Q hb hS q =>
  h H dk Γ Δ _ hb hS fun vs H1 Δ1 s1 hS1 d1 => ⟨by rw [d1.len]; exact Nat.le_trans hz (by decide), fun p hp => q _ _ _ (s1.trans (Sub.cons .rfl')) (hS1.lst hp d1) (.of (List.mem_cons_self ..))⟩
theorem Dv.isInt {Δ : List (V × D)} {H : Hp} {dk : Dk} {Γ : List (Addr × List D)} (hS : St K H dk Γ Δ) (h : Dv Δ v (.int i)) : v = .int i := by
  cases h with
  | of m => exact hS.int_of m
  | int => rfl
theorem ed_I0 {g : Int → Int → Int} (h1 : EvD K B ta σ (.int i)) (h2 : EvD K B tb σ (.int j)) : EvD K B (tOp (rI0 fun i j => .int (g i j)) ta tb) σ (.int (g i j)) := fun H dk Γ Δ Q hb hS q =>
  h1 H dk Γ Δ _ hb hS fun v H1 Δ1 s1 hS1 d1 => h2 H1 dk Γ Δ1 _ (hb.trans s1) hS1 fun u H2 Δ2 s2 hS2 d2 => by
    obtain rfl := d1.isInt hS1
    obtain rfl := d2.isInt hS2
    exact ⟨i, j, rfl, rfl, q _ _ _ (s1.trans s2) hS2 (.int _)⟩
theorem ed_I {C : Int → Int → Prop} {g : Int → Int → Int} (h1 : EvD K B ta σ (.int i)) (h2 : EvD K B tb σ (.int j)) (hc : C i j) : EvD K B (tOp (rI C fun i j => .int (g i j)) ta tb) σ (.int (g i j)) := fun H dk Γ Δ Q hb hS q =>
  h1 H dk Γ Δ _ hb hS fun v H1 Δ1 s1 hS1 d1 => h2 H1 dk Γ Δ1 _ (hb.trans s1) hS1 fun u H2 Δ2 s2 hS2 d2 => by
    obtain rfl := d1.isInt hS1
    obtain rfl := d2.isInt hS2
    exact ⟨i, j, rfl, rfl, hc, q _ _ _ (s1.trans s2) hS2 (.int _)⟩
theorem ed_neg {g : Int → Int} (h1 : EvD K B ta σ (.int i)) : EvD K B (tUn (rU fun i => .int (g i)) ta) σ (.int (g i)) := fun H dk Γ Δ Q hb hS q =>
  h1 H dk Γ Δ _ hb hS fun v H1 Δ1 s1 hS1 d1 => by
    obtain rfl := d1.isInt hS1
    exact ⟨i, rfl, q _ _ _ s1 hS1 (.int _)⟩
/-- to go on from a datum -/
theorem EvD.go (h : EvD K B ta σ d) {H : Hp} {dk : Dk} {Γ : List (Addr × List D)} {Δ : List (V × D)} {Q : VK} (hb : Sub B Δ) (hS : St K H dk Γ Δ) (q : ∀ v H', St K H' dk Γ ((v, d) :: Δ) → Q v H') : ta σ H Q :=
  h H dk Γ Δ Q hb hS fun v H' Δ' s hS' dv => q v H' ((hS'.also dv).weaken fun x hx => by
    rcases List.mem_cons.mp hx with rfl | hx
    · exact List.mem_cons_self ..
    · exact List.mem_cons_of_mem _ (s x hx))
end
theorem sub_nil {Δ : List (V × D)} : Sub [] Δ := fun _ h => nomatch h
section
variable {K : PySem.W.Frag} {B : List (V × D)} {σ : L2.St} {H : Hp} {dk : Dk} {Γ : List (Addr × List D)} {Δ : List (V × D)} {tr : TA} {ds es : List D} {p r : Addr} {Q : VK}
/-- a list display that may change -/
theorem EvDs.make (h : EvDs K B tr σ ds) (hb : Sub B Δ) (hS : St K H dk Γ Δ) (hz : ds.length ≤ 10000) (q : ∀ p H', St K H' dk ((p, ds) :: Γ) Δ → Q (.ref p) H') : tLst tr σ H Q :=
  h H dk Γ Δ _ hb hS fun vs H1 Δ1 s1 hS1 d1 => ⟨by rw [d1.len]; exact Nat.le_trans hz (by decide), fun p hp => q p _ ((hS1.make hp d1).weaken s1)⟩
/-- two lists put together -/
theorem St.cat (hS : St K H dk ((p, ds) :: (r, es) :: Γ) Δ) : ∃ xs zs, H p = some (.lst xs) ∧ H r = some (.lst zs) ∧ xs.length = ds.length ∧ zs.length = es.length ∧ ∀ t, H t = none → St K (upd H t (.lst (xs ++ zs))) dk ((t, ds ++ es) :: (p, ds) :: (r, es) :: Γ) Δ := by
  obtain ⟨xs, h1, h2, _, h3⟩ := hS.look
  obtain ⟨zs, k1, k2, _, _⟩ := hS.swap.look
  refine ⟨xs, zs, h1, k1, h2, k2, fun t ht => hS.make_ ht fun H0 I => dps_app (h3 H0 I) ?_⟩
  obtain ⟨_, vs, j1, j2⟩ := I.lists (r, es) (List.mem_cons_of_mem _ (List.mem_cons_self ..))
  rw [k1] at j1
  cases j1
  exact j2
end
/-! ### to see the next expression -/
section
variable {te ta tb : TE} {tz t u : TS} {D : Ends} {σ : L2.St} {H : Hp} {Q : VK} {i : Nat} {r : R2} {g : TG} {tx : TA} {rr : V → List V → Hp → VK → Prop}
theorem go_set (h : te σ H fun x H1 => tz D (σ.set i (some x)) H1) : tSeq (tAsg te (gName i)) tz D σ H := h
theorem go_setL (h : te σ H fun x H1 => D.nx (σ.set i (some x)) H1) : tAsg te (gName i) D σ H := h
theorem go_asg (h : te σ H fun x H1 => g x σ H1 fun σ2 H2 => tz D σ2 H2) : tSeq (tAsg te g) tz D σ H := h
theorem go_asgL (h : te σ H fun x H1 => g x σ H1 D.nx) : tAsg te g D σ H := h
theorem go_ret (h : te σ H D.rt) : tRet te D σ H := h
theorem go_seq (h : t { D with nx := u D } σ H) : tSeq t u D σ H := h
theorem go_drop (h : te σ H fun _ H1 => D.nx σ H1) : tDrop te D σ H := h
theorem go_op (h : ta σ H fun x H1 => tb σ H1 fun y H2 => r x y H2 Q) : tOp r ta tb σ H Q := h
theorem go_if {c : TT} (h : c σ H fun b H1 => if b = true then t D σ H1 else u D σ H1) : tIfS c t u D σ H := h
theorem go_ite {c : TT} (h : c σ H fun b H1 => if b = true then ta σ H1 Q else tb σ H1 Q) : tIf c ta tb σ H Q := h
theorem go_cut (M : L2.St → Hp → Prop) (h : t { D with nx := M } σ H) (k : ∀ σ' H', M σ' H' → u D σ' H') : Evl.tCut t u D σ H := ⟨M, h, k⟩
theorem go_and {c e : TT} {Q : Bool → Hp → Prop} (h : c σ H fun b H1 => if b = true then e σ H1 Q else Q false H1) : tAnd c e σ H Q := h
theorem go_next (h : D.nx σ H) : tNext D σ H := h
theorem go_or {c e : TT} {Q : Bool → Hp → Prop} (h : c σ H fun b H1 => if b = true then Q true H1 else e σ H1 Q) : tOr c e σ H Q := h
theorem go_test {Q : Bool → Hp → Prop} (h : te σ H fun x H' => ∃ k, x = .bl k ∧ Q k H') : tTest te σ H Q := h
theorem go_B {Q : Bool → Hp → Prop} (h : te σ H fun x H' => ∃ k, x = .bl k ∧ Q k H') : tB te σ H Q := h
theorem go_not {c : TT} {Q : Bool → Hp → Prop} (h : c σ H fun b H1 => Q (!b) H1) : tNot c σ H Q := h
end
section
variable {te ta : TE} {tr : TA} {σ : L2.St} {H : Hp} {Q : VK} {v : V} {r : List V → Hp → VK → Prop} {QA : List V → Hp → Prop}
theorem cps (P : V → Hp → Prop) (h : ∀ Q' : VK, (∀ v H', P v H' → Q' v H') → te σ H Q') (k : ∀ v H', P v H' → Q v H') : te σ H Q := h Q k
theorem go_cb (h : tr σ H fun vs H1 => r vs H1 Q) : tCB r tr σ H Q := h
theorem go_cons (h : te σ H fun x H1 => tr σ H1 fun xs H2 => QA (x :: xs) H2) : tCons te tr σ H QA := h
theorem go_c (h : Q v H) : tC v σ H Q := h
theorem go_nil (h : QA [] H) : tNil σ H QA := h
theorem go_lst (h : tr σ H fun xs H1 => xs.length ≤ sizeLine ∧ ∀ p, H1 p = none → Q (.ref p) (upd H1 p (.lst xs))) : tLst tr σ H Q := h
theorem go_tup (h : tr σ H fun xs H1 => xs.length ≤ sizeLine ∧ ∀ p, H1 p = none → Q (.ref p) (upd H1 p (.tup xs))) : tTup tr σ H Q := h
variable {K : PySem.W.Frag} {B : List (V × D)} {tb : TE} {i j : Int}
theorem ed_max2 (h1 : EvD K B ta σ (.int i)) (h2 : EvD K B tb σ (.int j)) : EvD K B (tCB (fun xs H Q => ∃ i j, xs = [V.int i, .int j] ∧ Q (.int (if j > i then j else i)) H) (tCons ta (tCons tb tNil))) σ (.int (if j > i then j else i)) := fun H dk Γ Δ Q hb hS q =>
  h1 H dk Γ Δ _ hb hS fun v H1 Δ1 s1 hS1 d1 => h2 H1 dk Γ Δ1 _ (hb.trans s1) hS1 fun u H2 Δ2 s2 hS2 d2 => by
    obtain rfl := d1.isInt hS1
    obtain rfl := d2.isInt hS2
    exact ⟨i, j, rfl, q _ _ _ (s1.trans s2) hS2 (.int _)⟩
theorem ed_min2 (h1 : EvD K B ta σ (.int i)) (h2 : EvD K B tb σ (.int j)) : EvD K B (tCB (fun xs H Q => ∃ i j, xs = [V.int i, .int j] ∧ Q (.int (if j < i then j else i)) H) (tCons ta (tCons tb tNil))) σ (.int (if j < i then j else i)) := fun H dk Γ Δ Q hb hS q =>
  h1 H dk Γ Δ _ hb hS fun v H1 Δ1 s1 hS1 d1 => h2 H1 dk Γ Δ1 _ (hb.trans s1) hS1 fun u H2 Δ2 s2 hS2 d2 => by
    obtain rfl := d1.isInt hS1
    obtain rfl := d2.isInt hS2
    exact ⟨i, j, rfl, q _ _ _ (s1.trans s2) hS2 (.int _)⟩
end
theorem atI_m1 {α : Type} {xs : List α} {v : α} (h : xs[xs.length - 1]? = some v) : atI xs (-1) = some v := by
  obtain ⟨hl, _⟩ := List.getElem?_eq_some_iff.mp h
  have e : ixN xs.length (-1) = some (xs.length - 1) := by
    unfold ixN
    rw [if_neg (by omega), if_pos (by omega)]
    congr 1
    omega
  unfold atI
  rw [e]
  exact h
theorem St.last {K : PySem.W.Frag} {H : Hp} {dk : Dk} {Γ : List (Addr × List D)} {Δ : List (V × D)} {p : Addr} {ds : List D} {x : D} (h : St K H dk ((p, ds) :: Γ) Δ) (hx : ds[ds.length - 1]? = some x) :
    ∃ vs v, H p = some (.lst vs) ∧ atI vs (-1) = some v ∧ St K H dk ((p, ds) :: Γ) ((v, x) :: Δ) := by
  obtain ⟨vs, h1, h2, h3, _⟩ := h.look
  obtain ⟨v, h4, h5⟩ := h3 _ x hx
  exact ⟨vs, v, h1, atI_m1 (by rw [h2]; exact h4), h5⟩
section
variable {te : TE} {ta : TA} {g : TG} {tb tz : TS} {D : Ends} {σ : L2.St} {H : Hp} {wi : TI} {R : It → Hp → Prop}
/-- a loop, once it is known what is walked -/
abbrev FK (g : TG) (tb : TS) (D : Ends) (σ : L2.St) : It → Hp → Prop := fun J H1 => ∃ W : Nat → Nat → L2.St → Hp → Prop, (∃ m, W 0 m σ H1) ∧ ∀ i m σ H, W i m σ H →
  (J.stop i H ∧ D.nx σ H) ∨ (J.go i H ∧ ∃ N : L2.St → Hp → Prop, (∀ σ' H', N σ' H' → ∃ m', m' < m ∧ W (i + 1) m' σ' H') ∧ ∀ x H', J.yld i H x H' → g x σ H' fun σ2 H2 => tb { D with nx := N, ct := N, bk := D.nx } σ2 H2)
theorem go_for (h : wi σ H (FK g tb { D with nx := tz D } σ)) : tSeq (tFor wi g tb) tz D σ H := h
theorem go_rng1 (h : te σ H fun x H1 => ∃ j : Int, [x] = [V.int j] ∧ -(2 ^ 62) ≤ j ∧ j < 2 ^ 62 ∧ R (Itr 0 j.toNat) H1) : iRng1 (tCons te tNil) σ H R := h
theorem go_walkL {K : PySem.W.Frag} (h : te σ H fun x H1 => ∃ a, x = .ref a ∧ (∃ xs, SqL K H1 a xs) ∧ R (Itl K a) H1) : iList K te σ H R := h
theorem go_walkEL {K : PySem.W.Frag} (h : te σ H fun x H1 => ∃ a xs, [x] = [V.ref a] ∧ SqL K H1 a xs ∧ R (Ite K a) H1) : iEnum K (tCons te tNil) σ H R := h
end
theorem go_yes {σ : L2.St} {H : Hp} {A B : Hp → Prop} (h : A H) : tYes σ H (fun b H3 => if b = true then A H3 else B H3) := by
  show if true = true then A H else B H
  exact iteT h
section
variable {K : PySem.W.Frag} {B : List (V × D)} {σ : L2.St} {ta tb te : TE} {tr : TA} {d : D} {v : V} {H : Hp} {dk : Dk} {Γ : List (Addr × List D)} {Δ : List (V × D)} {Q : VK}
theorem Dv.isBl {b : Bool} (hS : St K H dk Γ Δ) (h : Dv Δ v (.bool b)) : v = .bl b := by
  cases hS.dp h
  rfl
theorem Dv.isStr {x : Str} (hS : St K H dk Γ Δ) (h : Dv Δ v (.str x)) : v = .str x := by
  cases hS.dp h
  rfl
theorem Dv.isNon (hS : St K H dk Γ Δ) (h : Dv Δ v .none) : v = .non := by
  cases hS.dp h
  rfl
/-- a list or a tuple -/
def Disp : D → Prop
  | .list _ => True
  | .tuple _ => True
  | _ => False
theorem Dv.isRef (hS : St K H dk Γ Δ) (h : Dv Δ v d) (hd : Disp d) : ∃ a, v = .ref a := by
  have g := hS.dp h
  cases d with
  | list ds => cases g; exact ⟨_, rfl⟩
  | tuple ds => cases g; exact ⟨_, rfl⟩
  | none => exact hd.elim
  | bool b => exact hd.elim
  | int i => exact hd.elim
  | str x => exact hd.elim
  | dict x => exact hd.elim
theorem ed_repr {n k : Nat} (h : EvD K B te σ d) (hd : Disp d) (sm : Sm n k d) (hn : n ≤ 16000000) (hk : k ≤ 60) : EvD K B (tCB (rRepr K) (tCons te tNil)) σ (.str d.shown) := fun H dk Γ Δ Q hb hS q =>
  h H dk Γ Δ _ hb hS fun v H1 Δ1 s1 hS1 d1 => by
    obtain ⟨a, rfl⟩ := d1.isRef hS1 hd
    exact ⟨a, d, rfl, hS1.dp d1, sm.show_, Nat.le_trans sm.deep hk, Nat.le_trans sm.long (Nat.le_trans hn (by decide)), q _ _ _ s1 hS1 (.str _)⟩
theorem ed_neS {x y : Str} (h1 : EvD K B ta σ (.str x)) (h2 : EvD K B tb σ (.str y)) : EvD K B (tOp rNe ta tb) σ (.bool (!decide (x = y))) := fun H dk Γ Δ Q hb hS q =>
  h1 H dk Γ Δ _ hb hS fun v H1 Δ1 s1 hS1 d1 => h2 H1 dk Γ Δ1 _ (hb.trans s1) hS1 fun u H2 Δ2 s2 hS2 d2 => by
    obtain rfl := d1.isStr hS1
    obtain rfl := d2.isStr hS2
    have e : decide (V.str x = V.str y) = decide (x = y) := decide_eq_decide.mpr ⟨fun h => V.str.inj h, fun h => by rw [h]⟩
    refine ⟨rfl, ?_⟩
    rw [e]
    exact q _ _ _ (s1.trans s2) hS2 (.bl _)
theorem ed_neB {x y : Bool} (h1 : EvD K B ta σ (.bool x)) (h2 : EvD K B tb σ (.bool y)) : EvD K B (tOp rNe ta tb) σ (.bool (!decide (x = y))) := fun H dk Γ Δ Q hb hS q =>
  h1 H dk Γ Δ _ hb hS fun v H1 Δ1 s1 hS1 d1 => h2 H1 dk Γ Δ1 _ (hb.trans s1) hS1 fun u H2 Δ2 s2 hS2 d2 => by
    obtain rfl := d1.isBl hS1
    obtain rfl := d2.isBl hS2
    have e : decide (V.bl x = V.bl y) = decide (x = y) := decide_eq_decide.mpr ⟨fun h => V.bl.inj h, fun h => by rw [h]⟩
    refine ⟨rfl, ?_⟩
    rw [e]
    exact q _ _ _ (s1.trans s2) hS2 (.bl _)
theorem ed_notB {x y : Bool} (h1 : EvD K B ta σ (.bool x)) (h2 : EvD K B tb σ (.bool y)) : EvD K B (tOp rNotB ta tb) σ (.bool (!decide (x = y))) := fun H dk Γ Δ Q hb hS q =>
  h1 H dk Γ Δ _ hb hS fun v H1 Δ1 s1 hS1 d1 => h2 H1 dk Γ Δ1 _ (hb.trans s1) hS1 fun u H2 Δ2 s2 hS2 d2 => by
    obtain rfl := d1.isBl hS1
    obtain rfl := d2.isBl hS2
    exact ⟨x, y, rfl, rfl, q _ _ _ (s1.trans s2) hS2 (.bl _)⟩
/-- a test that is worth a known truth value -/
theorem EvD.test {b : Bool} {Q : Bool → Hp → Prop} (h : EvD K B te σ (.bool b)) (hb : Sub B Δ) (hS : St K H dk Γ Δ) (q : ∀ H', St K H' dk Γ Δ → Q b H') : tTest te σ H Q :=
  h H dk Γ Δ _ hb hS fun v H1 Δ1 s1 hS1 d1 => by
    obtain rfl := d1.isBl hS1
    exact ⟨b, rfl, q H1 (hS1.weaken s1)⟩
theorem EvD.testB {b : Bool} {Q : Bool → Hp → Prop} (h : EvD K B te σ (.bool b)) (hb : Sub B Δ) (hS : St K H dk Γ Δ) (q : ∀ H', St K H' dk Γ Δ → Q b H') : tB te σ H Q := EvD.test h hb hS q
/-- arguments -/
theorem EvDs.go {ds : List D} {Q : List V → Hp → Prop} (h : EvDs K B tr σ ds) (hb : Sub B Δ) (hS : St K H dk Γ Δ) (q : ∀ vs H' Δ', Sub Δ Δ' → St K H' dk Γ Δ' → DvAll Δ' vs ds → Q vs H') : tr σ H Q := h H dk Γ Δ Q hb hS q
end
end EE

namespace EE
open PySem PySem.Spec PyProof.Rows L2
/-! ### math.lcm of great ints -/
def rLcm : List V → Hp → VK → Prop := fun vs H Q => ∃ a b : Int, vs = [.int a, .int b] ∧ a.natAbs < 2 ^ 12000 ∧ b.natAbs < 2 ^ 12000 ∧ Q (.int ((Nat.lcm a.natAbs b.natAbs : Nat) : Int)) H
theorem cr_lcm {X : Cx} : CallR X (.builtin "math.lcm") rLcm := by
  intro pins s σ H vs us Q I r h
  obtain ⟨a, b, rfl, ha, hb, q⟩ := h
  obtain ⟨t, u, rfl⟩ := Vals.int2 r
  have hp : 1 < 2 ^ 12000 := Nat.one_lt_two_pow (by decide)
  have h1 : (max 1 a.natAbs).log2 ≤ 11999 := PySem.W.mg_log (k := 11999) (Nat.max_lt.mpr ⟨hp, ha⟩)
  have h2 : (max a.natAbs b.natAbs).log2 ≤ 11999 := PySem.W.mg_log (k := 11999) (Nat.max_lt.mpr ⟨ha, hb⟩)
  have h3 : ((((Nat.lcm 1 a.natAbs).lcm b.natAbs : Nat) : Int)).natAbs.log2 < bitsLine := by
    rw [Int.natAbs_natCast, PySem.W.mc_lcm_one]
    refine PySem.W.mc_size (k := 375) ?_ (by decide)
    refine Nat.le_trans (PySem.W.mc_lcm_le _ _) (Nat.le_trans (Nat.mul_le_mul (Nat.le_of_lt ha) (Nat.le_of_lt hb)) ?_)
    rw [← Nat.pow_add]
    exact Nat.pow_le_pow_right (by decide) (by decide)
  refine PySem.call_function_meets PySem.W.MGF.kind_lcm PySem.W.MGF.plain_lcm PySem.W.MGF.entry_lcm (PySem.W.MGF.args_lcm _ _) (PySem.W.mg_run_lcm a t b u (by omega) (by omega) h3).meets ?_
  rw [PySem.W.mc_lcm_one]
  exact ⟨.int _, H, I.tok _, ⟨_, rfl⟩, q⟩
/-! ### repr of a truth value -/
theorem call_repr_bool {X : Cx} : CallR X (.builtin "repr") (fun xs H Q => ∃ b, xs = [.bl b] ∧ Q (.str (if b then "True" else "False")) H) := by
  intro pins s σ H xs us Q I r h
  obtain ⟨b, rfl, q⟩ := h
  obtain ⟨u, rfl, r1⟩ := vals1 r
  cases r1
  exact PySem.P.repr_of_bool ⟨.str _, H, I.tok _, ⟨_, rfl⟩, q⟩
/-! ### defs that may raise -/
structure FdX (P : Program) (w : World) (K : PySem.W.Frag) (mg : Str → Option Value) (base : Heap) (x : Str) (k : Nat) (ps : List Str) (sp : Sp) : Prop where
  ex : ∃ (f : Addr) (fd : FuncData), FnOk P w K mg base (L2.CX P w) k f fd ps sp ∧ mg x = some (.ref f) ∧ PySem.W.keepIn K (.ref f) = true ∧ Binds K fd ps []
structure FkX (P : Program) (w : World) (K : PySem.W.Frag) (mg : Str → Option Value) (base : Heap) (x : Str) (k : Nat) (ps ks : List Str) (gV : List V → List V) (sp : Sp) : Prop where
  ex : ∃ (f : Addr) (fd : FuncData) (g : List Value → List Value), FnOk P w K mg base (L2.CX P w) k f fd ps sp ∧ mg x = some (.ref f) ∧ PySem.W.keepIn K (.ref f) = true ∧ KB fd K ps ks g gV
section
variable {P : Program} {w : World} {K : PySem.W.Frag} {mg : Str → Option Value} {base : Heap}
theorem FdX.mk' {x qual : Str} {st : Stmt} {f : Addr} {fd : FuncData} {k : Nat} {ps : List Str} {sp : Sp} (F : Fun K x qual st f fd) (G : FnOk P w K mg base (L2.CX P w) k f fd ps sp) (hm : mg x = some (.ref f)) (hb : Binds K fd ps []) : FdX P w K mg base x k ps sp :=
  ⟨f, fd, G, hm, F.kp, hb⟩
end
section
variable {X : Cx} {k : Nat} {ps ks : List Str} {gV : List V → List V} {sp : Sp} {x : Str} {p pos : Pos} {e : Expr} {es : List Expr} {t : TA} {kws : List Keyword} {tk : TA} {E : L2.St → XK}
theorem pe_fdX (F : FdX X.prog X.w X.K X.mg X.base x k ps sp) (hr : Room k X.A) (hg : Gl X x) (hx : ∀ σ, PassesAt (L2.CX X.prog X.w) X σ (E σ)) (ha : PA X (e :: es) t) (hdb : (x == ("__debug__" : Str)) = false := by decide) (he : starEach (e :: es) X.env = (false, eval e X.env) :: starEach es X.env := by rfl)
    (hpl : (backTo pos (starEach es X.env)).any (·.1) = false := by rfl) : PE X (.Call (.Name x p) (e :: es) [] pos) (tCallS sp E t) := by
  obtain ⟨f, fd, G, hm, hk, hb⟩ := F.ex
  exact pe_callS G hr hg hm hk hb hx ha hdb he hpl
def tCallKS (sp : Sp) (gV : List V → List V) (E : L2.St → XK) (tk : TA) : TE := fun σ H Q => tk σ H fun zs H2 => sp (gV zs) H2 Q (E σ)
theorem pe_fkX (F : FkX X.prog X.w X.K X.mg X.base x k ps ks gV sp) (hr : Room k X.A) (hg : Gl X x) (hx : ∀ σ, PassesAt (L2.CX X.prog X.w) X σ (E σ)) (hkw : PK X kws tk) (hall : (backToKw pos (keywordEach kws X.env)).all (·.1.isSome) = true := by rfl) (hks : (backToKw pos (keywordEach kws X.env)).filterMap (·.1) = ks := by rfl)
    (hdb : (x == ("__debug__" : Str)) = false := by decide) (hpl : ((backTo pos (starEach [] X.env)).any (·.1) || (backToKw pos (keywordEach kws X.env)).any (·.1.isNone)) = false := by rfl) :
    PE X (.Call (.Name x p) [] kws pos) (tCallKS sp gV E tk) := by
  obtain ⟨f, fd, g, G, hm, hk, hb⟩ := F.ex
  refine ⟨fun pins s σ H Q I h => wpAny_Call_Name_kw (ld_glob I hg hm ?_ hdb)⟩
  refine PySem.W.callWith_KW0 (h₀ := X.base) (first := []) I.ok.mod.kin hk hall (thn (hkw.run pos pins s σ H _ I h) fun ws s2 q => ?_) hpl
  obtain ⟨zs, H2, I2, rz, q2⟩ := q
  refine ⟨I2.kIn, ?_⟩
  rw [hks]
  have r2 := hb.rel rz
  have hl : (g ws).length = ps.length := by
    rw [← r2.length]
    exact G.len _ _ _ _ q2
  refine wpAny_call (codeAny_mono (G.run X.A X.stack s2 H2 ⟨[], ks.zip ws⟩ (g ws) (gV zs) Q (E σ) hr I2.env0 (hb.to s2 ws I2.kIn hl) r2 q2) fun r s' hq => ?_)
  cases r with
  | error e => exact hx σ pins H2 s2 e s' I2 hq
  | ok fl =>
    cases fl with
    | ret u => exact I2.after hq
    | next => exact False.elim hq
    | brk => exact False.elim hq
    | cont => exact False.elim hq
end
/-! ### raise C() -/
section
variable {X : Cx} {C : Addr} {bmB : List Value} {B newId initId : String}
theorem pmk_own0 {x : Str} {p pos : Pos} (F : ExcBaseFacts B newId initId bmB) (q : PySem.W.excIn X.K C bmB newId = true) (gC : X.mg x = some (.ref C)) (kC : PySem.W.keepIn X.K (.ref C) = true) (r : Raises X (.ref C)) (hg : Gl X x)
    (hdb : (x == ("__debug__" : Str)) = false := by decide) : PMk X (.Call (.Name x p) [] [] pos) (fun _ H Q => Q (.ref C) none H) := by
  intro pins s σ H Q I h
  refine wpAny_Call_Name_kw (ld_glob I hg gC ?_ hdb)
  refine PySem.W.callWith_K0 I.kIn kC ?_
  show wpAny _ _ (call (.ref C) []) _ _ _
  obtain ⟨bm, N, nm, qn, bs, hdct, sn, sub, ab, col, dd, k0, k1, k2, k3, k5, mN, hC, hN, hni, T⟩ := exc_obj I.kIn q
  refine wpAny_call_exc_subT F T hC hN hni (fun h' e hm => ?_) (by show 0 ≤ sizeLine; rw [sizeLine_eq]; omega)
  exact mk_of I hm r h (I.hok.gone hm.new)
end
/-! ### the name of a def as a value -/
section
variable {X : Cx} {k : Nat} {ps : List Str} {sp : Sp} {x : Str} {pos : Pos}
theorem pe_fn {f : Addr} (hm : X.mg x = some (.ref f)) (hg : Gl X x) (hd : (x == ("__debug__" : Str)) = false := by decide) : PE X (.Name x pos) (tC (.ref f)) := pe_glob hg hm rfl hd
end
end EE
namespace EE
open PySem PySem.Spec PyProof.Rows L2
/-- an error of the class at S is what «except S» names -/
theorem exm_self {K : PySem.W.Frag} {S : Addr} (h1 : PySem.W.subIn K (.ref S) (.type "BaseException") = some true) (h2 : PySem.W.isClsIn K S = true) (h3 : PySem.W.typeIn K (.ref S) = some (.type "type")) (h4 : PySem.W.subIn K (.ref S) (.ref S) = some true) :
    PySem.W.exmOne K (.ref S) (.ref S) = some true := by
  have e1 : (PySem.W.subIn K (.ref S) (.type "BaseException") == some true) = true := by rw [h1] <;> rfl
  have e2 : ((PySem.W.clsIn K S).isSome && PySem.W.typeIn K (.ref S) == some (.type "type")) = true := by
    have h2' : (PySem.W.clsIn K S).isSome = true := h2
    rw [h2', h3] <;> rfl
  show (if (PySem.W.subIn K (.ref S) (.type "BaseException") == some true) = true then (if ((PySem.W.clsIn K S).isSome && PySem.W.typeIn K (.ref S) == some (.type "type")) = true then PySem.W.subIn K (.ref S) (.ref S) else none) else none) = some true
  rw [if_pos e1, if_pos e2]
  exact h4
/-- isinstance of the error that an except suite holds -/
def rIsE2 (K : PySem.W.Frag) (a : Addr) (cls : Value) (d : Option Addr) : List V → Hp → VK → Prop := fun xs H Q => ∃ D, cls = .ref D ∧ d = none ∧ ExcC K D ∧ rIsE K D a xs H Q
theorem call_isE2 {X : Cx} {a : Addr} {cls : Value} {d : Option Addr} {oe : Obj} {pn : List (Addr × Obj)} (hz : Zc cls d oe) (hf : ∃ vs, oe.data = .fields vs) : CallR (X.suite a ((a, oe) :: pn)) (.builtin "isinstance") (rIsE2 X.K a cls d) := by
  intro pins s σ H xs us Q I r h
  obtain ⟨D, rfl, rfl, C, h⟩ := h
  exact call_isE C hz hf pins s σ H xs us Q I r h
/-- a tuple's type -/
theorem ty_tup {K : PySem.W.Frag} {H : Hp} {a : Addr} {xs : List V} (h : SqT K H a xs) : TyX K H (.ref a) (.type "tuple") := by
  rcases h with (h | ⟨o, h⟩) | ⟨o, us, n, h, hc, _⟩
  · exact .base (.tup h)
  · exact .fTuple h
  · exact .kTuple h hc
end EE
namespace EE
open PySem PySem.Spec PyProof.Rows L2
section
variable {K : PySem.W.Frag} {B : List (V × D)} {σ : L2.St} {ta tb te : TE} {tr : TA} {d : D} {v : V} {i j : Int}
theorem dec_vI {a b : Int} : decide (V.int a = V.int b) = decide (a = b) := decide_eq_decide.mpr ⟨fun h => V.int.inj h, fun h => by rw [h]⟩
theorem dec_vS {a b : Str} : decide (V.str a = V.str b) = decide (a = b) := decide_eq_decide.mpr ⟨fun h => V.str.inj h, fun h => by rw [h]⟩
theorem ed_eqI (h1 : EvD K B ta σ (.int i)) (h2 : EvD K B tb σ (.int j)) : EvD K B (tOp rEq ta tb) σ (.bool (decide (i = j))) := fun H dk Γ Δ Q hb hS q =>
  h1 H dk Γ Δ _ hb hS fun v H1 Δ1 s1 hS1 d1 => h2 H1 dk Γ Δ1 _ (hb.trans s1) hS1 fun u H2 Δ2 s2 hS2 d2 => by
    obtain rfl := d1.isInt hS1
    obtain rfl := d2.isInt hS2
    refine ⟨rfl, ?_⟩
    rw [dec_vI]
    exact q _ _ _ (s1.trans s2) hS2 (.bl _)
theorem ed_eqS {x y : Str} (h1 : EvD K B ta σ (.str x)) (h2 : EvD K B tb σ (.str y)) : EvD K B (tOp rEq ta tb) σ (.bool (decide (x = y))) := fun H dk Γ Δ Q hb hS q =>
  h1 H dk Γ Δ _ hb hS fun v H1 Δ1 s1 hS1 d1 => h2 H1 dk Γ Δ1 _ (hb.trans s1) hS1 fun u H2 Δ2 s2 hS2 d2 => by
    obtain rfl := d1.isStr hS1
    obtain rfl := d2.isStr hS2
    refine ⟨rfl, ?_⟩
    rw [dec_vS]
    exact q _ _ _ (s1.trans s2) hS2 (.bl _)
theorem ed_ixL {ds : List D} {n : Nat} (h : EvD K B ta σ (.list ds)) (e : ds[n]? = some d) : EvD K B (tOp (rIxL K) ta (tC (.int (n : Int)))) σ d := fun H dk Γ Δ Q hb hS q =>
  h H dk Γ Δ _ hb hS fun v H1 Δ1 s1 hS1 d1 => by
    obtain ⟨a, rfl⟩ := d1.isRef hS1 trivial
    have hS2 := hS1.also d1
    obtain ⟨us, hL, hlen, Δ2, rfl, hS3, hv⟩ := hS2.lstAt (List.mem_cons_self ..)
    obtain ⟨w, e1, e2⟩ := dvs_at hv e
    exact ⟨a, us, n, w, rfl, rfl, hL, atI_nat e1, q w H1 _ (fun x hx => List.mem_append_right _ (List.mem_cons_of_mem _ (s1 x hx))) hS3 e2⟩
theorem ed_reprB {b : Bool} (h : EvD K B te σ (.bool b)) : EvD K B (tCB (fun xs H Q => ∃ b, xs = [V.bl b] ∧ Q (.str (if b then "True" else "False")) H) (tCons te tNil)) σ (.str (if b then "True" else "False")) := fun H dk Γ Δ Q hb hS q =>
  h H dk Γ Δ _ hb hS fun v H1 Δ1 s1 hS1 d1 => by
    obtain rfl := d1.isBl hS1
    exact ⟨b, rfl, q _ _ _ s1 hS1 (.str _)⟩
theorem ed_notN0 (h : EvD K B te σ .none) : EvD K B (tOp (fun x y H Q => y = .non ∧ Q (.bl (!decide (x = .non))) H) te (tC .non)) σ (.bool false) := fun H dk Γ Δ Q hb hS q =>
  h H dk Γ Δ _ hb hS fun v H1 Δ1 s1 hS1 d1 => by
    obtain rfl := d1.isNon hS1
    exact ⟨rfl, q _ _ _ s1 hS1 (.bl _)⟩
end
end EE
namespace EE
open PySem PySem.Spec PyProof.Rows L2
/-- isinstance by an own class above -/
theorem kit_own {K : PySem.W.Frag} {t : Value} {S : Addr} (h2 : PySem.W.isClsIn K S = true) (h3 : PySem.W.typeIn K (.ref S) = some (.type "type")) (h4 : PySem.W.subIn K t (.ref S) = some true) : PySem.W.kitOne K t (.ref S) = some true := by
  have h2' : (PySem.W.clsIn K S).isSome = true := h2
  have e2 : ((PySem.W.clsIn K S).isSome && PySem.W.typeIn K (.ref S) == some (.type "type")) = true := by
    rw [h2', h3] <;> rfl
  unfold PySem.W.kitOne
  split
  · rfl
  · show (if ((PySem.W.clsIn K S).isSome && PySem.W.typeIn K (.ref S) == some (.type "type")) = true then PySem.W.subIn K t (.ref S) else none) = some true
    rw [if_pos e2]
    exact h4
end EE

namespace SrtO
open PySem PyProof.Rows Srt
section
variable {prog : Program} {w : World} {A : Around} {E : Value → Shared → Prop} {s : Shared}
theorem collect_tup {l : Addr} {vs : List Value} {Q : List Value → Shared → Prop} (hl : IsTup s.heap l vs.toArray)
    (h : Q vs { s with heap := (s.heap.push (seqObj "list" #[] 0)).update s.heap.objs.size (Obj.mapSeq (· ++ vs.toArray)) }) (hsz : vs.length ≤ sizeLine) :
    wpAny (model prog w) A (collect (.ref l)) Q E s := by
  obtain ⟨o, ho, hc, n, hd⟩ := id hl
  unfold collect
  refine wpAny_bind (wpAny_runValue (codeAny_builtin entry_proto_collect' ?_))
  show wpAny _ _ (do again (.builtin "list.__iadd__" ⟨[← newList [], .ref l], []⟩)) _ _ s
  refine wpAny_bind (wpAny_newList (wpAny_pure ⟨Code.quiet_builtin _ (by decide +kernel), codeAny_builtin entry_list_iadd' ?_⟩))
  show wpAny _ _ (Builtin.List.listExtendWith (.ref s.heap.objs.size) (.ref l) (.ref s.heap.objs.size)) _ _ { s with heap := s.heap.push (seqObj "list" #[] 0) }
  unfold Builtin.List.listExtendWith
  have ho' : (s.heap.push (seqObj "list" #[] 0)).get? l = some o := Heap.get?_push_of_some _ ho
  refine wpAny_bind (wpAny_typeOf (T := "tuple") ⟨o, ho', hc⟩ ?_)
  have ht : (Value.type "tuple" == Value.type "tuple") = true := by rfl
  rw [if_pos (by rw [ht]; simp)]
  refine wpAny_bind (listItems_at ho' hd ?_)
  refine wpAny_bind (listItems_at (xs := #[]) (n := 0) (Heap.get?_push_size _ rfl) rfl ?_)
  rw [if_neg (by simp)]
  refine wpAny_bind (listUpdate_at (xs := #[]) (n := 0) (Heap.get?_push_size _ rfl) rfl ?_ (Nat.zero_le _) (by show (#[] ++ vs.toArray).size ≤ sizeLine + 1; simp only [Array.size_append, List.size_toArray, List.length_nil]; omega))
  refine wpAny_pure ?_
  show wpAny (model prog w) A (do
      let o ← load s.heap.objs.size
      match o.data with
      | .seq xs _ => pure xs.toList
      | _ => unsupported "internal:collect") Q E { s with heap := (s.heap.push (seqObj "list" #[] 0)).update s.heap.objs.size (Obj.mapSeq (· ++ vs.toArray)) }
  refine wpAny_bind (wpAny_load (get?_update_seq (Heap.get?_push_size _ rfl) _) ?_)
  show wpAny _ _ (pure ((#[] : Array Value) ++ vs.toArray).toList) Q E _
  rw [show ((#[] : Array Value) ++ vs.toArray).toList = vs by simp]
  exact wpAny_pure h
theorem sorted_ordT {l : Addr} {vs : List Value} {ltv : Value → Value → Bool} {Q : Value → Shared → Prop} (O : Swo ltv) (hl : IsTup s.heap l vs.toArray) (hz : vs.length ≤ sizeLine)
    (hS : 2 ≤ vs.length → ∀ (h₁ : Heap) (a : Addr), h₁.get? a = some (seqObj "list" vs.toArray 0) → (∀ b o, s.heap.get? b = some o → b ≠ a ∧ h₁.get? b = some o) → SortableO prog w A.in1.in1 { s with heap := h₁ } a vs ltv)
    (h : ∀ out : List Value, Srtd ltv out → Stb ltv out vs → Q (.ref (s.heap.objs.size + 1)) { s with heap := sortedAll s.heap vs out.toArray }) :
    wpAny (model prog w) A (call (.builtin "sorted") [.ref l]) Q E s := by
  refine Calls.call_function_entry kind_sorted plain_sorted entry_sorted (args_sorted1 _) ?_
  unfold Builtin.«sorted»
  refine wpAny_bind (m := checkCount "sorted" 1 1 _) (wpAny_pure ?_)
  refine wpAny_bind (collect_tup hl ?_ hz)
  refine wpAny_bind (wpAny_newList ?_ hz)
  have hsz : ((s.heap.push (seqObj "list" #[] 0)).update s.heap.objs.size (Obj.mapSeq (· ++ vs.toArray))).objs.size = s.heap.objs.size + 1 := by
    rw [Heap.size_update, size_push']
  have hoL : (((s.heap.push (seqObj "list" #[] 0)).update s.heap.objs.size (Obj.mapSeq (· ++ vs.toArray))).push (seqObj "list" vs.toArray 0)).get? (s.heap.objs.size + 1) = some (seqObj "list" vs.toArray 0) := by
    rw [← hsz]; exact Heap.get?_push_size _ rfl
  have keep : ∀ b o, s.heap.get? b = some o → b ≠ s.heap.objs.size + 1 ∧ (((s.heap.push (seqObj "list" #[] 0)).update s.heap.objs.size (Obj.mapSeq (· ++ vs.toArray))).push (seqObj "list" vs.toArray 0)).get? b = some o := fun b o q => by
    have hlt : b < s.heap.objs.size := Heap.lt_size q
    refine ⟨Nat.ne_of_lt (Nat.lt_succ_of_lt hlt), Heap.get?_push_of_some _ ?_⟩
    rw [Heap.get?_update_ne _ _ _ _ (Nat.ne_of_lt hlt)]
    exact Heap.get?_push_of_some _ q
  show wpAny _ _ _ _ _ { s with heap := ((s.heap.push (seqObj "list" #[] 0)).update s.heap.objs.size (Obj.mapSeq (· ++ vs.toArray))).push (seqObj "list" vs.toArray 0) }
  rw [hsz]
  refine wpAny_bind (wpAny_holding (wpAny_call_entry slot_list_sort ⟨_, hoL, rfl⟩ entry_list_sort (list_sort_ord O hoL hz (fun h2 => hS h2 _ _ hoL keep) fun out hs hb => ⟨_, rfl, ?_⟩) (args_list_sort _)))
  exact wpAny_pure ⟨_, rfl, h out hs hb⟩
theorem sorted_pairsT {l : Addr} {vs : List Value} {k : Value → Int × Int} {Q : Value → Shared → Prop} (hl : IsTup s.heap l vs.toArray) (hz : vs.length ≤ sizeLine) (hp : ∀ v ∈ vs, IsPair s.heap v (k v).1 (k v).2)
    (h : ∀ (h' : Heap) (d : Addr) (out : List Value), Srtd (fun v u => lexB (k v) (k u)) out → Stb (fun v u => lexB (k v) (k u)) out vs → (∀ b o, s.heap.get? b = some o → h'.get? b = some o) → s.heap.objs.size ≤ d → (∃ n, h'.get? d = some (seqObj "list" out.toArray n)) → Q (.ref d) { s with heap := h' }) :
    wpAny (model prog w) A (call (.builtin "sorted") [.ref l]) Q E s := by
  refine sorted_ordT (swo_lex k) hl hz (fun h2 h₁ a ha kk => ?_) fun out hs hb => ?_
  · refine pairs_sortableO (s := { s with heap := h₁ }) (by omega) (fun v hm => (hp v hm).keeps fun b o e _ => (kk b o e).2) fun o e => ?_
    have e' : some o = some (seqObj "list" vs.toArray 0) := e.symm.trans ha
    cases e'
    intro c
    exact absurd (Value.type.inj c) (by decide)
  · exact h _ _ out hs hb (fun b o e => sortedAll_old e) (Nat.le_succ _) (sortedAll_at s.heap vs out.toArray)
end
end SrtO
namespace EE
open PySem PySem.Spec PyProof.Rows L2
/-- the two ints that a tuple holds -/
def pairAt (h : Heap) : Value → Int × Int
  | .ref t => match h.get? t with
    | some o => match o.data with
      | .seq its _ => match its.toList with
        | [.int i _, .int j _] => (i, j)
        | _ => (0, 0)
      | _ => (0, 0)
    | none => (0, 0)
  | _ => (0, 0)
/-- sorted(xs), xs a tuple of pairs of ints -/
def rSortedTP (K : PySem.W.Frag) : List V → Hp → VK → Prop := fun vs H Q => ∃ (a : Addr) (xs : List V) (rs : List (Int × Int)), vs = [V.ref a] ∧ SqT K H a xs ∧ xs.length = rs.length ∧ (∀ p ∈ xs.zip rs, ∃ t, p.1 = V.ref t ∧ SqT K H t [.int p.2.1, .int p.2.2]) ∧
  ∀ ys rs' p, ys.length = rs'.length → (ys.zip rs').Perm (xs.zip rs) → rs'.Pairwise (fun x y => SrtO.lexB y x = false) → H p = none → Q (.ref p) (upd H p (.lst ys))
theorem zip_map {α β γ : Type} (f : α → β) (g : α → γ) : ∀ l : List α, (l.map f).zip (l.map g) = l.map fun x => (f x, g x)
  | [] => rfl
  | x :: l => by rw [List.map_cons, List.map_cons, List.zip_cons_cons, zip_map f g l, List.map_cons]
theorem cr_sortedTP {X : Cx} : CallR X (.builtin "sorted") (rSortedTP X.K) := by
  intro pins s σ H vs us Q I r h
  obtain ⟨a, xs, rs, rfl, hs, hlen, hx, q⟩ := h
  obtain ⟨its, rv, hl, hz⟩ := I.tuple hs
  obtain ⟨u, rfl, ru⟩ := vals1 r
  obtain rfl : u = Value.ref a := ru
  have hxr : ∀ x ∈ xs, ∃ t, x = V.ref t := fun x m => by
    obtain ⟨i, hi, e⟩ := List.mem_iff_getElem.mp m
    have hm : (xs[i], rs[i]'(by omega)) ∈ xs.zip rs := by
      have : (xs.zip rs)[i]'(by rw [List.length_zip]; omega) = (xs[i], rs[i]'(by omega)) := List.getElem_zip
      rw [← this]
      exact List.getElem_mem _
    obtain ⟨t, e2, _⟩ := hx _ hm
    exact ⟨t, e.symm.trans e2⟩
  obtain ⟨e1, e2⟩ := refs_back rv hxr
  -- what the heap says
  have look : ∀ p ∈ xs.zip rs, ∃ t, p.1 = V.ref t ∧ pairAt s.heap (.ref t) = p.2 ∧ Srt.IsPair s.heap (.ref t) p.2.1 p.2.2 := fun p hp => by
    obtain ⟨t, et, ht⟩ := hx p hp
    obtain ⟨its2, r2, ⟨o, ho, hc, n, hd⟩, _⟩ := I.tuple ht
    obtain ⟨u1, u2, rfl, ri, rj⟩ := vals2 r2
    obtain ⟨t1, rfl⟩ := ri
    obtain ⟨t2, rfl⟩ := rj
    refine ⟨t, et, ?_, ⟨t, o, t1, t2, n, rfl, ho, hc, hd⟩⟩
    show (match s.heap.get? t with
      | some o => match o.data with
        | .seq its _ => match its.toList with
          | [.int i _, .int j _] => (i, j)
          | _ => (0, 0)
        | _ => (0, 0)
      | none => (0, 0)) = p.2
    rw [ho]
    show (match o.data with
        | .seq its _ => match its.toList with
          | [.int i _, .int j _] => (i, j)
          | _ => (0, 0)
        | _ => ((0, 0) : Int × Int)) = p.2
    rw [hd]
  have hlv : its.length = rs.length := by rw [← rv.length]; exact hlen
  have zi : ∀ i (h1 : i < its.length), ∃ t, its[i] = Value.ref t ∧ pairAt s.heap its[i] = rs[i]'(by omega) ∧ Srt.IsPair s.heap its[i] (rs[i]'(by omega)).1 (rs[i]'(by omega)).2 := fun i h1 => by
    have hxl : i < xs.length := by omega
    have hm : (xs[i], rs[i]'(by omega)) ∈ xs.zip rs := by
      have : (xs.zip rs)[i]'(by rw [List.length_zip]; omega) = (xs[i], rs[i]'(by omega)) := List.getElem_zip
      rw [← this]
      exact List.getElem_mem _
    obtain ⟨t, et, p1, p2⟩ := look _ hm
    obtain ⟨t', et'⟩ := e2 _ (List.getElem_mem h1)
    have : xs[i] = backV its[i] := by
      have := congrArg (fun l : List V => l[i]?) e1
      simpa [hxl, h1] using this
    rw [et'] at this
    have e3 : V.ref t = V.ref t' := et.symm.trans this
    cases e3
    rw [et']
    exact ⟨t, rfl, p1, p2⟩
  have er : rs = its.map (pairAt s.heap) := by
    refine List.ext_getElem (by rw [List.length_map]; omega) fun i h1 h2 => ?_
    rw [List.getElem_map]
    obtain ⟨_, _, e, _⟩ := zi i (by omega)
    exact e.symm
  have ez : xs.zip rs = its.map fun u => (backV u, pairAt s.heap u) := by
    rw [e1, er, zip_map]
  refine SrtO.sorted_pairsT (k := pairAt s.heap) hl (by rw [← rv.length]; exact hz) (fun v hv => ?_) fun h' d out h1 h2 kp hd hn => ?_
  · obtain ⟨i, hi, e⟩ := List.mem_iff_getElem.mp hv
    obtain ⟨_, _, e3, e4⟩ := zi i hi
    rw [← e, e3]
    exact e4
  · have h3 : ∀ u ∈ out, ∃ a, u = Value.ref a := fun u hu => e2 u (h2.perm.mem_iff.mp hu)
    obtain ⟨n, hn⟩ := hn
    refine ⟨.ref d, upd H d (.lst (out.map backV)), I.laid (t' := s.toks) kp hd ⟨?_, out, n, vals_back h3, hn⟩, rfl, q _ (out.map (pairAt s.heap)) d (by rw [List.length_map, List.length_map]) ?_ (List.pairwise_map.mpr h1) (I.hok.fresh hd)⟩
    · rw [List.length_map, h2.perm.length_eq, ← rv.length]
      exact hz
    · rw [zip_map, ez]
      exact h2.perm.map _
end EE

namespace EE
open PySem PySem.Spec PyProof.Rows L2
/-! ### the mathematics -/
abbrev Rule := Int × Int
def ruleD (r : Rule) : D := .tuple [.int r.1, .int r.2]
def scaleD (rs : List Rule) : D := .tuple (rs.map ruleD)
def fitR (r : Rule) (n : Int) : Bool := decide ((if n < 0 then -n else n) ≤ r.1) || (!decide (r.2 = 0) && decide (n % r.2 = 0))
def fitsAll (rs : List Rule) (n : Int) : Bool := rs.all fun r => fitR r n
def sp_law_deck (K : PySem.W.Frag) : Sp := fun vs H Q _ => ∃ (a : Addr) (ns : List Int), vs = [.ref a] ∧ SqL K H a (ns.map V.int) ∧ ns.length ≤ 63 ∧ ∀ H' d l, St K H' (some (d, l)) [] [] → Q (.ref d) H'
def sp_law_draw (K : PySem.W.Frag) : Sp := fun vs H Q _ => ∃ (d l : Addr) (m : Int) (Γ : List (Addr × List D)) (Δ : List (V × D)), vs = [.ref d, .int m] ∧ St K H (some (d, l)) Γ Δ ∧ 1 ≤ m ∧ m.natAbs < 2 ^ 8000 ∧
  ∀ H' r, St K H' (some (d, l)) Γ Δ → 0 ≤ r → r < m → Q (.int r) H'
def sp_law_pick (K : PySem.W.Frag) : Sp := fun vs H Q _ => ∃ (d l a : Addr) (ds : List D) (Γ : List (Addr × List D)) (Δ : List (V × D)), vs = [.ref d, .ref a] ∧ St K H (some (d, l)) Γ Δ ∧ (V.ref a, PyData.list ds) ∈ Δ ∧ ds ≠ [] ∧ ds.length ≤ 10000 ∧
  ∀ H' v x, x ∈ ds → St K H' (some (d, l)) Γ ((v, x) :: Δ) → Q v H'
/-! ### draws and picks as steps -/
section
variable {K : PySem.W.Frag} {B : List (V × D)} {σ : L2.St} {H : Hp} {d l : Addr} {Γ : List (Addr × List D)} {Δ : List (V × D)} {te : TE} {ds : List D} {m : Int} {Q : VK} {E : XK} {i : Nat}
theorem go_draw (e : σ[i]? = some (some (.ref d))) (h : EvD K B te σ (.int m)) (hb : Sub B Δ) (hS : St K H (some (d, l)) Γ Δ) (h1 : 1 ≤ m) (hm : m.natAbs < 2 ^ 8000) (q : ∀ H' r, St K H' (some (d, l)) Γ Δ → 0 ≤ r → r < m → Q (.int r) H') :
    tCall (sp_law_draw K) [] E (tCons (tVar i) (tCons te tNil)) σ H Q :=
  ⟨_, e, h H _ Γ Δ _ hb hS fun v H1 Δ1 s1 hS1 d1 => by
    obtain rfl := d1.isInt hS1
    exact ⟨d, l, m, Γ, Δ, rfl, hS1.weaken s1, h1, hm, q⟩⟩
theorem go_pick (e : σ[i]? = some (some (.ref d))) (h : EvD K B te σ (.list ds)) (hb : Sub B Δ) (hS : St K H (some (d, l)) Γ Δ) (hne : ds ≠ []) (hz : ds.length ≤ 10000) (q : ∀ H' v x, x ∈ ds → St K H' (some (d, l)) Γ ((v, x) :: Δ) → Q v H') :
    tCall (sp_law_pick K) [] E (tCons (tVar i) (tCons te tNil)) σ H Q :=
  ⟨_, e, h.go hb hS fun v H1 hS1 => by
    obtain ⟨a, rfl⟩ := hS1.lref_of (List.mem_cons_self ..)
    exact ⟨d, l, a, ds, Γ, _, rfl, hS1, List.mem_cons_self .., hne, hz, fun H' v x hx hS2 => q H' v x hx (hS2.weaken fun y hy => by
      rcases List.mem_cons.mp hy with rfl | hy
      · exact List.mem_cons_self ..
      · exact List.mem_cons_of_mem _ (List.mem_cons_of_mem _ hy))⟩⟩
end
theorem small8000 {m : Int} (h0 : 0 ≤ m) (h : m ≤ 10 ^ 70) : m.natAbs < 2 ^ 8000 := by
  have e : (10 : Nat) ^ 70 < 2 ^ 8000 := by decide +kernel
  have : m.natAbs ≤ 10 ^ 70 := by omega
  exact Nat.lt_of_le_of_lt this e
def unrule : D → Rule
  | .tuple [.int a, .int b] => (a, b)
  | _ => (0, 0)
theorem perm_rules {es : List D} {rs : List Rule} (h : es.Perm (rs.map ruleD)) : ∃ rs' : List Rule, es = rs'.map ruleD ∧ rs'.Perm rs := by
  refine ⟨es.map unrule, ?_, ?_⟩
  · have hall : ∀ e ∈ es, (ruleD ∘ unrule) e = e := fun e he => by
      obtain ⟨r, _, rfl⟩ := List.mem_map.mp (h.subset he)
      rfl
    rw [List.map_map, List.map_congr_left hall]
    exact (List.map_id' es).symm
  · have g := h.map unrule
    rw [List.map_map] at g
    have e : rs.map (unrule ∘ ruleD) = rs := by
      have : (unrule ∘ ruleD) = id := by
        funext r
        rfl
      rw [this, List.map_id]
    rw [e] at g
    exact g
theorem lay_rules (rs : List Rule) : Lay 60 (rs.map ruleD) := lay_of fun d hd => by
  obtain ⟨r, _, rfl⟩ := List.mem_map.mp hd
  unfold ruleD
  exact ⟨by simp [PyData.canLay0, PyData.canLayAll0], by simp [PyData.depth, PyData.depthAll]⟩
theorem cut_take (xs : List V) (n : Nat) : cutV xs none (some (n : Int)) = xs.take n := by
  unfold cutV
  rw [HT.sIx_nat, HT.sIx_none, List.drop_zero, Nat.sub_zero]
  by_cases h : n ≤ xs.length
  · rw [Nat.min_eq_left h]
  · rw [Nat.min_eq_right (by omega), List.take_of_length_le (Nat.le_refl _), List.take_of_length_le (by omega)]
/-- found != [] -/
theorem go_ne {K : PySem.W.Frag} {σ : L2.St} {H : Hp} {dk : Dk} {Γ : List (Addr × List D)} {Δ : List (V × D)} {f : Addr} {rs : List Rule} {i : Nat} {Q : VK} (e : σ[i]? = some (some (.ref f))) (hS : St K H dk ((f, rs.map ruleD) :: Γ) Δ)
    (q : ∀ H', St K H' dk ((f, rs.map ruleD) :: Γ) Δ → Q (.bl (!rs.isEmpty)) H') : tOp (rNeD K) (tVar i) (tLst tNil) σ H Q := by
  refine ⟨_, e, Nat.zero_le _, fun u hu => ?_⟩
  have hS6 := hS.lst (ds := []) hu .nil
  refine ne_nil_list (ds := rs.map ruleD) ((hS6.weaken (Δ' := []) fun _ h => nomatch h).freeze.dp (.of (List.mem_cons_self ..))) (.lst (SqL.of upd_same) .nil) (lay_rules rs) ?_
  rw [List.isEmpty_map]
  exact q _ (hS6.weaken fun _ => List.mem_cons_of_mem _)

theorem dv_ints {Δ : List (V × D)} : ∀ ns : List Int, DvAll Δ (ns.map V.int) (ns.map PyData.int)
  | [] => .nil
  | n :: ns => .cons (.int n) (dv_ints ns)
/-! ### sorted scales -/
def SortedR (rs : List Rule) : Prop := rs.Pairwise fun x y => SrtO.lexB y x = false
theorem dv_zip {Δ : List (V × D)} : ∀ {xs : List V} {rs : List Rule}, xs.length = rs.length → (∀ p ∈ xs.zip rs, Dv Δ p.1 (ruleD p.2)) → DvAll Δ xs (rs.map ruleD)
  | [], [], _, _ => .nil
  | x :: xs, r :: rs, h, g => .cons (g (x, r) (List.mem_cons_self ..)) (dv_zip (Nat.succ.inj h) fun p hp => g p (List.mem_cons_of_mem _ hp))
theorem zip_dv {Δ : List (V × D)} : ∀ {xs : List V} {rs : List Rule}, DvAll Δ xs (rs.map ruleD) → ∀ p ∈ xs.zip rs, Dv Δ p.1 (ruleD p.2)
  | [], [], _, p, hp => nomatch hp
  | [], _ :: _, h, _, _ => nomatch h
  | _ :: _, [], h, _, _ => nomatch h
  | x :: xs, r :: rs, .cons h1 h2, p, hp => by
    rcases List.mem_cons.mp hp with rfl | hp
    · exact h1
    · exact zip_dv h2 p hp
theorem perm_snd {xs ys : List V} {rs rs' : List Rule} (h1 : ys.length = rs'.length) (h2 : xs.length = rs.length) (h : (ys.zip rs').Perm (xs.zip rs)) : rs'.Perm rs := by
  have e : ∀ {zs : List V} {qs : List Rule}, zs.length = qs.length → (zs.zip qs).map Prod.snd = qs := fun {zs qs} h => List.map_snd_zip (by omega)
  have g := h.map Prod.snd
  rw [e h1, e h2] at g
  exact g
/-- what sorted() of a scale asks and gives -/
theorem St.sortT {K : PySem.W.Frag} {H : Hp} {dk : Dk} {Γ : List (Addr × List D)} {Δ : List (V × D)} {a : Addr} {rs : List Rule} (hS : St K H dk Γ Δ) (hm : (V.ref a, scaleD rs) ∈ Δ) :
    ∃ xs, SqT K H a xs ∧ xs.length = rs.length ∧ (∀ p ∈ xs.zip rs, ∃ t, p.1 = V.ref t ∧ SqT K H t [.int p.2.1, .int p.2.2]) ∧
      ∀ ys rs' p, ys.length = rs'.length → (ys.zip rs').Perm (xs.zip rs) → H p = none → rs'.Perm rs ∧ St K (upd H p (.lst ys)) dk ((p, rs'.map ruleD) :: Γ) Δ := by
  obtain ⟨xs, hT, hlen, Δ', rfl, hS', hv⟩ := hS.tupAt hm
  have hl : xs.length = rs.length := by rw [hlen, List.length_map]
  have hz := zip_dv hv
  refine ⟨xs, hT, hl, fun p hp => ?_, fun ys rs' p h1 h2 h3 => ⟨perm_snd h1 hl h2, ?_⟩⟩
  · have d := hz p hp
    obtain ⟨t, et⟩ := d.isRef hS' trivial
    rw [et] at d
    exact ⟨t, et, (hS'.also d).pair (List.mem_cons_self ..)⟩
  · exact (hS'.make h3 (dv_zip h1 fun q hq => hz q (h2.mem_iff.mp hq))).weaken fun x hx => List.mem_append_right _ hx
/-! ### stretches -/
abbrev Row := Int × Option Int × Nat
def optD : Option Int → D
  | none => .none
  | some i => .int i
def optV : Option Int → V
  | none => .non
  | some i => .int i
def rowD (r : Row) : D := .tuple [.int r.1, optD r.2.1, .int (r.2.2 : Int)]
def rowsOf (low : Int) (c : Nat) : List Rule → List Row
  | [] => [(low, none, c)]
  | r :: L => (low, some r.1, c) :: if r.2 = 0 then [] else rowsOf (r.1 + 1) (Nat.lcm c r.2.natAbs) L
theorem dv_opt {Δ : List (V × D)} {o : Option Int} : Dv Δ (optV o) (optD o) := by
  cases o with
  | none => exact .non
  | some i => exact .int i
theorem is_opt {K : PySem.W.Frag} {H : Hp} {dk : Dk} {Γ : List (Addr × List D)} {Δ : List (V × D)} {v : V} {o : Option Int} (hS : St K H dk Γ Δ) (h : Dv Δ v (optD o)) : v = optV o := by
  cases o with
  | none => exact h.isNon hS
  | some i => exact h.isInt hS
theorem St.row {K : PySem.W.Frag} {H : Hp} {dk : Dk} {Γ : List (Addr × List D)} {Δ : List (V × D)} {a : Addr} {r : Row} (hS : St K H dk Γ Δ) (hm : (V.ref a, rowD r) ∈ Δ) : SqT K H a [.int r.1, optV r.2.1, .int (r.2.2 : Int)] := by
  obtain ⟨vs, hT, hlen, Δ', rfl, hS', hv⟩ := hS.tupAt hm
  cases hv with | cons d1 v1 => cases v1 with | cons d2 v2 => cases v2 with | cons d3 v3 =>
  cases v3
  obtain rfl := d1.isInt hS'
  obtain rfl := is_opt hS' d2
  obtain rfl := d3.isInt hS'
  exact hT
end EE

namespace EE
open PySem PySem.Spec PyProof.Rows L2
/-! ### counting -/
def cntP (P : Int → Bool) (a : Int) : Nat → Nat
  | 0 => 0
  | k + 1 => cntP P a k + if P (a + k) = true then 1 else 0
theorem cnt_congr {P Q : Int → Bool} {a : Int} : ∀ {k : Nat}, (∀ i : Int, a ≤ i → i < a + k → P i = Q i) → cntP P a k = cntP Q a k
  | 0, _ => rfl
  | k + 1, h => by
    show cntP P a k + _ = cntP Q a k + _
    rw [cnt_congr fun i h1 h2 => h i h1 (by omega), h (a + k) (by omega) (by omega)]
theorem cnt_zero {P : Int → Bool} {a : Int} : ∀ {k : Nat}, (∀ i : Int, a ≤ i → i < a + k → P i = false) → cntP P a k = 0
  | 0, _ => rfl
  | k + 1, h => by
    show cntP P a k + (if P (a + k) = true then 1 else 0) = 0
    rw [cnt_zero fun i h1 h2 => h i h1 (by omega), h (a + k) (by omega) (by omega)]
    rfl
theorem cnt_add {P : Int → Bool} {a : Int} {j : Nat} : ∀ {k : Nat}, cntP P a (j + k) = cntP P a j + cntP P (a + j) k
  | 0 => rfl
  | k + 1 => by
    show cntP P a (j + k) + (if P (a + (j + k : Nat)) = true then 1 else 0) = cntP P a j + (cntP P (a + j) k + if P (a + j + k) = true then 1 else 0)
    rw [cnt_add, show a + ((j + k : Nat) : Int) = a + j + k by omega, Nat.add_assoc]
theorem cnt_one {P : Int → Bool} {a : Int} : cntP P a 1 = if P a = true then 1 else 0 := by
  show 0 + (if P (a + (0 : Nat)) = true then 1 else 0) = _
  rw [Nat.zero_add, show a + ((0 : Nat) : Int) = a by omega]
theorem cnt_head {P : Int → Bool} {a : Int} {k : Nat} : cntP P a (k + 1) = (if P a = true then 1 else 0) + cntP P (a + 1) k := by
  rw [Nat.add_comm k 1, cnt_add, cnt_one]
  rfl
theorem cnt_mirror {P : Int → Bool} (hP : ∀ i, P (-i) = P i) : ∀ {k : Nat} {a : Int}, cntP P (-(a + k - 1)) k = cntP P a k
  | 0, _ => rfl
  | k + 1, a => by
    have e : -(a + ((k + 1 : Nat) : Int) - 1) = -(a + k) := by omega
    rw [e, cnt_head, hP (a + k), show -(a + (k : Int)) + 1 = -(a + k - 1) by omega, cnt_mirror hP]
    show _ = cntP P a k + (if P (a + k) = true then 1 else 0)
    omega
def mulP (c : Nat) (n : Int) : Bool := decide (n % (c : Int) = 0)
theorem div_step {c : Int} (hc : 0 < c) (m : Int) : (m + 1) / c = m / c + if (m + 1) % c = 0 then 1 else 0 := by
  have h1 := Int.emod_add_mul_ediv m c
  have h2 := Int.emod_nonneg m (show c ≠ 0 by omega)
  have h3 := Int.emod_lt_of_pos m hc
  by_cases h : m % c + 1 = c
  · obtain ⟨q1, q2⟩ := (Int.ediv_emod_unique (a := m + 1) (r := 0) (q := m / c + 1) hc).mpr ⟨by rw [Int.mul_add, Int.mul_one]; omega, Int.le_refl 0, hc⟩
    rw [q1, q2, if_pos rfl]
  · obtain ⟨q1, q2⟩ := (Int.ediv_emod_unique (a := m + 1) (r := m % c + 1) (q := m / c) hc).mpr ⟨by omega, by omega, by omega⟩
    rw [q1, q2, if_neg (by omega), Int.add_zero]
theorem cnt_mult {c : Nat} (hc : 0 < c) {a : Int} : ∀ {k : Nat}, (cntP (mulP c) a k : Int) = (a + k - 1) / (c : Int) - (a - 1) / (c : Int)
  | 0 => by
    show (0 : Int) = _
    rw [show a + ((0 : Nat) : Int) - 1 = a - 1 by omega]
    omega
  | k + 1 => by
    have ih := cnt_mult (c := c) hc (a := a) (k := k)
    have st := div_step (c := (c : Int)) (by omega) (a + k - 1)
    rw [show a + (k : Int) - 1 + 1 = a + k by omega] at st
    rw [show a + ((k + 1 : Nat) : Int) - 1 = a + k by omega, st]
    show ((cntP (mulP c) a k + (if mulP c (a + k) = true then 1 else 0) : Nat) : Int) = _
    rw [Int.natCast_add, ih]
    unfold mulP
    by_cases h : (a + (k : Int)) % (c : Int) = 0
    · rw [if_pos h, decide_eq_true h, if_pos rfl]
      omega
    · rw [if_neg h, decide_eq_false h, if_neg Bool.false_ne_true]
      omega
/-! ### what fits, stretch by stretch -/
def FitC (c : Nat) (L : List Rule) (n : Int) : Bool := mulP c n && fitsAll L n
def Asc (L : List Rule) : Prop := L.Pairwise fun x y => x.1 ≤ y.1
theorem asc_of {L : List Rule} (h : SortedR L) : Asc L := h.imp fun {x y} g => by
  have := SrtO.lexB_no.mp g
  omega
theorem fit_pos {r : Rule} {n : Int} (h : 0 ≤ n) : fitR r n = (decide (n ≤ r.1) || (!decide (r.2 = 0) && decide (n % r.2 = 0))) := by
  unfold fitR
  rw [if_neg (by omega)]
theorem fits_low {L : List Rule} {n b : Int} (h0 : 0 ≤ n) (h1 : n ≤ b) (h : ∀ r ∈ L, b ≤ r.1) : fitsAll L n = true := by
  unfold fitsAll
  rw [List.all_eq_true]
  intro r hr
  have := h r hr
  rw [fit_pos h0, decide_eq_true (show n ≤ r.1 by omega)]
  rfl
theorem fitc_low {c : Nat} {r : Rule} {L : List Rule} {n : Int} (hA : Asc (r :: L)) (h0 : 0 ≤ n) (h1 : n ≤ r.1) : FitC c (r :: L) n = mulP c n := by
  unfold FitC
  rw [fits_low (b := r.1) h0 h1 fun q hq => ?_, Bool.and_true]
  rcases List.mem_cons.mp hq with rfl | hq
  · exact Int.le_refl _
  · exact (List.pairwise_cons.mp hA).1 q hq
theorem fits_cons {r : Rule} {L : List Rule} {n : Int} : fitsAll (r :: L) n = (fitR r n && fitsAll L n) := rfl
theorem fitc_stop {c : Nat} {r : Rule} {L : List Rule} {n : Int} (h0 : 0 ≤ n) (h1 : r.1 < n) (hz : r.2 = 0) : FitC c (r :: L) n = false := by
  unfold FitC
  rw [fits_cons, fit_pos h0, decide_eq_false (by omega), decide_eq_true hz]
  simp
theorem lcm_mul {c s : Nat} {n : Int} : mulP (Nat.lcm c s) n = (mulP c n && mulP s n) := by
  unfold mulP
  rw [Bool.eq_iff_iff, Bool.and_eq_true, decide_eq_true_eq, decide_eq_true_eq, decide_eq_true_eq, ← Int.dvd_iff_emod_eq_zero, ← Int.dvd_iff_emod_eq_zero, ← Int.dvd_iff_emod_eq_zero]
  rw [← Int.natAbs_dvd_natAbs, ← Int.natAbs_dvd_natAbs, ← Int.natAbs_dvd_natAbs, Int.natAbs_natCast, Int.natAbs_natCast, Int.natAbs_natCast]
  exact Nat.lcm_dvd_iff
theorem fitc_go {c : Nat} {r : Rule} {L : List Rule} {n : Int} (h0 : 0 ≤ n) (h1 : r.1 < n) (hz : r.2 ≠ 0) (hp : 0 ≤ r.2) : FitC c (r :: L) n = FitC (Nat.lcm c r.2.natAbs) L n := by
  unfold FitC
  rw [fits_cons, fit_pos h0, decide_eq_false (by omega), decide_eq_false hz, lcm_mul]
  have e : decide (n % r.2 = 0) = mulP r.2.natAbs n := by
    unfold mulP
    rw [Int.natAbs_of_nonneg hp]
  rw [e, Bool.false_or, Bool.not_false, Bool.true_and, Bool.and_assoc]
/-- the bounds stand in order, from low on -/
structure RowsOk (low : Int) (c : Nat) (L : List Rule) : Prop where
  asc : Asc L
  low0 : 0 ≤ low
  c0 : 0 < c
  all : ∀ r ∈ L, low ≤ r.1 + 1 ∧ 0 ≤ r.1 ∧ 0 ≤ r.2
theorem RowsOk.tail {low : Int} {c : Nat} {r : Rule} {L : List Rule} (h : RowsOk low c (r :: L)) (hz : r.2 ≠ 0) : RowsOk (r.1 + 1) (Nat.lcm c r.2.natAbs) L := by
  obtain ⟨_, r1, r2⟩ := h.all r (List.mem_cons_self ..)
  refine ⟨(List.pairwise_cons.mp h.asc).2, by omega, Nat.lcm_pos h.c0 (by omega), fun q hq => ?_⟩
  have := (List.pairwise_cons.mp h.asc).1 q hq
  obtain ⟨_, q1, q2⟩ := h.all q (List.mem_cons_of_mem _ hq)
  exact ⟨by omega, q1, q2⟩
def lesserI (top : Int) : Option Int → Int
  | none => top
  | some h => if h < top then h else top
def manyR (top : Int) : List Row → Int
  | [] => 0
  | r :: R => (if r.1 ≤ lesserI top r.2.1 then lesserI top r.2.1 / (r.2.2 : Int) - (r.1 - 1) / (r.2.2 : Int) else 0) + manyR top R
theorem many_first {low m : Int} {c : Nat} (hc : 0 < c) : (if low ≤ m then m / (c : Int) - (low - 1) / (c : Int) else 0) = (cntP (mulP c) low (m - low + 1).toNat : Int) := by
  by_cases h : low ≤ m
  · rw [if_pos h, cnt_mult hc, show low + ((m - low + 1).toNat : Int) - 1 = m by omega]
  · rw [if_neg h, show (m - low + 1).toNat = 0 by omega]
    rfl
theorem many_rows {top : Int} : ∀ {L : List Rule} {low : Int} {c : Nat}, RowsOk low c L → manyR top (rowsOf low c L) = (cntP (FitC c L) low (top - low + 1).toNat : Int)
  | [], low, c, h => by
    show (if low ≤ top then top / (c : Int) - (low - 1) / (c : Int) else 0) + 0 = _
    rw [Int.add_zero, many_first h.c0]
    congr 1
    refine cnt_congr fun i _ _ => ?_
    unfold FitC
    rw [show fitsAll [] i = true from rfl, Bool.and_true]
  | r :: L, low, c, h => by
    obtain ⟨r0, r1, r2⟩ := h.all r (List.mem_cons_self ..)
    have l0 := h.low0
    show (if low ≤ lesserI top (some r.1) then lesserI top (some r.1) / (c : Int) - (low - 1) / (c : Int) else 0) + manyR top (if r.2 = 0 then [] else rowsOf (r.1 + 1) (Nat.lcm c r.2.natAbs) L) = _
    rw [many_first h.c0]
    by_cases ht : r.1 < top
    · have e1 : lesserI top (some r.1) = r.1 := if_pos ht
      rw [e1, show (top - low + 1).toNat = (r.1 - low + 1).toNat + (top - (r.1 + 1) + 1).toNat by omega, cnt_add, Int.natCast_add, show low + ((r.1 - low + 1).toNat : Int) = r.1 + 1 by omega]
      congr 1
      · congr 1
        exact cnt_congr fun i h1 h2 => (fitc_low h.asc (by omega) (by omega)).symm
      · by_cases hz : r.2 = 0
        · rw [if_pos hz, cnt_zero fun i h1 h2 => fitc_stop (by omega) (by omega) hz]
          rfl
        · rw [if_neg hz, many_rows (h.tail hz)]
          congr 1
          exact cnt_congr fun i h1 h2 => (fitc_go (by omega) (by omega) hz r2).symm
    · have e1 : lesserI top (some r.1) = top := if_neg ht
      rw [e1]
      have e2 : manyR top (if r.2 = 0 then [] else rowsOf (r.1 + 1) (Nat.lcm c r.2.natAbs) L) = 0 := by
        by_cases hz : r.2 = 0
        · rw [if_pos hz]
          rfl
        · rw [if_neg hz, many_rows (h.tail hz), show (top - (r.1 + 1) + 1).toNat = 0 by omega]
          rfl
      rw [e2, Int.add_zero]
      congr 1
      exact cnt_congr fun i h1 h2 => (fitc_low h.asc (by omega) (by omega)).symm
/-! ### the least from a number on -/
def IsLeastP (P : Int → Bool) (a : Int) (o : Option Int) : Prop :=
  match o with
  | some m => a ≤ m ∧ P m = true ∧ ∀ k, a ≤ k → k < m → P k = false
  | none => ∀ k, a ≤ k → P k = false
theorem least_uniq {P : Int → Bool} {a : Int} {o o' : Option Int} (h : IsLeastP P a o) (h' : IsLeastP P a o') : o = o' := by
  cases o with
  | none =>
    cases o' with
    | none => rfl
    | some m => exact absurd (h m h'.1) (by rw [h'.2.1]; decide)
  | some m =>
    cases o' with
    | none => exact absurd (h' m h.1) (by rw [h.2.1]; decide)
    | some m' =>
      by_cases c : m < m'
      · exact absurd (h'.2.2 m h.1 c) (by rw [h.2.1]; decide)
      · by_cases c2 : m' < m
        · exact absurd (h.2.2 m' h'.1 c2) (by rw [h'.2.1]; decide)
        · congr 1
          omega
def firstMul (c : Nat) (low : Int) : Int := (low + (c : Int) - 1) / (c : Int) * (c : Int)
theorem first_mul {c : Nat} (hc : 0 < c) (a : Int) : a ≤ firstMul c a ∧ mulP c (firstMul c a) = true ∧ ∀ k, a ≤ k → k < firstMul c a → mulP c k = false := by
  have hc' : (0 : Int) < c := by omega
  unfold firstMul mulP
  have h1 := Int.emod_add_mul_ediv (a + (c : Int) - 1) c
  have h2 := Int.emod_nonneg (a + (c : Int) - 1) (show (c : Int) ≠ 0 by omega)
  have h3 := Int.emod_lt_of_pos (a + (c : Int) - 1) hc'
  rw [Int.mul_comm] at h1
  generalize (a + (c : Int) - 1) / (c : Int) = q at h1
  refine ⟨by omega, decide_eq_true (Int.mul_emod_left _ _), fun k k1 k2 => decide_eq_false fun e => ?_⟩
  obtain ⟨j, rfl⟩ := Int.dvd_of_emod_eq_zero e
  have hq : (q - 1) * (c : Int) < j * c := by
    rw [Int.sub_mul, Int.one_mul, Int.mul_comm j]
    omega
  have hq2 : j * (c : Int) < q * c := by
    rw [Int.mul_comm j]
    omega
  have a1 := Int.lt_of_mul_lt_mul_right hq (by omega)
  have a2 := Int.lt_of_mul_lt_mul_right hq2 (by omega)
  omega
def maxI (a b : Int) : Int := if b > a then b else a
def leastR (num : Int) : List Row → Option Int
  | [] => none
  | r :: R => match r.2.1 with
    | none => some (firstMul r.2.2 (maxI r.1 num))
    | some h => if firstMul r.2.2 (maxI r.1 num) ≤ h then some (firstMul r.2.2 (maxI r.1 num)) else leastR num R
theorem least_rows {num : Int} : ∀ {L : List Rule} {low : Int} {c : Nat}, RowsOk low c L → IsLeastP (FitC c L) (maxI low num) (leastR num (rowsOf low c L))
  | [], low, c, h => by
    obtain ⟨f1, f2, f3⟩ := first_mul h.c0 (maxI low num)
    have e : ∀ i, FitC c [] i = mulP c i := fun i => by
      unfold FitC
      rw [show fitsAll [] i = true from rfl, Bool.and_true]
    exact ⟨f1, by rw [e]; exact f2, fun k h1 h2 => by rw [e]; exact f3 k h1 h2⟩
  | r :: L, low, c, h => by
    obtain ⟨r0, r1, r2⟩ := h.all r (List.mem_cons_self ..)
    have l0 := h.low0
    obtain ⟨f1, f2, f3⟩ := first_mul h.c0 (maxI low num)
    have m0 : low ≤ maxI low num := by unfold maxI; split <;> omega
    show IsLeastP (FitC c (r :: L)) (maxI low num) (if firstMul c (maxI low num) ≤ r.1 then some (firstMul c (maxI low num)) else leastR num (if r.2 = 0 then [] else rowsOf (r.1 + 1) (Nat.lcm c r.2.natAbs) L))
    by_cases hf : firstMul c (maxI low num) ≤ r.1
    · rw [if_pos hf]
      exact ⟨f1, by rw [fitc_low h.asc (by omega) hf]; exact f2, fun k h1 h2 => by rw [fitc_low h.asc (by omega) (by omega)]; exact f3 k h1 h2⟩
    · rw [if_neg hf]
      have hlow : ∀ k, maxI low num ≤ k → k ≤ r.1 → FitC c (r :: L) k = false := fun k h1 h2 => by
        rw [fitc_low h.asc (by omega) h2]
        exact f3 k h1 (by omega)
      by_cases hz : r.2 = 0
      · rw [if_pos hz]
        show ∀ k, maxI low num ≤ k → FitC c (r :: L) k = false
        intro k hk
        by_cases hkr : k ≤ r.1
        · exact hlow k hk hkr
        · exact fitc_stop (by omega) (by omega) hz
      · rw [if_neg hz]
        have ih := least_rows (num := num) (h.tail hz)
        have mm : ∀ k, maxI low num ≤ k → r.1 < k → maxI (r.1 + 1) num ≤ k := fun k h1 h2 => by
          unfold maxI at h1 ⊢
          split at h1 <;> split <;> omega
        have mn : maxI low num ≤ maxI (r.1 + 1) num ∧ r.1 < maxI (r.1 + 1) num := by
          unfold maxI
          split <;> split <;> omega
        cases e : leastR num (rowsOf (r.1 + 1) (Nat.lcm c r.2.natAbs) L) with
        | none =>
          rw [e] at ih
          show ∀ k, maxI low num ≤ k → FitC c (r :: L) k = false
          intro k hk
          by_cases hkr : k ≤ r.1
          · exact hlow k hk hkr
          · rw [fitc_go (by omega) (by omega) hz r2]
            exact ih k (mm k hk (by omega))
        | some m =>
          rw [e] at ih
          obtain ⟨i1, i2, i3⟩ := ih
          refine ⟨by omega, ?_, fun k h1 h2 => ?_⟩
          · rw [fitc_go (by omega) (by omega) hz r2]
            exact i2
          · by_cases hkr : k ≤ r.1
            · exact hlow k h1 hkr
            · rw [fitc_go (by omega) (by omega) hz r2]
              exact i3 k (mm k h1 (by omega)) h2
/-! ### the greatest up to a number -/
def greatR (num : Int) : Int → List Row → Int
  | g, [] => g
  | g, r :: R => greatR num (if lesserI num r.2.1 / (r.2.2 : Int) * (r.2.2 : Int) ≥ r.1 then lesserI num r.2.1 / (r.2.2 : Int) * (r.2.2 : Int) else g) R
def IsGreatP (P : Int → Bool) (a b g res : Int) : Prop := (a ≤ res ∧ res ≤ b ∧ P res = true ∧ ∀ k, res < k → k ≤ b → P k = false) ∨ (res = g ∧ ∀ k, a ≤ k → k ≤ b → P k = false)
theorem last_mul {c : Nat} (hc : 0 < c) (b : Int) : b / (c : Int) * c ≤ b ∧ mulP c (b / (c : Int) * c) = true ∧ ∀ k, b / (c : Int) * c < k → k ≤ b → mulP c k = false := by
  have hc' : (0 : Int) < c := by omega
  unfold mulP
  have h1 := Int.emod_add_mul_ediv b c
  have h2 := Int.emod_nonneg b (show (c : Int) ≠ 0 by omega)
  have h3 := Int.emod_lt_of_pos b hc'
  rw [Int.mul_comm] at h1
  generalize b / (c : Int) = q at h1
  refine ⟨by omega, decide_eq_true (Int.mul_emod_left _ _), fun k k1 k2 => decide_eq_false fun e => ?_⟩
  obtain ⟨j, rfl⟩ := Int.dvd_of_emod_eq_zero e
  have hq : q * (c : Int) < j * c := by
    rw [Int.mul_comm j]
    exact k1
  have hq2 : j * (c : Int) < (q + 1) * c := by
    rw [Int.add_mul, Int.one_mul, Int.mul_comm j]
    omega
  have a1 := Int.lt_of_mul_lt_mul_right hq (by omega)
  have a2 := Int.lt_of_mul_lt_mul_right hq2 (by omega)
  omega
theorem great_first {c : Nat} (hc : 0 < c) {low m g : Int} : IsGreatP (mulP c) low m g (if m / (c : Int) * (c : Int) ≥ low then m / (c : Int) * (c : Int) else g) := by
  obtain ⟨f1, f2, f3⟩ := last_mul hc m
  by_cases h : m / (c : Int) * (c : Int) ≥ low
  · rw [if_pos h]
    exact Or.inl ⟨h, f1, f2, f3⟩
  · rw [if_neg h]
    exact Or.inr ⟨rfl, fun k h1 h2 => f3 k (by omega) h2⟩
theorem great_rows {num : Int} : ∀ {L : List Rule} {low : Int} {c : Nat} {g : Int}, RowsOk low c L → IsGreatP (FitC c L) low num g (greatR num g (rowsOf low c L))
  | [], low, c, g, h => by
    have e : ∀ i, FitC c [] i = mulP c i := fun i => by
      unfold FitC
      rw [show fitsAll [] i = true from rfl, Bool.and_true]
    have e2 : FitC c [] = mulP c := funext e
    rw [e2]
    exact great_first h.c0
  | r :: L, low, c, g, h => by
    obtain ⟨r0, r1, r2⟩ := h.all r (List.mem_cons_self ..)
    have l0 := h.low0
    show IsGreatP (FitC c (r :: L)) low num g (greatR num (if lesserI num (some r.1) / (c : Int) * (c : Int) ≥ low then lesserI num (some r.1) / (c : Int) * (c : Int) else g) (if r.2 = 0 then [] else rowsOf (r.1 + 1) (Nat.lcm c r.2.natAbs) L))
    have gf := great_first h.c0 (low := low) (m := lesserI num (some r.1)) (g := g)
    generalize (if lesserI num (some r.1) / (c : Int) * (c : Int) ≥ low then lesserI num (some r.1) / (c : Int) * (c : Int) else g) = g1 at gf
    have hm : lesserI num (some r.1) ≤ r.1 ∧ lesserI num (some r.1) ≤ num ∧ ∀ k, k ≤ num → k ≤ r.1 → k ≤ lesserI num (some r.1) := by
      show (if r.1 < num then r.1 else num) ≤ r.1 ∧ (if r.1 < num then r.1 else num) ≤ num ∧ ∀ k, k ≤ num → k ≤ r.1 → k ≤ (if r.1 < num then r.1 else num)
      split
      · exact ⟨Int.le_refl _, by omega, fun k _ h => h⟩
      · exact ⟨by omega, Int.le_refl _, fun k h _ => h⟩
    generalize lesserI num (some r.1) = m at gf hm
    obtain ⟨m1, m2, m3⟩ := hm
    -- what lies above the bound
    have up : ∀ res, IsGreatP (FitC c (r :: L)) (r.1 + 1) num g1 res → IsGreatP (FitC c (r :: L)) low num g res := fun res hu => by
      rcases hu with ⟨u1, u2, u3, u4⟩ | ⟨rfl, u2⟩
      · exact Or.inl ⟨by omega, u2, u3, u4⟩
      · rcases gf with ⟨v1, v2, v3, v4⟩ | ⟨rfl, v2⟩
        · refine Or.inl ⟨v1, by omega, by rw [fitc_low h.asc (by omega) (by omega)]; exact v3, fun k h1 h2 => ?_⟩
          by_cases hk : k ≤ r.1
          · rw [fitc_low h.asc (by omega) hk]
            exact v4 k h1 (m3 k h2 hk)
          · exact u2 k (by omega) h2
        · refine Or.inr ⟨rfl, fun k h1 h2 => ?_⟩
          by_cases hk : k ≤ r.1
          · rw [fitc_low h.asc (by omega) hk]
            exact v2 k h1 (m3 k h2 hk)
          · exact u2 k (by omega) h2
    refine up _ ?_
    by_cases hz : r.2 = 0
    · rw [if_pos hz]
      exact Or.inr ⟨rfl, fun k h1 h2 => fitc_stop (by omega) (by omega) hz⟩
    · rw [if_neg hz]
      have ih := great_rows (num := num) (g := g1) (h.tail hz)
      have e : ∀ k, r.1 + 1 ≤ k → FitC c (r :: L) k = FitC (Nat.lcm c r.2.natAbs) L k := fun k hk => fitc_go (by omega) (by omega) hz r2
      rcases ih with ⟨u1, u2, u3, u4⟩ | ⟨u1, u2⟩
      · exact Or.inl ⟨u1, u2, by rw [e _ u1]; exact u3, fun k h1 h2 => by rw [e k (by omega)]; exact u4 k h1 h2⟩
      · exact Or.inr ⟨u1, fun k h1 h2 => by rw [e k h1]; exact u2 k h1 h2⟩
/-! ### the whole scale -/
theorem fits_perm {rs rs' : List Rule} (h : rs'.Perm rs) (n : Int) : fitsAll rs' n = fitsAll rs n := by
  unfold fitsAll
  rw [Bool.eq_iff_iff, List.all_eq_true, List.all_eq_true]
  exact ⟨fun g r hr => g r (h.mem_iff.mpr hr), fun g r hr => g r (h.mem_iff.mp hr)⟩
theorem fitc_one {rs : List Rule} (n : Int) : FitC 1 rs n = fitsAll rs n := by
  unfold FitC mulP
  rw [show n % ((1 : Nat) : Int) = 0 from Int.emod_one n]
  rfl
theorem fits_even {rs : List Rule} (n : Int) : fitsAll rs (-n) = fitsAll rs n := by
  unfold fitsAll
  congr 1
  funext r
  unfold fitR
  have e1 : (if -n < 0 then - -n else -n) = if n < 0 then -n else n := by
    split <;> split <;> omega
  have e2 : decide (-n % r.2 = 0) = decide (n % r.2 = 0) := by
    refine decide_eq_decide.mpr ?_
    rw [← Int.dvd_iff_emod_eq_zero, ← Int.dvd_iff_emod_eq_zero]
    exact Int.dvd_neg
  rw [e1, e2]
def ScaleOk (rs : List Rule) : Prop := rs.length ≤ 40 ∧ ∀ r ∈ rs, 0 ≤ r.1 ∧ r.1 ≤ 10 ^ 60 ∧ 0 ≤ r.2 ∧ r.2 ≤ 10 ^ 60
theorem rows_ok {rs rs' : List Rule} (h : ScaleOk rs) (hp : rs'.Perm rs) (hs : SortedR rs') : RowsOk 0 1 rs' := ⟨asc_of hs, Int.le_refl 0, by decide, fun r hr => by
  obtain ⟨h1, _, h3, _⟩ := h.2 r (hp.mem_iff.mp hr)
  exact ⟨by omega, h1, h3⟩⟩
theorem pow_le12 {k : Nat} (h : k ≤ 12000) : 2 ^ k ≤ 2 ^ 12000 := Nat.pow_le_pow_right (by decide) h
theorem lcm_step {m : Nat} {z : Int} {i : Nat} (h : m < 2 ^ (200 * i + 1)) (h0 : 0 ≤ z) (h1 : z ≤ 10 ^ 60) : m < 2 ^ (200 * i + 1) ∧ z.natAbs < 2 ^ 200 ∧ Nat.lcm m z.natAbs < 2 ^ (200 * (i + 1) + 1) := by
  have e : (10 : Nat) ^ 60 < 2 ^ 200 := by decide +kernel
  have hz : z.natAbs < 2 ^ 200 := Nat.lt_of_le_of_lt (show z.natAbs ≤ 10 ^ 60 by omega) e
  refine ⟨h, hz, Nat.lt_of_le_of_lt (PySem.W.mc_lcm_le _ _) (Nat.lt_of_lt_of_le (Nat.mul_lt_mul_of_lt_of_le h (Nat.le_of_lt hz) (Nat.pow_pos (by decide))) ?_)⟩
  rw [← Nat.pow_add]
  exact Nat.pow_le_pow_right (by decide) (by omega)

theorem rows_bound : ∀ {L : List Rule} {low : Int} {c i : Nat}, RowsOk low c L → c < 2 ^ (200 * i + 1) → L.length + i ≤ 40 → low ≤ 10 ^ 60 + 1 → (∀ r ∈ L, r.1 ≤ 10 ^ 60 ∧ r.2 ≤ 10 ^ 60) → ∀ q ∈ rowsOf low c L, 0 < q.2.2 ∧ q.2.2 < 2 ^ 8001 ∧ 0 ≤ q.1 ∧ q.1 ≤ 10 ^ 60 + 1
  | [], low, c, i, h, hc, hl, hw, hr, q, hq => by
    rw [List.mem_singleton.mp hq]
    exact ⟨h.c0, Nat.lt_of_lt_of_le hc (Nat.pow_le_pow_right (by decide) (by omega)), h.low0, hw⟩
  | r :: L, low, c, i, h, hc, hl, hw, hr, q, hq => by
    rcases List.mem_cons.mp hq with rfl | hq
    · exact ⟨h.c0, Nat.lt_of_lt_of_le hc (Nat.pow_le_pow_right (by decide) (by omega)), h.low0, hw⟩
    · by_cases hz : r.2 = 0
      · rw [if_pos hz] at hq
        exact nomatch hq
      · rw [if_neg hz] at hq
        obtain ⟨r1, r2⟩ := hr r (List.mem_cons_self ..)
        obtain ⟨_, _, r3⟩ := h.all r (List.mem_cons_self ..)
        exact rows_bound (i := i + 1) (h.tail hz) (lcm_step hc r3 r2).2.2 (by rw [List.length_cons] at hl; omega) (by omega) (fun x hx => hr x (List.mem_cons_of_mem _ hx)) q hq
theorem rows_small {rs rs' : List Rule} (h : ScaleOk rs) (hp : rs'.Perm rs) (hs : SortedR rs') : ∀ q ∈ rowsOf 0 1 rs', 0 < q.2.2 ∧ q.2.2 < 2 ^ 8001 ∧ 0 ≤ q.1 ∧ q.1 ≤ 10 ^ 60 + 1 :=
  rows_bound (i := 0) (rows_ok h hp hs) (by decide) (by rw [hp.length_eq]; exact h.1) (by decide) fun r hr => by
    obtain ⟨_, h2, _, h4⟩ := h.2 r (hp.mem_iff.mp hr)
    exact ⟨h2, h4⟩
theorem cnt_scale {rs rs' : List Rule} (h : ScaleOk rs) (hp : rs'.Perm rs) (hs : SortedR rs') (t : Int) : manyR t (rowsOf 0 1 rs') = (cntP (fitsAll rs) 0 (t - 0 + 1).toNat : Int) := by
  rw [many_rows (rows_ok h hp hs)]
  congr 1
  exact cnt_congr fun i _ _ => by rw [fitc_one, fits_perm hp]
theorem least_scale {rs rs' : List Rule} (h : ScaleOk rs) (hp : rs'.Perm rs) (hs : SortedR rs') {t : Int} (ht : 0 < t) : IsLeastP (fitsAll rs) t (leastR t (rowsOf 0 1 rs')) := by
  have g := least_rows (num := t) (rows_ok h hp hs)
  have e : FitC 1 rs' = fitsAll rs := funext fun n => by rw [fitc_one, fits_perm hp]
  rw [e, show maxI 0 t = t from if_pos ht] at g
  exact g
theorem great_scale {rs rs' : List Rule} (h : ScaleOk rs) (hp : rs'.Perm rs) (hs : SortedR rs') (t : Int) : IsGreatP (fitsAll rs) 0 t 0 (greatR t 0 (rowsOf 0 1 rs')) := by
  have g := great_rows (num := t) (g := 0) (rows_ok h hp hs)
  have e : FitC 1 rs' = fitsAll rs := funext fun n => by rw [fitc_one, fits_perm hp]
  rw [e] at g
  exact g
theorem rows_high : ∀ {L : List Rule} {low : Int} {c : Nat}, (∀ r ∈ L, 0 ≤ r.1 ∧ r.1 ≤ 10 ^ 60) → ∀ q ∈ rowsOf low c L, ∀ b, q.2.1 = some b → 0 ≤ b ∧ b ≤ 10 ^ 60
  | [], low, c, hr, q, hq, b, e => by
    rw [List.mem_singleton.mp hq] at e
    cases e
  | r :: L, low, c, hr, q, hq, b, e => by
    rcases List.mem_cons.mp hq with rfl | hq
    · cases e
      exact hr r (List.mem_cons_self ..)
    · by_cases hz : r.2 = 0
      · rw [if_pos hz] at hq
        exact nomatch hq
      · rw [if_neg hz] at hq
        exact rows_high (fun x hx => hr x (List.mem_cons_of_mem _ hx)) q hq b e
theorem rows_lesser {rs rs' : List Rule} (h : ScaleOk rs) (hp : rs'.Perm rs) {t : Int} (ht : 0 ≤ t) : ∀ q ∈ rowsOf 0 1 rs', 0 ≤ lesserI t q.2.1 ∧ lesserI t q.2.1 ≤ t := fun q hq => by
  have g := rows_high (L := rs') (low := 0) (c := 1) (fun r hr => by
    obtain ⟨h1, h2, _⟩ := h.2 r (hp.mem_iff.mp hr)
    exact ⟨h1, h2⟩) q hq
  cases e : q.2.1 with
  | none => exact ⟨ht, Int.le_refl _⟩
  | some b =>
    obtain ⟨g1, _⟩ := g b e
    show 0 ≤ (if b < t then b else t) ∧ (if b < t then b else t) ≤ t
    split <;> omega
theorem great_least {rs : List Rule} (hOk : ScaleOk rs) {t res : Int} (ht : t ≤ 0) (h : IsGreatP (fitsAll rs) 0 (-t) 0 res) : IsLeastP (fitsAll rs) t (some (-res)) := by
  have f0 : fitsAll rs 0 = true := fits_low (b := 0) (Int.le_refl 0) (Int.le_refl 0) fun r hr => (hOk.2 r hr).1
  rcases h with ⟨h1, h2, h3, h4⟩ | ⟨rfl, h2⟩
  · refine ⟨by omega, by rw [fits_even]; exact h3, fun k k1 k2 => ?_⟩
    rw [← fits_even]
    exact h4 (-k) (by omega) (by omega)
  · exact absurd (h2 0 (Int.le_refl 0) (by omega)) (by rw [f0]; decide)
end EE

namespace EE
open PySem PySem.Spec PyProof.Rows L2
abbrev newSet (w : World) : Obj := { cls := .type "set", dict := none, data := .set #[] 0 (.fresh 0 0 (!w.params.followText "set-order")) }
section
variable {P : Program} {w : World} {A : Around} {E : Value → Shared → Prop} {s : Shared}
theorem call_set_lstI {l : Addr} {items : Array Value} (ns : List Int) {Q : Value → Shared → Prop} (hh : A.handled = none) (hl : s.heap.IsList l items) (hit : IntsAre items.toList ns) (hb : ns.length + 1 < scanBound)
    (h : ∀ (h' : Heap) (tk c : Nat), SetR w h' s.heap.objs.size (fun j => decide (j ∈ ns)) c → c ≤ ns.length → (∀ b o, s.heap.get? b = some o → h'.get? b = some o) → Q (.ref s.heap.objs.size) { s with heap := h', toks := tk }) :
    wpAny (model P w) A (call (.type "set") [.ref l]) Q E s := by
  have hisz : items.size = ns.length := by
    have q := IntsAre.length hit
    rw [Array.length_toList] at q
    exact q
  obtain ⟨c, tl, hmro⟩ := F.called_set.mro
  have hmade := F.called_set.made
  have hsub := F.called_set.sub
  refine wpAny_call (codeAny_of_tree ?_)
  show wpAny _ _ (callAny (.type "set") _) _ _ _
  refine wpAny_pure ⟨Code.quiet_builtin _ (by decide +kernel), codeAny_builtin F.entry_type_call ?_⟩
  rw [Around.under_plain (weight_type_call_type "set" [.ref l] []) rfl]
  have h1 := F.called_set.notType
  have h2 := F.called_set.canCreate
  have hct := F.typeCall_set_1 (.ref l)
  repeat (any_goals (first | assumption | wp_step))

  refine codeAny_mono (code_set_led1 (.ref l) (E := E) (Q₁ := fun obj s₁ => obj = .ref s.heap.objs.size ∧ s₁ = { s with heap := s.heap.push (newSet w) }) ⟨rfl, rfl⟩) fun r s₁ hr => ?_
  cases r with
  | error e => exact hr
  | ok fl =>
    cases fl with
    | ret obj =>
      obtain ⟨rfl, rfl⟩ := hr
      have hS : (s.heap.push (newSet w)).get? s.heap.objs.size = some (newSet w) := Heap.get?_push_size _ rfl
      have hT : Shared.TypeIs { s with heap := s.heap.push (newSet w) } (.ref s.heap.objs.size) "set" := ⟨_, hS, rfl⟩
      have hli := F.called_set.init.lookup
      have hbi := F.called_set.init.bind (.ref s.heap.objs.size)
      repeat (any_goals (first | assumption | wp_step))

      refine codeAny_mono (codeAny_call_builtin (R := wants (fun r s₂ => r = .none ∧ ∃ h' tk c, s₂ = { s with heap := h', toks := tk } ∧ SetR w h' s.heap.objs.size (fun j => decide (j ∈ ns)) c ∧ c ≤ ns.length ∧
          (∀ b o, s.heap.get? b = some o → h'.get? b = some o)) E) F.called_set.init.plain F.entry_set_init (check_set_init_1 hT ?_)) fun r₂ s₂ hr₂ => ?_
      · obtain ⟨ol, hol, hcl, nl, hdl⟩ := hl
        obtain ⟨ocls, odict, odata, oslots⟩ := ol
        simp only at hcl hdl
        subst hcl; subst hdl
        have hol' : (s.heap.push (newSet w)).get? l = some { cls := .type "list", dict := odict, data := .seq items nl, slots := oslots } := Heap.get?_push_of_some _ hol
        have hsls := F.sub_list_set
        have hslf := F.sub_list_frozenset
        have hne : (Value.type "list" == Value.type "dict") = false := by decide
        have hl1 : (s.heap.push (newSet w)).IsList l items := ⟨_, hol', rfl, nl, rfl⟩
        unfold Builtin.«set.__init__» noKeywords Builtin.Frozenset.updateFrom
        generalize hPI : pyIter = PI
        wp_walk
        subst hPI

        refine wpAny_pyIter_list hl1 ?_
        refine wpAny_bind (wpAny_runValue ?_)
        have hlS : l < s.heap.objs.size := Heap.lt_size hol
        have hh3 : A.in1.in1.in1.handled = none := by simp [hh]
        have hz1 : (s.heap.push (newSet w)).objs.size = s.heap.objs.size + 1 := Heap.size_push ..
        have hneI : l ≠ (s.heap.push (newSet w)).objs.size := by
          rw [Heap.size_push]; exact Nat.ne_of_lt (Nat.lt_succ_of_lt hlS)
        have hSf : s.heap.objs.size ∉ [(s.heap.push (newSet w)).objs.size, l] := by
          rw [Heap.size_push]; simp only [List.mem_cons, List.mem_singleton, List.not_mem_nil, or_false, not_or]
          exact ⟨Nat.ne_of_lt (Nat.lt_succ_self _), Nat.ne_of_gt hlS⟩
        have hval : ∀ (i : Nat) (v : Value), items[i]? = some v → ∃ k t, ns[i]? = some k ∧ v = .int k t := fun i v hv => by
          have hi : i < ns.length := by rw [← hisz]; exact (Array.getElem?_eq_some_iff.mp hv).1
          obtain ⟨t, e⟩ := PyProof.Rows.IntsAre.int_at hit i v (by rw [Array.getElem?_toList]; exact hv)
          refine ⟨ns[i], t, List.getElem?_eq_getElem hi, ?_⟩
          rw [e, List.getD_eq_getElem?_getD, List.getElem?_eq_getElem hi] <;> rfl
        refine set_update_ints ((Walks.list hh3 _ l hneI items).toS) s.heap.objs.size
          hSf ns hisz hb hval (items.size - 0) 0 _ (by omega) (Nat.zero_le _)
          ⟨⟨_, Heap.get?_push_size _ rfl, rfl, rfl⟩, (hl1.push _)⟩ ?hS0 ?hR
        case hS0 =>
          have hget : ((s.heap.push (newSet w)).push { cls := .type "list_iterator", data := .fields #[.ref l, .int 0 0] }).get? s.heap.objs.size
              = some (newSet w) := Heap.get?_push_of_some _ hS
          exact ⟨0, Nat.le_refl 0, setR_new_at hget⟩
        case hR =>
          intro s' c' hm hc' hS'
          obtain ⟨h', g2, d', tk', os'⟩ := s'
          have eg : g2 = s.gens := hm.gens
          have ed : d' = s.drawn := hm.drawn
          have eo : os' = s.os := hm.os
          subst eg; subst ed; subst eo
          show wpAny _ _ _ _ _ _
          refine wpAny_pure ?_
          show wpAny _ _ (ret Value.none) _ _ _
          rw [hisz] at hc'
          refine wpAny_pure ⟨rfl, h', tk', c', rfl, hS', hc', fun b o e => ?_⟩
          have hb0 : b < s.heap.objs.size := Heap.lt_size e
          have hb1 : b ≠ s.heap.objs.size := Nat.ne_of_lt hb0
          have hb2 : b ≠ (s.heap.push (newSet w)).objs.size := by
            rw [Heap.size_push]; exact Nat.ne_of_lt (Nat.lt_succ_of_lt hb0)
          exact hm.heap b o (by simp only [List.mem_cons, List.mem_singleton, List.not_mem_nil, or_false, not_or]; exact ⟨hb1, hb2⟩) (Heap.get?_push_of_some _ (Heap.get?_push_of_some _ e))

      · cases r₂ with
        | error e => exact hr₂
        | ok fl₂ =>
          cases fl₂ with
          | ret r =>
            obtain ⟨rfl, h', tk, c', rfl, hS', hc', hk'⟩ := hr₂
            repeat (any_goals (first | assumption | wp_step))
            exact h _ _ _ hS' hc' hk'
          | _ => exact hr₂.elim
    | _ => exact hr.elim

end
/-- set(xs), xs a list of ints -/
def rSetL1 (K : PySem.W.Frag) (w : World) : List V → Hp → VK → Prop := fun vs H Q => ∃ (l : Addr) (ns : List Int), vs = [V.ref l] ∧ SqL K H l (ns.map V.int) ∧ ns.length ≤ 1000 ∧ ∀ p c, H p = none → c ≤ ns.length → Q (.ref p) (upd H p (SetO w p (fun j => decide (j ∈ ns)) c))
theorem cr_setL1 {X : Cx} (hc : X.calm = true) : CallR X (.type "set") (rSetL1 X.K X.w) := by
  intro pins s σ H vs us Q I r h
  obtain ⟨l, ns, rfl, hs, hz, q⟩ := h
  obtain ⟨its, rv, hl, _⟩ := I.list hs
  obtain ⟨u, rfl, ru⟩ := vals1 r
  obtain rfl : u = Value.ref l := ru
  refine call_set_lstI ns (I.ok.hd hc) hl.isList (by simpa using ints_of_vals rv) (by show ns.length + 1 < scanBound; unfold scanBound; omega) fun h' tk c R hcn k => ?_
  have hn : H s.heap.objs.size = none := I.hok.fresh (Nat.le_refl _)
  exact ⟨.ref s.heap.objs.size, _, I.laid (t' := tk) k (Nat.le_refl _) (setO_new R), rfl, q _ c hn hcn⟩
end EE

namespace EE
open PySem PySem.Spec PyProof.Rows L2
/-! ### what the laws' own helpers promise (great scales) -/
def RuleG (r : Rule) : Prop := 0 ≤ r.1 ∧ r.1 ≤ 10 ^ 60 ∧ (r.2 = 0 ∨ (2 ≤ r.2 ∧ r.2 ≤ 10 ^ 60))
def RulesG (n : Nat) (rs : List Rule) : Prop := rs.length ≤ n ∧ ∀ r ∈ rs, RuleG r
theorem RulesG.ok {rs : List Rule} (h : RulesG 40 rs) : ScaleOk rs := ⟨h.1, fun r hr => by
  obtain ⟨h1, h2, h3⟩ := h.2 r hr
  have e : (0 : Int) ≤ 10 ^ 60 := by decide
  refine ⟨h1, h2, by omega, by omega⟩⟩
/-- all steps divide a number that is not too great -/
def StepsIn (rs : List Rule) : Prop := ∃ M : Int, 1 ≤ M ∧ M ≤ 10 ^ 60 ∧ ∀ r ∈ rs, r.2 = 0 ∨ r.2 ∣ M
def prodK : List Rule → Int
  | [] => 1
  | k :: ks => k.1 ^ (max 3 k.2.toNat) * prodK ks
theorem prodK_app : ∀ (ks : List Rule) (k : Rule), prodK (ks ++ [k]) = prodK ks * k.1 ^ (max 3 k.2.toNat)
  | [], k => by
    show k.1 ^ (max 3 k.2.toNat) * 1 = 1 * k.1 ^ (max 3 k.2.toNat)
    rw [Int.mul_one, Int.one_mul]
  | x :: ks, k => by
    show x.1 ^ (max 3 x.2.toNat) * prodK (ks ++ [k]) = x.1 ^ (max 3 x.2.toNat) * prodK ks * k.1 ^ (max 3 k.2.toNat)
    rw [prodK_app, Int.mul_assoc]
def kindsD (ks : List Rule) : D := .list (ks.map ruleD)
def KindsG (ks : List Rule) : Prop := ks ≠ [] ∧ (∀ k ∈ ks, 2 ≤ k.1 ∧ k.1 < 128 ∧ 0 ≤ k.2 ∧ k.2 ≤ 190) ∧ (ks.map fun k => max 3 k.2.toNat).sum ≤ 199 ∧ prodK ks ≤ 10 ^ 60
def sp_law_fits (K : PySem.W.Frag) : Sp := fun vs H Q _ => ∃ (dk : Dk) (Γ : List (Addr × List D)) (Δ : List (V × D)) (a : Addr) (rs : List Rule) (n : Int), vs = [.ref a, .int n] ∧ St K H dk Γ Δ ∧ (V.ref a, scaleD rs) ∈ Δ ∧ (∀ r ∈ rs, 0 ≤ r.2) ∧ ∀ H', St K H' dk Γ Δ → Q (.bl (fitsAll rs n)) H'
def sp_law_mixed (K : PySem.W.Frag) : Sp := fun vs H Q _ => ∃ (d l a : Addr) (ds : List D) (Γ : List (Addr × List D)) (Δ : List (V × D)), vs = [.ref d, .ref a] ∧ St K H (some (d, l)) Γ Δ ∧ (V.ref a, PyData.list ds) ∈ Δ ∧ Lay 60 ds ∧ ds.length ≤ 10000 ∧
  ∀ H' p es, es.Perm ds → St K H' (some (d, l)) ((p, es) :: Γ) Δ → Q (.ref p) H'
def sp_law_divisor (K : PySem.W.Frag) : Sp := fun vs H Q _ => ∃ (x y : Int), vs = [.int x, .int y] ∧ 0 ≤ x ∧ 0 ≤ y ∧ Q (.int ((Int.gcd x y : Nat) : Int)) H
def sp_law_raised (K : PySem.W.Frag) : Sp := fun vs H Q _ => ∃ (b : Int) (t : Nat), vs = [.int b, .int (t : Int)] ∧ 0 ≤ b ∧ b < 2 ^ 7 ∧ t ≤ 1000 ∧ Q (.int (b ^ t)) H
/-- the least common multiple of all, 0 where a 0 is among them -/
def lcmI (c : Nat) (ns : List Int) : Nat := ns.foldl (fun c x => Nat.lcm c x.natAbs) c
def sp_law_multiple (K : PySem.W.Frag) : Sp := fun vs H Q _ => ∃ (dk : Dk) (Γ : List (Addr × List D)) (Δ : List (V × D)) (a : Addr) (ns : List Int), vs = [.ref a] ∧ St K H dk Γ Δ ∧ (V.ref a, PyData.list (ns.map PyData.int)) ∈ Δ ∧ (∀ x ∈ ns, 0 ≤ x ∧ x ≤ 10 ^ 60) ∧ ns.length ≤ 40 ∧
  ∀ H', St K H' dk Γ Δ → Q (.int (lcmI 1 ns : Nat)) H'
def sp_law_step (K : PySem.W.Frag) : Sp := fun vs H Q _ => ∃ (d l a : Addr) (ks : List Rule) (Γ : List (Addr × List D)) (Δ : List (V × D)), vs = [.ref d, .ref a] ∧ St K H (some (d, l)) Γ Δ ∧ (V.ref a, kindsD ks) ∈ Δ ∧ KindsG ks ∧
  ∀ H' (m : Int), St K H' (some (d, l)) Γ Δ → 2 ≤ m → m ≤ 10 ^ 60 → m ∣ prodK ks → Q (.int m) H'
def sp_law_kinds (K : PySem.W.Frag) : Sp := fun vs H Q _ => ∃ (d l : Addr) (Γ : List (Addr × List D)) (Δ : List (V × D)), vs = [.ref d] ∧ St K H (some (d, l)) Γ Δ ∧
  ∀ H' v ks, KindsG ks → St K H' (some (d, l)) Γ ((v, kindsD ks) :: Δ) → Q v H'
def sp_law_greatS (K : PySem.W.Frag) : Sp := fun vs H Q _ => ∃ (d l : Addr) (m : Int) (Γ : List (Addr × List D)) (Δ : List (V × D)), vs = [.ref d, .int m] ∧ St K H (some (d, l)) Γ Δ ∧ 1 ≤ m ∧ m ≤ 40 ∧
  ∀ H' v rs, RulesG 40 rs → StepsIn rs → rs ≠ [] → St K H' (some (d, l)) Γ ((v, scaleD rs) :: Δ) → Q v H'
/-- a new thing that nobody asks for -/
theorem St.junk {K : PySem.W.Frag} {H : Hp} {dk : Dk} {Γ : List (Addr × List D)} {Δ : List (V × D)} {p : Addr} {o : HO} (h : St K H dk Γ Δ) (hp : H p = none) : St K (upd H p o) dk Γ Δ := by
  obtain ⟨H0, I⟩ := h
  refine ⟨H0, fun b u e => ?_, I.data, fun g hg => ?_, I.nd, fun d l e => ?_⟩
  · rw [upd_ne (ne_of_none (I.le b u e) hp)]
    exact I.le b u e
  · obtain ⟨g0, vs, g1, g2⟩ := I.lists g hg
    rw [upd_ne (ne_of_none g1 hp)]
    exact ⟨g0, vs, g1, g2⟩
  · obtain ⟨a1, a2, a3, s, xs, b1, b2, b3⟩ := I.deck d l e
    exact ⟨a1, a2, a3, s, xs, (upd_ne (ne_of_none b1 hp)).trans b1, (upd_ne (ne_of_none b2 hp)).trans b2, b3⟩
end EE

namespace EE
open PySem PySem.Spec PyProof.Rows L2
/-! ### values as they are known: data, or a list that may change -/
abbrev G := List (Addr × List D)
inductive AV
  | dat (d : D)
  | ref (a : Addr)
abbrev AE := List (Option AV)
abbrev dI (i : Int) : AV := .dat (.int i)
abbrev dB (b : Bool) : AV := .dat (.bool b)
abbrev dS (x : Str) : AV := .dat (.str x)
def RelA (Δ : List (V × D)) (v : V) : AV → Prop
  | .dat d => Dv Δ v d
  | .ref a => v = .ref a
theorem RelA.sub {Δ Δ' : List (V × D)} {v : V} {a : AV} (s : Sub Δ Δ') (h : RelA Δ v a) : RelA Δ' v a := by
  cases a with
  | dat d => exact Dv.sub s h
  | ref p => exact h
inductive RelL (Δ : List (V × D)) : List V → List AV → Prop
  | nil : RelL Δ [] []
  | cons {v : V} {vs : List V} {a : AV} {as : List AV} : RelA Δ v a → RelL Δ vs as → RelL Δ (v :: vs) (a :: as)
theorem RelL.len {Δ : List (V × D)} : ∀ {vs : List V} {as : List AV}, RelL Δ vs as → vs.length = as.length
  | _, _, .nil => rfl
  | _, _, .cons _ t => congrArg Nat.succ t.len
theorem RelL.one {Δ : List (V × D)} {a : AV} {xs : List V} (h : RelL Δ xs [a]) : ∃ x, xs = [x] ∧ RelA Δ x a := by
  cases h with
  | cons h t =>
    cases t
    exact ⟨_, rfl, h⟩
theorem RelL.two {Δ : List (V × D)} {a b : AV} {xs : List V} (h : RelL Δ xs [a, b]) : ∃ x y, xs = [x, y] ∧ RelA Δ x a ∧ RelA Δ y b := by
  cases h with
  | cons h t =>
    obtain ⟨y, rfl, r⟩ := t.one
    exact ⟨_, _, rfl, h, r⟩
theorem RelL.sub {Δ Δ' : List (V × D)} (s : Sub Δ Δ') : ∀ {vs : List V} {as : List AV}, RelL Δ vs as → RelL Δ' vs as
  | _, _, .nil => .nil
  | _, _, .cons h t => .cons (h.sub s) (t.sub s)
theorem RelL.append {Δ : List (V × D)} : ∀ {vs us : List V} {as bs : List AV}, RelL Δ vs as → RelL Δ us bs → RelL Δ (vs ++ us) (as ++ bs)
  | _, _, _, _, .nil, k => k
  | _, _, _, _, .cons h t, k => .cons h (t.append k)
theorem RelL.reverse {Δ : List (V × D)} : ∀ {vs : List V} {as : List AV}, RelL Δ vs as → RelL Δ vs.reverse as.reverse
  | _, _, .nil => .nil
  | _, _, .cons h t => by
    rw [List.reverse_cons, List.reverse_cons]
    exact t.reverse.append (.cons h .nil)
def RelO (Δ : List (V × D)) : Option V → Option AV → Prop
  | _, none => True
  | o, some a => ∃ v, o = some v ∧ RelA Δ v a
theorem RelO.sub {Δ Δ' : List (V × D)} (s : Sub Δ Δ') {o : Option V} {a : Option AV} (h : RelO Δ o a) : RelO Δ' o a := by
  cases a with
  | none => trivial
  | some a => obtain ⟨v, e, r⟩ := h; exact ⟨v, e, r.sub s⟩
inductive RelE (Δ : List (V × D)) : L2.St → AE → Prop
  | nil : RelE Δ [] []
  | cons {o : Option V} {σ : L2.St} {a : Option AV} {A : AE} : RelO Δ o a → RelE Δ σ A → RelE Δ (o :: σ) (a :: A)
section
variable {Δ Δ' : List (V × D)} {σ : L2.St} {A : AE}
theorem RelE.sub (s : Sub Δ Δ') (h : RelE Δ σ A) : RelE Δ' σ A := by
  induction h with
  | nil => exact .nil
  | cons h _ ih => exact .cons (h.sub s) ih
theorem RelE.get (h : RelE Δ σ A) : ∀ {i : Nat} {a : AV}, A[i]? = some (some a) → ∃ v, σ[i]? = some (some v) ∧ RelA Δ v a := by
  induction h with
  | nil => intro i a e; simp at e
  | cons ho ht ih =>
    intro i a e
    cases i with
    | zero =>
      cases Option.some.inj (show some _ = some _ from e)
      obtain ⟨v, rfl, r⟩ := ho
      exact ⟨v, rfl, r⟩
    | succ i =>
      obtain ⟨v, h1, h2⟩ := ih (i := i) (by simpa using e)
      exact ⟨v, by simpa using h1, h2⟩
theorem RelE.setO (h : RelE Δ σ A) : ∀ {i : Nat} {o : Option V} {a : Option AV}, RelO Δ o a → RelE Δ (σ.set i o) (A.set i a) := by
  induction h with
  | nil => intro i o a _; exact .nil
  | cons ho ht ih =>
    intro i o a r
    cases i with
    | zero => exact .cons r ht
    | succ i => exact .cons ho (ih r)
theorem RelE.set (h : RelE Δ σ A) {i : Nat} {v : V} {a : AV} (r : RelA Δ v a) : RelE Δ (σ.set i (some v)) (A.set i (some a)) := h.setO ⟨v, rfl, r⟩
def wipeA (A : AE) : List Nat → AE
  | [] => A
  | v :: vs => (wipeA A vs).set v none
theorem RelE.wipe (h : RelE Δ σ A) : ∀ {vs : List Nat}, RelE Δ (wipe σ vs) (wipeA A vs)
  | [] => h
  | v :: vs => (RelE.wipe h (vs := vs)).setO (i := v) (o := none) (a := none) trivial
def startA : Nat → List AV → AE
  | 0, _ => []
  | n + 1, [] => none :: startA n []
  | n + 1, a :: as => some a :: startA n as
theorem rel_rep : ∀ k, RelE Δ (List.replicate k none) (List.replicate k none)
  | 0 => .nil
  | k + 1 => .cons trivial (rel_rep k)
theorem rel_app : ∀ {vs : List V} {as : List AV} {k : Nat}, RelL Δ vs as → RelE Δ (vs.map some ++ List.replicate k none) (as.map some ++ List.replicate k none)
  | _, _, k, .nil => rel_rep k
  | _, _, k, .cons h t => .cons ⟨_, rfl, h⟩ (rel_app t)
theorem startA_nil : ∀ n, startA n [] = List.replicate n none
  | 0 => rfl
  | n + 1 => congrArg (none :: ·) (startA_nil n)
theorem startA_eq : ∀ (n : Nat) (as : List AV), as.length ≤ n → startA n as = as.map some ++ List.replicate (n - as.length) none
  | 0, [], _ => rfl
  | n + 1, [], _ => startA_nil (n + 1)
  | n + 1, a :: as, h => by
    show some a :: startA n as = some a :: (as.map some ++ List.replicate (n + 1 - (as.length + 1)) none)
    rw [startA_eq n as (Nat.le_of_succ_le_succ h), Nat.add_sub_add_right]
theorem rel_start {N : List Str} {vs : List V} {as : List AV} (h : RelL Δ vs as) (hl : as.length ≤ N.length := by exact Nat.le_of_ble_eq_true rfl) : RelE Δ (L2.start N vs) (startA N.length as) := by
  rw [startA_eq _ _ hl]
  unfold L2.start
  rw [h.len]
  exact rel_app h
end
/-! ### lists that may change: where they stand -/
inductive Lk : G → Addr → List D → Prop
  | here {Γ : G} {p : Addr} {ds : List D} : Lk ((p, ds) :: Γ) p ds
  | there {Γ : G} {p : Addr} {ds : List D} {x : Addr × List D} : Lk Γ p ds → Lk (x :: Γ) p ds
inductive Put : G → Addr → List D → List D → G → Prop
  | here {Γ : G} {p : Addr} {ds es : List D} : Put ((p, ds) :: Γ) p ds es ((p, es) :: Γ)
  | there {Γ Γ' : G} {p : Addr} {ds es : List D} {x : Addr × List D} : Put Γ p ds es Γ' → Put (x :: Γ) p ds es (x :: Γ')
inductive Rem : G → Addr → List D → G → Prop
  | here {Γ : G} {p : Addr} {ds : List D} : Rem ((p, ds) :: Γ) p ds Γ
  | there {Γ Γ' : G} {p : Addr} {ds : List D} {x : Addr × List D} : Rem Γ p ds Γ' → Rem (x :: Γ) p ds (x :: Γ')
theorem Rem.perm {Γ Γ' : G} {p : Addr} {ds : List D} (h : Rem Γ p ds Γ') : Γ.Perm ((p, ds) :: Γ') := by
  induction h with
  | here => exact List.Perm.refl _
  | there _ ih => exact (ih.cons _).trans (List.Perm.swap _ _ _)
theorem Put.perm {Γ Γ' : G} {p : Addr} {ds es : List D} (h : Put Γ p ds es Γ') : ∃ L, Γ.Perm ((p, ds) :: L) ∧ Γ'.Perm ((p, es) :: L) := by
  induction h with
  | here => exact ⟨_, List.Perm.refl _, List.Perm.refl _⟩
  | @there Γ Γ' p ds es x _ ih =>
    obtain ⟨L, h1, h2⟩ := ih
    exact ⟨x :: L, (h1.cons _).trans (List.Perm.swap _ _ _), (h2.cons _).trans (List.Perm.swap _ _ _)⟩
theorem Lk.rem {Γ : G} {p : Addr} {ds : List D} (h : Lk Γ p ds) : ∃ Γ', Rem Γ p ds Γ' := by
  induction h with
  | here => exact ⟨_, .here⟩
  | there _ ih => obtain ⟨Γ', h⟩ := ih; exact ⟨_, .there h⟩
section
variable {K : PySem.W.Frag} {H : Hp} {dk : Dk} {Γ Γ' : G} {Δ : List (V × D)} {p : Addr} {ds es : List D}
theorem St.perm (h : St K H dk Γ Δ) (q : Γ.Perm Γ') : St K H dk Γ' Δ := by
  obtain ⟨H0, I⟩ := h
  refine ⟨H0, I.le, I.data, fun g hg => I.lists g (q.mem_iff.mpr hg), (q.map _).nodup_iff.mp I.nd, fun d l e => ?_⟩
  obtain ⟨a1, a2, a3, r⟩ := I.deck d l e
  exact ⟨a1, a2, fun g hg => a3 g (q.mem_iff.mpr hg), r⟩
theorem St.lk (h : St K H dk Γ Δ) (k : Lk Γ p ds) : ∃ vs, H p = some (.lst vs) ∧ vs.length = ds.length ∧ ∃ Δ', Sub Δ Δ' ∧ St K H dk Γ Δ' ∧ DvAll Δ' vs ds := by
  obtain ⟨Γ', hr⟩ := k.rem
  have h1 := h.perm hr.perm
  obtain ⟨H0, I⟩ := h1
  obtain ⟨g0, vs, g1, g2⟩ := I.lists (p, ds) (List.mem_cons_self ..)
  refine ⟨vs, g1, dps_len g2, vs.zip ds ++ Δ, fun x hx => List.mem_append_right _ hx, St.perm (Γ := (p, ds) :: Γ') ⟨H0, I.le, fun q hq => ?_, I.lists, I.nd, I.deck⟩ hr.perm.symm, dvs_zip (dps_len g2)⟩
  rcases List.mem_append.mp hq with hq | hq
  · exact dps_zip g2 q hq
  · exact I.data q hq
theorem St.put2 (h : St K H dk Γ Δ) (k : Put Γ p ds es Γ') {us : List V} (hu : DvAll Δ us es) : St K (upd H p (.lst us)) dk Γ' Δ := by
  obtain ⟨L, h1, h2⟩ := k.perm
  exact ((h.perm h1).put fun H0 I => hu.dp I.data).perm h2.symm
theorem St.freeze2 (h : St K H dk Γ Δ) (k : Rem Γ p ds Γ') : St K H dk Γ' ((.ref p, .list ds) :: Δ) := (h.perm k.perm).freeze
theorem St.drop2 (h : St K H dk Γ Δ) (k : Rem Γ p ds Γ') : St K H dk Γ' Δ := (h.perm k.perm).drop
end
theorem Put.lk {Γ Γ' : G} {p : Addr} {ds es : List D} (h : Put Γ p ds es Γ') : Lk Γ p ds := by
  induction h with
  | here => exact .here
  | there _ ih => exact .there ih
/-! ### the judgements -/
structure EC where
  K : PySem.W.Frag
  dk : Dk
  B : List (V × D)
abbrev EC.on (X : EC) (B : List (V × D)) : EC := ⟨X.K, X.dk, B⟩
/-- an expression -/
def Ev (X : EC) (A : AE) (Γ : G) (te : TE) (Q : AV → G → Prop) : Prop := ∀ (σ : L2.St) (H : Hp) (Δ : List (V × D)) (R : VK), Sub X.B Δ → St X.K H X.dk Γ Δ → RelE Δ σ A →
  (∀ a Γ' v H' Δ', Q a Γ' → Sub Δ Δ' → St X.K H' X.dk Γ' Δ' → RelA Δ' v a → R v H') → te σ H R
def EvT (X : EC) (A : AE) (Γ : G) (tt : TT) (Q : Bool → G → Prop) : Prop := ∀ (σ : L2.St) (H : Hp) (Δ : List (V × D)) (R : Bool → Hp → Prop), Sub X.B Δ → St X.K H X.dk Γ Δ → RelE Δ σ A →
  (∀ b Γ' H' Δ', Q b Γ' → Sub Δ Δ' → St X.K H' X.dk Γ' Δ' → R b H') → tt σ H R
def EvA (X : EC) (A : AE) (Γ : G) (ta : TA) (Q : List AV → G → Prop) : Prop := ∀ (σ : L2.St) (H : Hp) (Δ : List (V × D)) (R : List V → Hp → Prop), Sub X.B Δ → St X.K H X.dk Γ Δ → RelE Δ σ A →
  (∀ as Γ' vs H' Δ', Q as Γ' → Sub Δ Δ' → St X.K H' X.dk Γ' Δ' → RelL Δ' vs as → R vs H') → ta σ H R
def EvO (X : EC) (A : AE) (Γ : G) (tl : TO) (Q : Option Int → G → Prop) : Prop := ∀ (σ : L2.St) (H : Hp) (Δ : List (V × D)) (R : Option Int → Hp → Prop), Sub X.B Δ → St X.K H X.dk Γ Δ → RelE Δ σ A →
  (∀ o Γ' H' Δ', Q o Γ' → Sub Δ Δ' → St X.K H' X.dk Γ' Δ' → R o H') → tl σ H R
/-- an operator's rule -/
def Op (X : EC) (Γ : G) (r : R2) (a b : AV) (Q : AV → G → Prop) : Prop := ∀ (x y : V) (H : Hp) (Δ : List (V × D)) (R : VK), Sub X.B Δ → St X.K H X.dk Γ Δ → RelA Δ x a → RelA Δ y b →
  (∀ c Γ' v H' Δ', Q c Γ' → Sub Δ Δ' → St X.K H' X.dk Γ' Δ' → RelA Δ' v c → R v H') → r x y H R
def Un (X : EC) (Γ : G) (r : V → Hp → VK → Prop) (a : AV) (Q : AV → G → Prop) : Prop := ∀ (x : V) (H : Hp) (Δ : List (V × D)) (R : VK), Sub X.B Δ → St X.K H X.dk Γ Δ → RelA Δ x a →
  (∀ c Γ' v H' Δ', Q c Γ' → Sub Δ Δ' → St X.K H' X.dk Γ' Δ' → RelA Δ' v c → R v H') → r x H R
/-- a built-in function's rule -/
def Cb (X : EC) (Γ : G) (r : List V → Hp → VK → Prop) (as : List AV) (Q : AV → G → Prop) : Prop := ∀ (xs : List V) (H : Hp) (Δ : List (V × D)) (R : VK), Sub X.B Δ → St X.K H X.dk Γ Δ → RelL Δ xs as →
  (∀ c Γ' v H' Δ', Q c Γ' → Sub Δ Δ' → St X.K H' X.dk Γ' Δ' → RelA Δ' v c → R v H') → r xs H R
/-- a method's rule -/
def Mt (X : EC) (Γ : G) (r : V → List V → Hp → VK → Prop) (a : AV) (as : List AV) (Q : AV → G → Prop) : Prop := ∀ (x : V) (xs : List V) (H : Hp) (Δ : List (V × D)) (R : VK), Sub X.B Δ → St X.K H X.dk Γ Δ → RelA Δ x a → RelL Δ xs as →
  (∀ c Γ' v H' Δ', Q c Γ' → Sub Δ Δ' → St X.K H' X.dk Γ' Δ' → RelA Δ' v c → R v H') → r x xs H R
/-- a slice's rule -/
def Sl (X : EC) (Γ : G) (r : V → Option Int → Option Int → Hp → VK → Prop) (a : AV) (l u : Option Int) (Q : AV → G → Prop) : Prop := ∀ (x : V) (H : Hp) (Δ : List (V × D)) (R : VK), Sub X.B Δ → St X.K H X.dk Γ Δ → RelA Δ x a →
  (∀ c Γ' v H' Δ', Q c Γ' → Sub Δ Δ' → St X.K H' X.dk Γ' Δ' → RelA Δ' v c → R v H') → r x l u H R
/-- statements -/
def Do (X : EC) (A : AE) (Γ : G) (t : TS) (D : Ends) : Prop := ∀ (σ : L2.St) (H : Hp) (Δ : List (V × EE.D)), Sub X.B Δ → St X.K H X.dk Γ Δ → RelE Δ σ A → t D σ H
def Fin (X : EC) (A : AE) (Γ : G) (N : L2.St → Hp → Prop) : Prop := ∀ (σ : L2.St) (H : Hp) (Δ : List (V × EE.D)), Sub X.B Δ → St X.K H X.dk Γ Δ → RelE Δ σ A → N σ H
def Rt (X : EC) (Γ : G) (a : AV) (R : VK) : Prop := ∀ (v : V) (H : Hp) (Δ : List (V × EE.D)), Sub X.B Δ → St X.K H X.dk Γ Δ → RelA Δ v a → R v H
def Nx (X : EC) (I : AE → G → Prop) : L2.St → Hp → Prop := fun σ H => ∃ A Γ Δ, I A Γ ∧ Sub X.B Δ ∧ St X.K H X.dk Γ Δ ∧ RelE Δ σ A
/-- targets -/
def Tg (X : EC) (g : TG) (a : AV) (A : AE) (Γ : G) (P : AE → Prop) : Prop := ∀ (x : V) (σ : L2.St) (H : Hp) (Δ : List (V × EE.D)) (R : L2.St → Hp → Prop), Sub X.B Δ → St X.K H X.dk Γ Δ → RelA Δ x a → RelE Δ σ A →
  (∀ A' σ' Δ', P A' → Sub Δ Δ' → St X.K H X.dk Γ Δ' → RelE Δ' σ' A' → R σ' H) → g x σ H R
section
variable {X : EC} {A : AE} {Γ Γ' : G} {Q : AV → G → Prop} {QL : List AV → G → Prop} {QB : Bool → G → Prop} {ta tb te : TE} {tr : TA} {i j : Int} {p : Addr} {ds es : List D} {d e : D} {r : R2} {a b : AV} {x y : Str}
theorem Fin.mono {B : List (V × EE.D)} {N : L2.St → Hp → Prop} (s : Sub X.B B) (h : Fin X A Γ N) : Fin (X.on B) A Γ N := fun σ H Δ sb hS hE => h σ H Δ (s.trans sb) hS hE
theorem Rt.mono {B : List (V × EE.D)} {N : VK} (s : Sub X.B B) (h : Rt X Γ a N) : Rt (X.on B) Γ a N := fun v H Δ sb hS hE => h v H Δ (s.trans sb) hS hE
theorem Ev.mono {B : List (V × EE.D)} (s : Sub X.B B) (h : Ev X A Γ te Q) : Ev (X.on B) A Γ te Q := fun σ H Δ R sb hS hE k => h σ H Δ R (s.trans sb) hS hE k
/-! ### expressions -/
theorem ev_int (q : Q (dI i) Γ) : Ev X A Γ (tC (.int i)) Q := fun σ H Δ R sb hS hE k => k _ _ _ _ Δ q .rfl' hS (Dv.int i)
theorem ev_str (q : Q (dS x) Γ) : Ev X A Γ (tC (.str x)) Q := fun σ H Δ R sb hS hE k => k _ _ _ _ Δ q .rfl' hS (Dv.str x)
theorem ev_bl {b : Bool} (q : Q (dB b) Γ) : Ev X A Γ (tC (.bl b)) Q := fun σ H Δ R sb hS hE k => k _ _ _ _ Δ q .rfl' hS (Dv.bl b)
theorem ev_non (q : Q (.dat .none) Γ) : Ev X A Γ (tC .non) Q := fun σ H Δ R sb hS hE k => k _ _ _ _ Δ q .rfl' hS Dv.non
theorem ev_var {n : Nat} (e : A[n]? = some (some a)) (q : Q a Γ) : Ev X A Γ (tVar n) Q := fun σ H Δ R sb hS hE k => by
  obtain ⟨v, h1, h2⟩ := hE.get e
  exact ⟨v, h1, k _ _ _ _ Δ q .rfl' hS h2⟩
theorem ev_op (h : Ev X A Γ ta fun a Γ1 => Ev X A Γ1 tb fun b Γ2 => Op X Γ2 r a b Q) : Ev X A Γ (tOp r ta tb) Q := fun σ H Δ R sb hS hE k =>
  h σ H Δ _ sb hS hE fun a Γ1 v H1 Δ1 q1 s1 hS1 r1 => q1 σ H1 Δ1 _ (sb.trans s1) hS1 (hE.sub s1) fun b Γ2 u H2 Δ2 q2 s2 hS2 r2 =>
    q2 v u H2 Δ2 R (sb.trans (s1.trans s2)) hS2 (r1.sub s2) r2 fun c Γ' w H' Δ' q s hS' rc => k c Γ' w H' Δ' q (s1.trans (s2.trans s)) hS' rc
theorem ev_un {ru : V → Hp → VK → Prop} (h : Ev X A Γ ta fun a Γ1 => Un X Γ1 ru a Q) : Ev X A Γ (tUn ru ta) Q := fun σ H Δ R sb hS hE k =>
  h σ H Δ _ sb hS hE fun a Γ1 v H1 Δ1 q1 s1 hS1 r1 => q1 v H1 Δ1 R (sb.trans s1) hS1 r1 fun c Γ' w H' Δ' q s hS' rc => k c Γ' w H' Δ' q (s1.trans s) hS' rc
theorem ev_cb {rb : List V → Hp → VK → Prop} (h : EvA X A Γ tr fun as Γ1 => Cb X Γ1 rb as Q) : Ev X A Γ (tCB rb tr) Q := fun σ H Δ R sb hS hE k =>
  h σ H Δ _ sb hS hE fun a Γ1 v H1 Δ1 q1 s1 hS1 r1 => q1 v H1 Δ1 R (sb.trans s1) hS1 r1 fun c Γ' w H' Δ' q s hS' rc => k c Γ' w H' Δ' q (s1.trans s) hS' rc
theorem eva_nil (q : QL [] Γ) : EvA X A Γ tNil QL := fun σ H Δ R sb hS hE k => k _ _ _ _ Δ q .rfl' hS .nil
theorem eva_cons (h : Ev X A Γ ta fun a Γ1 => EvA X A Γ1 tr fun as Γ2 => QL (a :: as) Γ2) : EvA X A Γ (tCons ta tr) QL := fun σ H Δ R sb hS hE k =>
  h σ H Δ _ sb hS hE fun a Γ1 v H1 Δ1 q1 s1 hS1 r1 => q1 σ H1 Δ1 _ (sb.trans s1) hS1 (hE.sub s1) fun as Γ2 vs H2 Δ2 q2 s2 hS2 r2 => k _ _ _ _ Δ2 q2 (s1.trans s2) hS2 (.cons (r1.sub s2) r2)
def datsOf : List AV → List D
  | [] => []
  | .dat d :: as => d :: datsOf as
  | .ref _ :: as => .none :: datsOf as
def allDat : List AV → Bool
  | [] => true
  | .dat _ :: as => allDat as
  | .ref _ :: _ => false
theorem relL_dats {Δ : List (V × EE.D)} : ∀ {vs : List V} {as : List AV}, allDat as = true → RelL Δ vs as → DvAll Δ vs (datsOf as)
  | _, _, _, .nil => .nil
  | _, .dat d :: as, h, .cons r t => .cons r (relL_dats (as := as) h t)
  | _, .ref _ :: as, h, .cons r t => nomatch h
theorem dats_len : ∀ as : List AV, (datsOf as).length = as.length
  | [] => rfl
  | .dat _ :: as => congrArg Nat.succ (dats_len as)
  | .ref _ :: as => congrArg Nat.succ (dats_len as)
theorem ev_lst (h : EvA X A Γ tr fun as Γ1 => allDat as = true ∧ as.length ≤ 10000 ∧ Q (.dat (.list (datsOf as))) Γ1) : Ev X A Γ (tLst tr) Q := fun σ H Δ R sb hS hE k =>
  h σ H Δ _ sb hS hE fun as Γ1 vs H1 Δ1 q1 s1 hS1 r1 => ⟨by rw [r1.len]; exact Nat.le_trans q1.2.1 (by decide), fun p hp =>
    k _ _ _ _ _ q1.2.2 (s1.trans (Sub.cons .rfl')) (hS1.lst hp (relL_dats q1.1 r1)) (Dv.of (List.mem_cons_self ..))⟩
theorem ev_tup (h : EvA X A Γ tr fun as Γ1 => allDat as = true ∧ as.length ≤ 10000 ∧ Q (.dat (.tuple (datsOf as))) Γ1) : Ev X A Γ (tTup tr) Q := fun σ H Δ R sb hS hE k =>
  h σ H Δ _ sb hS hE fun as Γ1 vs H1 Δ1 q1 s1 hS1 r1 => ⟨by rw [r1.len]; exact Nat.le_trans q1.2.1 (by decide), fun p hp =>
    k _ _ _ _ _ q1.2.2 (s1.trans (Sub.cons .rfl')) (hS1.tup hp (relL_dats q1.1 r1)) (Dv.of (List.mem_cons_self ..))⟩
/-- a list display that may change -/
theorem ev_lstM (h : EvA X A Γ tr fun as Γ1 => allDat as = true ∧ as.length ≤ 10000 ∧ ∀ p, Q (.ref p) ((p, datsOf as) :: Γ1)) : Ev X A Γ (tLst tr) Q := fun σ H Δ R sb hS hE k =>
  h σ H Δ _ sb hS hE fun as Γ1 vs H1 Δ1 q1 s1 hS1 r1 => ⟨by rw [r1.len]; exact Nat.le_trans q1.2.1 (by decide), fun p hp =>
    k _ _ _ _ _ (q1.2.2 p) s1 (hS1.make hp (relL_dats q1.1 r1)) rfl⟩
theorem ev_ifE {c : TT} (h : EvT X A Γ c fun b Γ1 => (b = true → Ev X A Γ1 ta Q) ∧ (b = false → Ev X A Γ1 tb Q)) : Ev X A Γ (tIf c ta tb) Q := fun σ H Δ R sb hS hE k =>
  h σ H Δ _ sb hS hE fun b Γ1 H1 Δ1 q1 s1 hS1 => by
    cases b with
    | true => exact iteT (q1.1 rfl σ H1 Δ1 R (sb.trans s1) hS1 (hE.sub s1) fun a Γ' v H' Δ' q s hS' ra => k a Γ' v H' Δ' q (s1.trans s) hS' ra)
    | false => exact iteF (q1.2 rfl σ H1 Δ1 R (sb.trans s1) hS1 (hE.sub s1) fun a Γ' v H' Δ' q s hS' ra => k a Γ' v H' Δ' q (s1.trans s) hS' ra)
/-! ### tests -/
theorem RelA.isB {b : Bool} {K : PySem.W.Frag} {H : Hp} {dk : Dk} {Δ : List (V × EE.D)} {v : V} (hS : St K H dk Γ Δ) (h : RelA Δ v (dB b)) : v = .bl b := Dv.isBl hS h
theorem RelA.isI {K : PySem.W.Frag} {H : Hp} {dk : Dk} {Δ : List (V × EE.D)} {v : V} (hS : St K H dk Γ Δ) (h : RelA Δ v (dI i)) : v = .int i := Dv.isInt hS h
theorem RelA.isS {K : PySem.W.Frag} {H : Hp} {dk : Dk} {Δ : List (V × EE.D)} {v : V} (hS : St K H dk Γ Δ) (h : RelA Δ v (dS x)) : v = .str x := Dv.isStr hS h
theorem evt_test (h : Ev X A Γ te fun a Γ1 => ∃ b, a = dB b ∧ QB b Γ1) : EvT X A Γ (tTest te) QB := fun σ H Δ R sb hS hE k =>
  h σ H Δ _ sb hS hE fun a Γ1 v H1 Δ1 q1 s1 hS1 r1 => by
    obtain ⟨b, rfl, q⟩ := q1
    obtain rfl := r1.isB hS1
    exact ⟨b, rfl, k _ _ _ _ q s1 hS1⟩
theorem evt_B (h : Ev X A Γ te fun a Γ1 => ∃ b, a = dB b ∧ QB b Γ1) : EvT X A Γ (tB te) QB := fun σ H Δ R sb hS hE k =>
  h σ H Δ _ sb hS hE fun a Γ1 v H1 Δ1 q1 s1 hS1 r1 => by
    obtain ⟨b, rfl, q⟩ := q1
    obtain rfl := r1.isB hS1
    exact ⟨b, rfl, k _ _ _ _ q s1 hS1⟩
variable {c e' : TT}
theorem evt_not (h : EvT X A Γ c fun b Γ1 => QB (!b) Γ1) : EvT X A Γ (tNot c) QB := fun σ H Δ R sb hS hE k => h σ H Δ _ sb hS hE fun b Γ1 H1 Δ1 q1 s1 hS1 => k _ _ _ _ q1 s1 hS1
theorem evt_and (h : EvT X A Γ c fun b Γ1 => (b = true → EvT X A Γ1 e' QB) ∧ (b = false → QB false Γ1)) : EvT X A Γ (tAnd c e') QB := fun σ H Δ R sb hS hE k =>
  h σ H Δ _ sb hS hE fun b Γ1 H1 Δ1 q1 s1 hS1 => by
    cases b with
    | true => exact iteT (q1.1 rfl σ H1 Δ1 R (sb.trans s1) hS1 (hE.sub s1) fun b' Γ' H' Δ' q s hS' => k b' Γ' H' Δ' q (s1.trans s) hS')
    | false => exact iteF (k _ _ _ _ (q1.2 rfl) s1 hS1)
theorem evt_or (h : EvT X A Γ c fun b Γ1 => (b = true → QB true Γ1) ∧ (b = false → EvT X A Γ1 e' QB)) : EvT X A Γ (tOr c e') QB := fun σ H Δ R sb hS hE k =>
  h σ H Δ _ sb hS hE fun b Γ1 H1 Δ1 q1 s1 hS1 => by
    cases b with
    | true => exact iteT (k _ _ _ _ (q1.1 rfl) s1 hS1)
    | false => exact iteF (q1.2 rfl σ H1 Δ1 R (sb.trans s1) hS1 (hE.sub s1) fun b' Γ' H' Δ' q s hS' => k b' Γ' H' Δ' q (s1.trans s) hS')
theorem evt_yes (q : QB true Γ) : EvT X A Γ tYes QB := fun σ H Δ R sb hS hE k => k _ _ _ _ q .rfl' hS
/-- both, one as good as the other -/
theorem evt_weak {Q' : Bool → G → Prop} (h : EvT X A Γ c Q') (k : ∀ b Γ', Q' b Γ' → QB b Γ') : EvT X A Γ c QB := fun σ H Δ R sb hS hE kk => h σ H Δ R sb hS hE fun b Γ' H' Δ' q => kk b Γ' H' Δ' (k _ _ q)
theorem ev_weak {Q' : AV → G → Prop} (h : Ev X A Γ te Q') (k : ∀ b Γ', Q' b Γ' → Q b Γ') : Ev X A Γ te Q := fun σ H Δ R sb hS hE kk => h σ H Δ R sb hS hE fun b Γ' v H' Δ' q => kk b Γ' v H' Δ' (k _ _ q)
theorem ev_andV (h : Ev X A Γ ta fun a Γ1 => ∃ b, a = dB b ∧ (b = true → Ev X A Γ1 tb Q) ∧ (b = false → Q (dB false) Γ1)) : Ev X A Γ (tAndV ta tb) Q := fun σ H Δ R sb hS hE k =>
  h σ H Δ _ sb hS hE fun a Γ1 v H1 Δ1 q1 s1 hS1 r1 => by
    obtain ⟨b, rfl, q2, q3⟩ := q1
    obtain rfl := r1.isB hS1
    cases b with
    | true => exact ⟨_, rfl, iteT (q2 rfl σ H1 Δ1 R (sb.trans s1) hS1 (hE.sub s1) fun a Γ' v H' Δ' q s hS' ra => k a Γ' v H' Δ' q (s1.trans s) hS' ra)⟩
    | false => exact ⟨_, rfl, iteF (k _ _ _ _ _ (q3 rfl) s1 hS1 (Dv.bl false))⟩
theorem ev_orV (h : Ev X A Γ ta fun a Γ1 => ∃ b, a = dB b ∧ (b = true → Q (dB true) Γ1) ∧ (b = false → Ev X A Γ1 tb Q)) : Ev X A Γ (tOrV ta tb) Q := fun σ H Δ R sb hS hE k =>
  h σ H Δ _ sb hS hE fun a Γ1 v H1 Δ1 q1 s1 hS1 r1 => by
    obtain ⟨b, rfl, q2, q3⟩ := q1
    obtain rfl := r1.isB hS1
    cases b with
    | true => exact ⟨_, rfl, iteT (k _ _ _ _ _ (q2 rfl) s1 hS1 (Dv.bl true))⟩
    | false => exact ⟨_, rfl, iteF (q3 rfl σ H1 Δ1 R (sb.trans s1) hS1 (hE.sub s1) fun a Γ' v H' Δ' q s hS' ra => k a Γ' v H' Δ' q (s1.trans s) hS' ra)⟩
theorem ev_notV (h : Ev X A Γ ta fun a Γ1 => ∃ b, a = dB b ∧ Q (dB (!b)) Γ1) : Ev X A Γ (tNotV ta) Q := fun σ H Δ R sb hS hE k =>
  h σ H Δ _ sb hS hE fun a Γ1 v H1 Δ1 q1 s1 hS1 r1 => by
    obtain ⟨b, rfl, q⟩ := q1
    obtain rfl := r1.isB hS1
    exact ⟨_, rfl, k _ _ _ _ _ q s1 hS1 (Dv.bl _)⟩
theorem ev_chain {r' : R2} {tc : TE} (h : Ev X A Γ ta fun a Γ1 => Ev X A Γ1 tb fun b Γ2 => Op X Γ2 r a b fun z Γ3 => ∃ k, z = dB k ∧ (k = true → Ev X A Γ3 tc fun w Γ4 => Op X Γ4 r' b w Q) ∧ (k = false → Q (dB false) Γ3)) : Ev X A Γ (tChain r r' ta tb tc) Q := fun σ H Δ R sb hS hE k =>
  h σ H Δ _ sb hS hE fun a Γ1 v H1 Δ1 q1 s1 hS1 r1 => q1 σ H1 Δ1 _ (sb.trans s1) hS1 (hE.sub s1) fun b Γ2 u H2 Δ2 q2 s2 hS2 r2 =>
    q2 v u H2 Δ2 _ (sb.trans (s1.trans s2)) hS2 (r1.sub s2) r2 fun z Γ3 w H3 Δ3 q3 s3 hS3 r3 => by
      obtain ⟨kb, rfl, k1, k2⟩ := q3
      obtain rfl := r3.isB hS3
      refine ⟨kb, rfl, ?_⟩
      have s13 := s1.trans (s2.trans s3)
      cases kb with
      | true => exact iteT (k1 rfl σ H3 Δ3 _ (sb.trans s13) hS3 (hE.sub s13) fun w Γ4 z H4 Δ4 q4 s4 hS4 r4 => q4 u z H4 Δ4 R (sb.trans (s13.trans s4)) hS4 (r2.sub (s3.trans s4)) r4 fun c Γ' w' H' Δ' q s hS' rc => k c Γ' w' H' Δ' q (s13.trans (s4.trans s)) hS' rc)
      | false => exact iteF (k _ _ _ _ _ (k2 rfl) s13 hS3 (Dv.bl false))
/-! ### operators -/
theorem op_I0 {g : Int → Int → Int} (q : Q (dI (g i j)) Γ) : Op X Γ (rI0 fun i j => .int (g i j)) (dI i) (dI j) Q := fun x y H Δ R sb hS r1 r2 k => by
  obtain rfl := r1.isI hS
  obtain rfl := r2.isI hS
  exact ⟨i, j, rfl, rfl, k _ _ _ _ Δ q .rfl' hS (Dv.int _)⟩
theorem op_B0 {g : Int → Int → Bool} (q : Q (dB (g i j)) Γ) : Op X Γ (rI0 fun i j => .bl (g i j)) (dI i) (dI j) Q := fun x y H Δ R sb hS r1 r2 k => by
  obtain rfl := r1.isI hS
  obtain rfl := r2.isI hS
  exact ⟨i, j, rfl, rfl, k _ _ _ _ Δ q .rfl' hS (Dv.bl _)⟩
theorem op_IC {C : Int → Int → Prop} {g : Int → Int → Int} (hc : C i j) (q : Q (dI (g i j)) Γ) : Op X Γ (rI C fun i j => .int (g i j)) (dI i) (dI j) Q := fun x y H Δ R sb hS r1 r2 k => by
  obtain rfl := r1.isI hS
  obtain rfl := r2.isI hS
  exact ⟨i, j, rfl, rfl, hc, k _ _ _ _ Δ q .rfl' hS (Dv.int _)⟩
theorem un_I {g : Int → Int} (q : Q (dI (g i)) Γ) : Un X Γ (rU fun i => .int (g i)) (dI i) Q := fun x H Δ R sb hS r1 k => by
  obtain rfl := r1.isI hS
  exact ⟨i, rfl, k _ _ _ _ Δ q .rfl' hS (Dv.int _)⟩
theorem op_eqI2 (q : Q (dB (decide (i = j))) Γ) : Op X Γ rEq (dI i) (dI j) Q := fun x y H Δ R sb hS r1 r2 k => by
  obtain rfl := r1.isI hS
  obtain rfl := r2.isI hS
  refine ⟨rfl, ?_⟩
  rw [dec_vI]
  exact k _ _ _ _ Δ q .rfl' hS (Dv.bl _)
theorem op_neI2 (q : Q (dB (!decide (i = j))) Γ) : Op X Γ rNe (dI i) (dI j) Q := fun x y H Δ R sb hS r1 r2 k => by
  obtain rfl := r1.isI hS
  obtain rfl := r2.isI hS
  refine ⟨rfl, ?_⟩
  rw [dec_vI]
  exact k _ _ _ _ Δ q .rfl' hS (Dv.bl _)
theorem op_eqS2 (q : Q (dB (decide (x = y))) Γ) : Op X Γ rEq (dS x) (dS y) Q := fun u v H Δ R sb hS r1 r2 k => by
  obtain rfl := r1.isS hS
  obtain rfl := r2.isS hS
  refine ⟨rfl, ?_⟩
  rw [dec_vS]
  exact k _ _ _ _ Δ q .rfl' hS (Dv.bl _)
theorem op_neS2 (q : Q (dB (!decide (x = y))) Γ) : Op X Γ rNe (dS x) (dS y) Q := fun u v H Δ R sb hS r1 r2 k => by
  obtain rfl := r1.isS hS
  obtain rfl := r2.isS hS
  refine ⟨rfl, ?_⟩
  rw [dec_vS]
  exact k _ _ _ _ Δ q .rfl' hS (Dv.bl _)
theorem dec_vB {a b : Bool} : decide (V.bl a = V.bl b) = decide (a = b) := decide_eq_decide.mpr ⟨fun h => V.bl.inj h, fun h => by rw [h]⟩
theorem op_eqB2 {a b : Bool} (q : Q (dB (decide (a = b))) Γ) : Op X Γ rEq (dB a) (dB b) Q := fun u v H Δ R sb hS r1 r2 k => by
  obtain rfl := r1.isB hS
  obtain rfl := r2.isB hS
  refine ⟨rfl, ?_⟩
  rw [dec_vB]
  exact k _ _ _ _ Δ q .rfl' hS (Dv.bl _)
theorem op_neB2 {a b : Bool} (q : Q (dB (!decide (a = b))) Γ) : Op X Γ rNe (dB a) (dB b) Q := fun u v H Δ R sb hS r1 r2 k => by
  obtain rfl := r1.isB hS
  obtain rfl := r2.isB hS
  refine ⟨rfl, ?_⟩
  rw [dec_vB]
  exact k _ _ _ _ Δ q .rfl' hS (Dv.bl _)
def isNon : D → Bool
  | .none => true
  | _ => false
theorem dp_non {K : PySem.W.Frag} {H : Hp} {v : V} (h : Dp K H v d) : decide (v = .non) = isNon d := by
  cases h <;> rfl
theorem op_isNon (q : Q (dB (isNon d)) Γ) : Op X Γ (fun x y H Q => y = .non ∧ Q (.bl (decide (x = .non))) H) (.dat d) (.dat .none) Q := fun u v H Δ R sb hS r1 r2 k => by
  obtain rfl := Dv.isNon hS r2
  refine ⟨rfl, ?_⟩
  rw [dp_non (hS.dp r1)]
  exact k _ _ _ _ Δ q .rfl' hS (Dv.bl _)
theorem op_notNon (q : Q (dB (!isNon d)) Γ) : Op X Γ (fun x y H Q => y = .non ∧ Q (.bl (!decide (x = .non))) H) (.dat d) (.dat .none) Q := fun u v H Δ R sb hS r1 r2 k => by
  obtain rfl := Dv.isNon hS r2
  refine ⟨rfl, ?_⟩
  rw [dp_non (hS.dp r1)]
  exact k _ _ _ _ Δ q .rfl' hS (Dv.bl _)
theorem atI_data {Δ : List (V × EE.D)} {vs : List V} {i : Int} (h : DvAll Δ vs ds) (e : atI ds i = some d) : ∃ v, atI vs i = some v ∧ Dv Δ v d := by
  unfold atI at e ⊢
  rw [h.len]
  cases hx : ixN ds.length i with
  | none => rw [hx] at e; cases e
  | some j =>
    rw [hx] at e
    exact dvs_at h e
theorem op_ixT {i : Int} (e : atI ds i = some d) (q : Q (.dat d) Γ) : Op X Γ (rIxT X.K) (.dat (.tuple ds)) (dI i) Q := fun u v H Δ R sb hS r1 r2 k => by
  obtain rfl := r2.isI hS
  obtain ⟨a, rfl⟩ := Dv.isRef hS r1 trivial
  obtain ⟨vs, hT, hl, Δ', rfl, hS', hv⟩ := (hS.also r1).tupAt (List.mem_cons_self ..)
  obtain ⟨w, e1, e2⟩ := atI_data hv e
  exact ⟨a, vs, i, w, rfl, rfl, hT, e1, k _ _ _ _ _ q (fun x hx => List.mem_append_right _ (List.mem_cons_of_mem _ hx)) hS' e2⟩
theorem op_ixL {i : Int} (e : atI ds i = some d) (q : Q (.dat d) Γ) : Op X Γ (rIxL X.K) (.dat (.list ds)) (dI i) Q := fun u v H Δ R sb hS r1 r2 k => by
  obtain rfl := r2.isI hS
  obtain ⟨a, rfl⟩ := Dv.isRef hS r1 trivial
  obtain ⟨vs, hT, hl, Δ', rfl, hS', hv⟩ := (hS.also r1).lstAt (List.mem_cons_self ..)
  obtain ⟨w, e1, e2⟩ := atI_data hv e
  exact ⟨a, vs, i, w, rfl, rfl, hT, e1, k _ _ _ _ _ q (fun x hx => List.mem_append_right _ (List.mem_cons_of_mem _ hx)) hS' e2⟩
theorem op_ixM {i : Int} (hk : Lk Γ p ds) (e : atI ds i = some d) (q : Q (.dat d) Γ) : Op X Γ (rIxL X.K) (.ref p) (dI i) Q := fun u v H Δ R sb hS r1 r2 k => by
  obtain rfl := r2.isI hS
  obtain rfl := r1
  obtain ⟨vs, h1, h2, Δ', s, hS', hv⟩ := hS.lk hk
  obtain ⟨w, e1, e2⟩ := atI_data hv e
  exact ⟨p, vs, i, w, rfl, rfl, SqL.of h1, e1, k _ _ _ _ _ q s hS' e2⟩
/-- data compared -/
theorem op_eqD2 (h1 : SeqAt.shaped d = true) (h2 : SeqAt.shaped e = true) (q : Q (dB (PyData.eqv d e)) Γ) : Op X Γ (rEqD X.K) (.dat d) (.dat e) Q := fun u v H Δ R sb hS r1 r2 k =>
  ⟨d, e, hS.dp r1, hS.dp r2, h1, h2, k _ _ _ _ Δ q .rfl' hS (Dv.bl _)⟩
theorem op_neD2 (h1 : SeqAt.shaped d = true) (h2 : SeqAt.shaped e = true) (q : Q (dB (!PyData.eqv d e)) Γ) : Op X Γ (rNeD X.K) (.dat d) (.dat e) Q := fun u v H Δ R sb hS r1 r2 k =>
  ⟨d, e, hS.dp r1, hS.dp r2, h1, h2, k _ _ _ _ Δ q .rfl' hS (Dv.bl _)⟩
/-- a list that may change, as it stands -/
theorem St.asData {K : PySem.W.Frag} {H : Hp} {dk : Dk} {Δ : List (V × EE.D)} (hS : St K H dk Γ Δ) (k : Lk Γ p ds) : Dp K H (.ref p) (.list ds) := by
  obtain ⟨Γ', hr⟩ := k.rem
  exact (hS.freeze2 hr).dp (.of (List.mem_cons_self ..))
theorem op_neM (hk : Lk Γ p ds) (h1 : SeqAt.shaped (.list ds) = true) (h2 : SeqAt.shaped e = true) (q : Q (dB (!PyData.eqv (.list ds) e)) Γ) : Op X Γ (rNeD X.K) (.ref p) (.dat e) Q := fun u v H Δ R sb hS r1 r2 k => by
  obtain rfl := r1
  exact ⟨.list ds, e, hS.asData hk, hS.dp r2, h1, h2, k _ _ _ _ Δ q .rfl' hS (Dv.bl _)⟩
theorem op_eqM (hk : Lk Γ p ds) (h1 : SeqAt.shaped (.list ds) = true) (h2 : SeqAt.shaped e = true) (q : Q (dB (PyData.eqv (.list ds) e)) Γ) : Op X Γ (rEqD X.K) (.ref p) (.dat e) Q := fun u v H Δ R sb hS r1 r2 k => by
  obtain rfl := r1
  exact ⟨.list ds, e, hS.asData hk, hS.dp r2, h1, h2, k _ _ _ _ Δ q .rfl' hS (Dv.bl _)⟩
theorem eqv_nil : PyData.eqv (.list ds) (.list []) = ds.isEmpty := by
  cases ds <;> rfl
/-- found != [] -/
theorem op_neNil (hk : Lk Γ p ds) (h1 : Lay 60 ds) (q : Q (dB (!ds.isEmpty)) Γ) : Op X Γ (rNeD X.K) (.ref p) (.dat (.list [])) Q := op_neM hk (lay_list h1) (lay_list lay_nil) (by rw [eqv_nil]; exact q)
theorem op_eqNil (hk : Lk Γ p ds) (h1 : Lay 60 ds) (q : Q (dB ds.isEmpty) Γ) : Op X Γ (rEqD X.K) (.ref p) (.dat (.list [])) Q := op_eqM hk (lay_list h1) (lay_list lay_nil) (by rw [eqv_nil]; exact q)
theorem op_neNilD (h1 : Lay 60 ds) (q : Q (dB (!ds.isEmpty)) Γ) : Op X Γ (rNeD X.K) (.dat (.list ds)) (.dat (.list [])) Q := op_neD2 (lay_list h1) (lay_list lay_nil) (by rw [eqv_nil]; exact q)
theorem op_eqNilD (h1 : Lay 60 ds) (q : Q (dB ds.isEmpty) Γ) : Op X Γ (rEqD X.K) (.dat (.list ds)) (.dat (.list [])) Q := op_eqD2 (lay_list h1) (lay_list lay_nil) (by rw [eqv_nil]; exact q)
/-- x in [..] of ints -/
theorem inV_ints {ns : List Int} : inV (.int i) (ns.map V.int) = ns.contains i := by
  unfold inV
  rw [List.any_map]
  induction ns with
  | nil => rfl
  | cons n ns ih =>
    rw [List.any_cons, List.contains_cons, ih]
    congr 1
    show (n == i) = (i == n)
    by_cases e : n = i
    · subst e; rfl
    · rw [beq_eq_false_iff_ne.mpr e, beq_eq_false_iff_ne.mpr (Ne.symm e)]
theorem flat_intsV (ns : List Int) : (ns.map V.int).all flatV = true := by
  rw [List.all_map, List.all_eq_true]
  intro n _
  rfl
theorem op_inInts {ns : List Int} {neg : Bool} (q : Q (dB (if neg then !ns.contains i else ns.contains i)) Γ) : Op X Γ (rIn X.K neg) (dI i) (.dat (.list (ns.map PyData.int))) Q := fun u v H Δ R sb hS r1 r2 k => by
  obtain rfl := r1.isI hS
  obtain ⟨a, rfl⟩ := Dv.isRef hS r2 trivial
  obtain ⟨vs, hT, hl, Δ', rfl, hS', hv⟩ := (hS.also r2).lstAt (List.mem_cons_self ..)
  obtain rfl := hS'.ints_of hv
  refine ⟨a, _, rfl, Or.inl hT, rfl, flat_intsV ns, ?_⟩
  rw [inV_ints]
  exact k _ _ _ _ Δ q .rfl' hS (Dv.bl _)
theorem op_inIntsT {ns : List Int} {neg : Bool} (q : Q (dB (if neg then !ns.contains i else ns.contains i)) Γ) : Op X Γ (rIn X.K neg) (dI i) (.dat (.tuple (ns.map PyData.int))) Q := fun u v H Δ R sb hS r1 r2 k => by
  obtain rfl := r1.isI hS
  obtain ⟨a, rfl⟩ := Dv.isRef hS r2 trivial
  obtain ⟨vs, hT, hl, Δ', rfl, hS', hv⟩ := (hS.also r2).tupAt (List.mem_cons_self ..)
  obtain rfl := hS'.ints_of hv
  refine ⟨a, _, rfl, Or.inr hT, rfl, flat_intsV ns, ?_⟩
  rw [inV_ints]
  exact k _ _ _ _ Δ q .rfl' hS (Dv.bl _)
/-! ### lists put together -/
/-- a list value: data, or one that may change -/
def AsL (Γ : G) : AV → List D → Prop
  | .dat d, ds => d = .list ds
  | .ref p, ds => Lk Γ p ds
theorem AsL.dp {K : PySem.W.Frag} {H : Hp} {dk : Dk} {Δ : List (V × EE.D)} {v : V} (hS : St K H dk Γ Δ) (h : AsL Γ a ds) (r : RelA Δ v a) : ∃ p vs, v = .ref p ∧ SqL K H p vs ∧ vs.length = ds.length ∧ ∃ Δ', Sub Δ Δ' ∧ St K H dk Γ Δ' ∧ DvAll Δ' vs ds := by
  cases a with
  | dat d =>
    obtain rfl : d = .list ds := h
    obtain ⟨a, rfl⟩ := Dv.isRef hS r trivial
    obtain ⟨vs, hT, hl, Δ', rfl, hS', hv⟩ := (hS.also r).lstAt (List.mem_cons_self ..)
    exact ⟨a, vs, rfl, hT, hl, _, fun x hx => List.mem_append_right _ (List.mem_cons_of_mem _ hx), hS', hv⟩
  | ref p =>
    obtain rfl := r
    obtain ⟨vs, h1, h2, Δ', s, hS', hv⟩ := hS.lk h
    exact ⟨p, vs, rfl, SqL.of h1, h2, Δ', s, hS', hv⟩
theorem asl_dat : AsL Γ (.dat (.list ds)) ds := rfl
theorem asl_ref (h : Lk Γ p ds) : AsL Γ (.ref p) ds := h
/-! ### built-in functions -/
theorem cb_abs (q : Q (dI (if i < 0 then -i else i)) Γ) : Cb X Γ (fun xs H Q => ∃ i, xs = [.int i] ∧ Q (.int (if i < 0 then -i else i)) H) [dI i] Q := fun xs H Δ R sb hS rl k => by
  obtain ⟨_, rfl, r1⟩ := rl.one
  obtain rfl := r1.isI hS
  exact ⟨i, rfl, k _ _ _ _ Δ q .rfl' hS (Dv.int _)⟩
theorem cb_max2 (q : Q (dI (if j > i then j else i)) Γ) : Cb X Γ (fun xs H Q => ∃ i j, xs = [.int i, .int j] ∧ Q (.int (if j > i then j else i)) H) [dI i, dI j] Q := fun xs H Δ R sb hS rl k => by
  obtain ⟨_, _, rfl, r1, r2⟩ := rl.two
  obtain rfl := r1.isI hS
  obtain rfl := r2.isI hS
  exact ⟨i, j, rfl, k _ _ _ _ Δ q .rfl' hS (Dv.int _)⟩
theorem cb_min2 (q : Q (dI (if j < i then j else i)) Γ) : Cb X Γ (fun xs H Q => ∃ i j, xs = [.int i, .int j] ∧ Q (.int (if j < i then j else i)) H) [dI i, dI j] Q := fun xs H Δ R sb hS rl k => by
  obtain ⟨_, _, rfl, r1, r2⟩ := rl.two
  obtain rfl := r1.isI hS
  obtain rfl := r2.isI hS
  exact ⟨i, j, rfl, k _ _ _ _ Δ q .rfl' hS (Dv.int _)⟩
theorem cb_int (q : Q (dI i) Γ) : Cb X Γ (fun xs H Q => (∃ i, xs = [.int i] ∧ Q (.int i) H) ∨ ∃ k, xs = [.bl k] ∧ Q (.int (if k then 1 else 0)) H) [dI i] Q := fun xs H Δ R sb hS rl k => by
  obtain ⟨_, rfl, r1⟩ := rl.one
  obtain rfl := r1.isI hS
  exact Or.inl ⟨i, rfl, k _ _ _ _ Δ q .rfl' hS (Dv.int _)⟩
theorem cb_intB {b : Bool} (q : Q (dI (if b then 1 else 0)) Γ) : Cb X Γ (fun xs H Q => (∃ i, xs = [.int i] ∧ Q (.int i) H) ∨ ∃ k, xs = [.bl k] ∧ Q (.int (if k then 1 else 0)) H) [dB b] Q := fun xs H Δ R sb hS rl k => by
  obtain ⟨_, rfl, r1⟩ := rl.one
  obtain rfl := r1.isB hS
  exact Or.inr ⟨b, rfl, k _ _ _ _ Δ q .rfl' hS (Dv.int _)⟩
theorem cb_lenL (h : AsL Γ a ds) (q : Q (dI ds.length) Γ) : Cb X Γ (fun xs H Q => ∃ p ys, xs = [.ref p] ∧ (SqL X.K H p ys ∨ SqT X.K H p ys) ∧ Q (.int ys.length) H) [a] Q := fun xs H Δ R sb hS rl k => by
  obtain ⟨_, rfl, r1⟩ := rl.one
  obtain ⟨p, vs, rfl, h1, h2, _⟩ := h.dp hS r1
  refine ⟨p, vs, rfl, Or.inl h1, ?_⟩
  rw [h2]
  exact k _ _ _ _ Δ q .rfl' hS (Dv.int _)
theorem cb_lenT (q : Q (dI ds.length) Γ) : Cb X Γ (fun xs H Q => ∃ p ys, xs = [.ref p] ∧ (SqL X.K H p ys ∨ SqT X.K H p ys) ∧ Q (.int ys.length) H) [.dat (.tuple ds)] Q := fun xs H Δ R sb hS rl k => by
  obtain ⟨_, rfl, r1⟩ := rl.one
  obtain ⟨a, rfl⟩ := Dv.isRef hS r1 trivial
  obtain ⟨vs, h1, h2⟩ := (hS.also r1).lenT (List.mem_cons_self ..)
  refine ⟨a, vs, rfl, Or.inr h1, ?_⟩
  rw [h2]
  exact k _ _ _ _ Δ q .rfl' hS (Dv.int _)
/-- tuple(list) -/
theorem cb_tupleL (h : AsL Γ a ds) (q : Q (.dat (.tuple ds)) Γ) : Cb X Γ (fun xs H Q => ∃ p ys, xs = [.ref p] ∧ ((SqL X.K H p ys ∧ ∀ l, H l = none → Q (.ref l) (upd H l (.tup ys))) ∨ (SqT X.K H p ys ∧ Q (.ref p) H))) [a] Q := fun xs H Δ R sb hS rl k => by
  obtain ⟨_, rfl, r1⟩ := rl.one
  obtain ⟨p, vs, rfl, h1, h2, Δ', s, hS', hv⟩ := h.dp hS r1
  exact ⟨p, vs, rfl, Or.inl ⟨h1, fun l hl => k _ _ _ _ _ q (s.trans (Sub.cons .rfl')) (hS'.tup hl hv) (Dv.of (List.mem_cons_self ..))⟩⟩
theorem cb_tupleT (q : Q (.dat (.tuple ds)) Γ) : Cb X Γ (fun xs H Q => ∃ p ys, xs = [.ref p] ∧ ((SqL X.K H p ys ∧ ∀ l, H l = none → Q (.ref l) (upd H l (.tup ys))) ∨ (SqT X.K H p ys ∧ Q (.ref p) H))) [.dat (.tuple ds)] Q := fun xs H Δ R sb hS rl k => by
  obtain ⟨_, rfl, r1⟩ := rl.one
  obtain ⟨a, rfl⟩ := Dv.isRef hS r1 trivial
  obtain ⟨vs, h1, h2⟩ := (hS.also r1).lenT (List.mem_cons_self ..)
  exact ⟨a, vs, rfl, Or.inr ⟨h1, k _ _ _ _ _ q .rfl' hS r1⟩⟩
/-- list(..): one that may change -/
theorem cb_listL (h : AsL Γ a ds) (q : ∀ p, Q (.ref p) ((p, ds) :: Γ)) : Cb X Γ (fun xs H Q => ∃ p ys, xs = [.ref p] ∧ (SqL X.K H p ys ∨ SqT X.K H p ys) ∧ ∀ l, H l = none → Q (.ref l) (upd H l (.lst ys))) [a] Q := fun xs H Δ R sb hS rl k => by
  obtain ⟨_, rfl, r1⟩ := rl.one
  obtain ⟨p, vs, rfl, h1, h2, Δ', s, hS', hv⟩ := h.dp hS r1
  exact ⟨p, vs, rfl, Or.inl h1, fun l hl => k _ _ _ _ _ (q l) s (hS'.make hl hv) rfl⟩
theorem cb_listT (q : ∀ p, Q (.ref p) ((p, ds) :: Γ)) : Cb X Γ (fun xs H Q => ∃ p ys, xs = [.ref p] ∧ (SqL X.K H p ys ∨ SqT X.K H p ys) ∧ ∀ l, H l = none → Q (.ref l) (upd H l (.lst ys))) [.dat (.tuple ds)] Q := fun xs H Δ R sb hS rl k => by
  obtain ⟨_, rfl, r1⟩ := rl.one
  obtain ⟨a, rfl⟩ := Dv.isRef hS r1 trivial
  obtain ⟨vs, hT, hl, Δ', rfl, hS', hv⟩ := (hS.also r1).tupAt (List.mem_cons_self ..)
  exact ⟨a, vs, rfl, Or.inr hT, fun l hl => k _ _ _ _ _ (q l) (fun x hx => List.mem_append_right _ (List.mem_cons_of_mem _ hx)) (hS'.make hl hv) rfl⟩
/-- repr -/
theorem cb_repr {n m : Nat} (hd : Disp d) (sm : Sm n m d) (hn : n ≤ 16000000) (hk : m ≤ 60) (q : Q (dS d.shown) Γ) : Cb X Γ (rRepr X.K) [.dat d] Q := fun xs H Δ R sb hS rl k => by
  obtain ⟨_, rfl, r1⟩ := rl.one
  obtain ⟨a, rfl⟩ := Dv.isRef hS r1 hd
  exact ⟨a, d, rfl, hS.dp r1, sm.show_, Nat.le_trans sm.deep hk, Nat.le_trans sm.long (Nat.le_trans hn (by decide)), k _ _ _ _ Δ q .rfl' hS (Dv.str _)⟩
theorem cb_reprB {b : Bool} (q : Q (dS (if b then "True" else "False")) Γ) : Cb X Γ (fun xs H Q => ∃ b, xs = [V.bl b] ∧ Q (.str (if b then "True" else "False")) H) [dB b] Q := fun xs H Δ R sb hS rl k => by
  obtain ⟨_, rfl, r1⟩ := rl.one
  obtain rfl := r1.isB hS
  exact ⟨b, rfl, k _ _ _ _ Δ q .rfl' hS (Dv.str _)⟩
/-- numbers in a list -/
theorem asl_ints {ns : List Int} {K : PySem.W.Frag} {H : Hp} {dk : Dk} {Δ : List (V × EE.D)} {v : V} (hS : St K H dk Γ Δ) (h : AsL Γ a (ns.map PyData.int)) (r : RelA Δ v a) : ∃ p, v = .ref p ∧ SqL K H p (ns.map V.int) := by
  obtain ⟨p, vs, rfl, h1, h2, Δ', s, hS', hv⟩ := h.dp hS r
  obtain rfl := hS'.ints_of hv
  exact ⟨p, rfl, h1⟩
theorem cb_sum {ns : List Int} (h : AsL Γ a (ns.map PyData.int)) (q : Q (dI ns.sum) Γ) : Cb X Γ (rSum X.K) [a] Q := fun xs H Δ R sb hS rl k => by
  obtain ⟨_, rfl, r1⟩ := rl.one
  obtain ⟨p, rfl, h1⟩ := asl_ints hS h r1
  exact ⟨p, ns, rfl, h1, k _ _ _ _ Δ q .rfl' hS (Dv.int _)⟩
theorem cb_max {ns : List Int} (h : AsL Γ a (ns.map PyData.int)) (hn : 0 < ns.length) (q : ∀ m, m ∈ ns → (∀ y ∈ ns, y ≤ m) → Q (dI m) Γ) : Cb X Γ (rMax X.K) [a] Q := fun xs H Δ R sb hS rl k => by
  obtain ⟨_, rfl, r1⟩ := rl.one
  obtain ⟨p, rfl, h1⟩ := asl_ints hS h r1
  exact ⟨p, ns, rfl, h1, hn, fun m m1 m2 => k _ _ _ _ Δ (q m m1 m2) .rfl' hS (Dv.int _)⟩
theorem cb_min {ns : List Int} (h : AsL Γ a (ns.map PyData.int)) (hn : 0 < ns.length) (q : ∀ m, m ∈ ns → (∀ y ∈ ns, m ≤ y) → Q (dI m) Γ) : Cb X Γ (rMin X.K) [a] Q := fun xs H Δ R sb hS rl k => by
  obtain ⟨_, rfl, r1⟩ := rl.one
  obtain ⟨p, rfl, h1⟩ := asl_ints hS h r1
  exact ⟨p, ns, rfl, h1, hn, fun m m1 m2 => k _ _ _ _ Δ (q m m1 m2) .rfl' hS (Dv.int _)⟩
theorem cb_lcm (ha : i.natAbs < 2 ^ 12000) (hb : j.natAbs < 2 ^ 12000) (q : Q (dI (Nat.lcm i.natAbs j.natAbs : Nat)) Γ) : Cb X Γ rLcm [dI i, dI j] Q := fun xs H Δ R sb hS rl k => by
  obtain ⟨_, _, rfl, r1, r2⟩ := rl.two
  obtain rfl := r1.isI hS
  obtain rfl := r2.isI hS
  exact ⟨i, j, rfl, ha, hb, k _ _ _ _ Δ q .rfl' hS (Dv.int _)⟩
theorem cb_gcd (q : Q (dI (Nat.gcd i.natAbs j.natAbs : Nat)) Γ) : Cb X Γ rGcd [dI i, dI j] Q := fun xs H Δ R sb hS rl k => by
  obtain ⟨_, _, rfl, r1, r2⟩ := rl.two
  obtain rfl := r1.isI hS
  obtain rfl := r2.isI hS
  exact ⟨i, j, rfl, k _ _ _ _ Δ q .rfl' hS (Dv.int _)⟩
/-! ### methods of lists -/
def IsL (Γ : G) : AV → Prop
  | .dat (.list _) => True
  | .ref p => ∃ ds, Lk Γ p ds
  | _ => False
theorem isl_ref (h : Lk Γ p ds) : IsL Γ (.ref p) := ⟨ds, h⟩
theorem ev_bm {rm : V → List V → Hp → VK → Prop} (h : Ev X A Γ te fun a Γ1 => IsL Γ1 a ∧ EvA X A Γ1 tr fun as Γ2 => Mt X Γ2 rm a as Q) : Ev X A Γ (tBM X.K "list" rm te tr) Q := fun σ H Δ R sb hS hE k =>
  h σ H Δ _ sb hS hE fun a Γ1 v H1 Δ1 q1 s1 hS1 r1 => ⟨by
    cases a with
    | dat d =>
      cases d with
      | list ds =>
        obtain ⟨p, rfl⟩ := Dv.isRef hS1 r1 trivial
        obtain ⟨vs, h1, h2⟩ := (hS1.also r1).lenL (List.mem_cons_self ..)
        exact Or.inl ⟨rfl, _, h1⟩
      | none => exact q1.1.elim
      | bool b => exact q1.1.elim
      | int i => exact q1.1.elim
      | str x => exact q1.1.elim
      | tuple x => exact q1.1.elim
      | dict x => exact q1.1.elim
    | ref p =>
      obtain rfl := r1
      obtain ⟨ds, hk⟩ := q1.1
      obtain ⟨vs, h1, _⟩ := hS1.lk hk
      exact Or.inl ⟨rfl, _, SqL.of h1⟩, q1.2 σ H1 Δ1 _ (sb.trans s1) hS1 (hE.sub s1) fun as Γ2 us H2 Δ2 q2 s2 hS2 r2 => q2 v us H2 Δ2 R (sb.trans (s1.trans s2)) hS2 (r1.sub s2) r2 fun c Γ' w H' Δ' q s hS' rc => k c Γ' w H' Δ' q (s1.trans (s2.trans s)) hS' rc⟩
theorem ev_bm0 {rm : V → List V → Hp → VK → Prop} (h : Ev X A Γ te fun a Γ1 => IsL Γ1 a ∧ Mt X Γ1 rm a [] Q) : Ev X A Γ (tBM0 X.K "list" rm te) Q := fun σ H Δ R sb hS hE k =>
  h σ H Δ _ sb hS hE fun a Γ1 v H1 Δ1 q1 s1 hS1 r1 => ⟨by
    cases a with
    | dat d =>
      cases d with
      | list ds =>
        obtain ⟨p, rfl⟩ := Dv.isRef hS1 r1 trivial
        obtain ⟨vs, h1, h2⟩ := (hS1.also r1).lenL (List.mem_cons_self ..)
        exact Or.inl ⟨rfl, _, h1⟩
      | none => exact q1.1.elim
      | bool b => exact q1.1.elim
      | int i => exact q1.1.elim
      | str x => exact q1.1.elim
      | tuple x => exact q1.1.elim
      | dict x => exact q1.1.elim
    | ref p =>
      obtain rfl := r1
      obtain ⟨ds, hk⟩ := q1.1
      obtain ⟨vs, h1, _⟩ := hS1.lk hk
      exact Or.inl ⟨rfl, _, SqL.of h1⟩, q1.2 v [] H1 Δ1 R (sb.trans s1) hS1 r1 .nil fun c Γ' w H' Δ' q s hS' rc => k c Γ' w H' Δ' q (s1.trans s) hS' rc⟩
theorem mt_app (hk : Put Γ p ds (ds ++ [d]) Γ') (hl : ds.length ≤ 10000) (q : Q (.dat .none) Γ') : Mt X Γ rAppend (.ref p) [.dat d] Q := fun v vs H Δ R sb hS r1 rl k => by
  obtain ⟨_, rfl, r2⟩ := rl.one
  obtain rfl := r1
  obtain ⟨us, h1, h2, Δ', s, hS', hv⟩ := hS.lk hk.lk
  refine ⟨p, us, _, rfl, rfl, h1, by rw [h2]; exact Nat.lt_of_le_of_lt hl (by decide), k _ _ _ _ _ q s (hS'.put2 hk ?_) Dv.non⟩
  have h3 : ∀ {a b : List V} {x y : List EE.D}, DvAll Δ' a x → DvAll Δ' b y → DvAll Δ' (a ++ b) (x ++ y) := fun {a b x y} h k => by
    induction h with
    | nil => exact k
    | cons h _ ih => exact .cons h ih
  exact h3 hv (.cons (Dv.sub s r2) .nil)
theorem dvs_app {Δ : List (V × EE.D)} {a b : List V} {x y : List EE.D} (h : DvAll Δ a x) (k : DvAll Δ b y) : DvAll Δ (a ++ b) (x ++ y) := by
  induction h with
  | nil => exact k
  | cons h _ ih => exact .cons h ih
theorem dvs_take {Δ : List (V × EE.D)} {a : List V} {x : List EE.D} (h : DvAll Δ a x) : ∀ n, DvAll Δ (a.take n) (x.take n) := by
  induction h with
  | nil => intro n; simp; exact .nil
  | cons h _ ih =>
    intro n
    cases n with
    | zero => exact .nil
    | succ n => exact .cons h (ih n)
theorem dvs_drop {Δ : List (V × EE.D)} {a : List V} {x : List EE.D} (h : DvAll Δ a x) : ∀ n, DvAll Δ (a.drop n) (x.drop n) := by
  induction h with
  | nil => intro n; simp; exact .nil
  | cons h t ih =>
    intro n
    cases n with
    | zero => exact .cons h t
    | succ n => exact ih n
theorem dvs_rev {Δ : List (V × EE.D)} {a : List V} {x : List EE.D} (h : DvAll Δ a x) : DvAll Δ a.reverse x.reverse := by
  induction h with
  | nil => exact .nil
  | cons h _ ih =>
    rw [List.reverse_cons, List.reverse_cons]
    exact dvs_app ih (.cons h .nil)
theorem dvs_erase {Δ : List (V × EE.D)} {a : List V} {x : List EE.D} (h : DvAll Δ a x) : ∀ n, DvAll Δ (a.eraseIdx n) (x.eraseIdx n) := by
  induction h with
  | nil => intro n; exact .nil
  | cons h t ih =>
    intro n
    cases n with
    | zero => exact t
    | succ n => exact .cons h (ih n)
theorem dvs_set {Δ : List (V × EE.D)} {a : List V} {x : List EE.D} {v : V} (hv : Dv Δ v d) (h : DvAll Δ a x) : ∀ n, DvAll Δ (a.set n v) (x.set n d) := by
  induction h with
  | nil => intro n; exact .nil
  | cons h t ih =>
    intro n
    cases n with
    | zero => exact .cons hv t
    | succ n => exact .cons h (ih n)
theorem mt_ins {i : Int} (hk : Put Γ p ds (ds.take i.toNat ++ [d] ++ ds.drop i.toNat) Γ') (hl : ds.length ≤ 10000) (h0 : 0 ≤ i) (h1 : i < 2 ^ 62) (q : Q (.dat .none) Γ') :
    Mt X Γ (fun x vs H Q => ∃ (l : Addr) (xs : List V) (i : Int) (y : V), x = .ref l ∧ vs = [.int i, y] ∧ H l = some (.lst xs) ∧ xs.length < sizeLine ∧ 0 ≤ i ∧ i < 2 ^ 63 ∧ Q .non (upd H l (.lst (xs.take i.toNat ++ [y] ++ xs.drop i.toNat)))) (.ref p) [dI i, .dat d] Q := fun v vs H Δ R sb hS r1 rl k => by
  obtain ⟨_, _, rfl, r2, r3⟩ := rl.two
  obtain rfl := r1
  obtain rfl := r2.isI hS
  obtain ⟨us, g1, h2, Δ', s, hS', hv⟩ := hS.lk hk.lk
  exact ⟨p, us, i, _, rfl, rfl, g1, by rw [h2]; exact Nat.lt_of_le_of_lt hl (by decide), h0, by omega, k _ _ _ _ _ q s (hS'.put2 hk (dvs_app (dvs_app (dvs_take hv _) (.cons (Dv.sub s r3) .nil)) (dvs_drop hv _))) Dv.non⟩
theorem mt_popA {i : Int} (h0 : 0 ≤ i) (hi : ds[i.toNat]? = some d) (hl : ds.length ≤ 10000) (hk : Put Γ p ds (ds.eraseIdx i.toNat) Γ') (q : Q (.dat d) Γ') : Mt X Γ rPopAt (.ref p) [dI i] Q := fun v vs H Δ R sb hS r1 rl k => by
  obtain ⟨_, rfl, r2⟩ := rl.one
  obtain rfl := r1
  obtain rfl := r2.isI hS
  obtain ⟨us, g1, h2, Δ', s, hS', hv⟩ := hS.lk hk.lk
  obtain ⟨w, e1, e2⟩ := dvs_at hv hi
  obtain ⟨hlt, _⟩ := List.getElem?_eq_some_iff.mp hi
  refine ⟨p, us, i, i.toNat, w, rfl, rfl, g1, by omega, by omega, seq_of h0 (by rw [h2]; omega), e1, k _ _ _ _ _ q s (hS'.put2 hk (dvs_erase hv _)) e2⟩
theorem mt_popL (hi : ds[ds.length - 1]? = some d) (hk : Put Γ p ds ds.dropLast Γ') (q : Q (.dat d) Γ') : Mt X Γ rPop (.ref p) [] Q := fun v vs H Δ R sb hS r1 rl k => by
  cases rl
  obtain rfl := r1
  obtain ⟨us, g1, h2, Δ', s, hS', hv⟩ := hS.lk hk.lk
  obtain ⟨w, e1, e2⟩ := dvs_at hv hi
  refine ⟨p, us, w, rfl, rfl, g1, by rw [h2]; exact e1, k _ _ _ _ _ q s (hS'.put2 hk ?_) e2⟩
  rw [List.dropLast_eq_take, List.dropLast_eq_take, h2]
  exact dvs_take hv _
theorem mt_ext {q : Addr} (hq : Lk Γ q es) (hk : Put Γ p ds (ds ++ es) Γ') (hl : ds.length + es.length ≤ 10000) (qq : Q (.dat .none) Γ') : Mt X Γ rExtend (.ref p) [.ref q] Q := fun v vs H Δ R sb hS r1 rl k => by
  obtain ⟨_, rfl, r2⟩ := rl.one
  obtain rfl := r1
  obtain rfl := r2
  obtain ⟨us, g1, h2, Δ1, s1, hS1, hv⟩ := hS.lk hk.lk
  obtain ⟨ws, k1, k2, Δ2, s2, hS2, hw⟩ := hS1.lk hq
  exact ⟨p, q, us, ws, rfl, rfl, g1, k1, by rw [h2, k2]; exact Nat.le_trans hl (by decide), k _ _ _ _ _ qq (s1.trans s2) (hS2.put2 hk (dvs_app (hv.sub s2) hw)) Dv.non⟩
/-! ### slices -/
def cutD (xs : List D) (lo hi : Option Int) : List D := (xs.drop (HT.sIx xs.length 0 lo)).take (HT.sIx xs.length xs.length hi - HT.sIx xs.length 0 lo)
theorem dvs_cut {Δ : List (V × EE.D)} {a : List V} {x : List EE.D} (h : DvAll Δ a x) (lo hi : Option Int) : DvAll Δ (cutV a lo hi) (cutD x lo hi) := by
  unfold cutV cutD
  rw [h.len]
  exact dvs_take (dvs_drop h _) _
theorem evo_none {QO : Option Int → G → Prop} (q : QO none Γ) : EvO X A Γ tNoPart QO := fun σ H Δ R sb hS hE k => k _ _ _ _ q .rfl' hS
theorem evo_some {QO : Option Int → G → Prop} (h : Ev X A Γ te fun a Γ1 => ∃ i, a = dI i ∧ QO (some i) Γ1) : EvO X A Γ (tPart te) QO := fun σ H Δ R sb hS hE k =>
  h σ H Δ _ sb hS hE fun a Γ1 v H1 Δ1 q1 s1 hS1 r1 => by
    obtain ⟨i, rfl, q⟩ := q1
    obtain rfl := r1.isI hS1
    exact ⟨i, rfl, k _ _ _ _ q s1 hS1⟩
theorem ev_sl {rs : V → Option Int → Option Int → Hp → VK → Prop} {tl th : TO} (h : Ev X A Γ te fun a Γ1 => EvO X A Γ1 tl fun l Γ2 => EvO X A Γ2 th fun u Γ3 => Sl X Γ3 rs a l u Q) : Ev X A Γ (tSl rs te tl th) Q := fun σ H Δ R sb hS hE k =>
  h σ H Δ _ sb hS hE fun a Γ1 v H1 Δ1 q1 s1 hS1 r1 => q1 σ H1 Δ1 _ (sb.trans s1) hS1 (hE.sub s1) fun l Γ2 H2 Δ2 q2 s2 hS2 => q2 σ H2 Δ2 _ (sb.trans (s1.trans s2)) hS2 (hE.sub (s1.trans s2)) fun u Γ3 H3 Δ3 q3 s3 hS3 =>
    q3 v H3 Δ3 R (sb.trans (s1.trans (s2.trans s3))) hS3 (r1.sub (s2.trans s3)) fun c Γ' w H' Δ' q s hS' rc => k c Γ' w H' Δ' q (s1.trans (s2.trans (s3.trans s))) hS' rc
theorem sl_L {l u : Option Int} (h : AsL Γ a ds) (q : Q (.dat (.list (cutD ds l u))) Γ) : Sl X Γ (rSlL X.K) a l u Q := fun x H Δ R sb hS r1 k => by
  obtain ⟨p, vs, rfl, h1, h2, Δ', s, hS', hv⟩ := h.dp hS r1
  exact ⟨p, vs, rfl, h1, fun t ht => k _ _ _ _ _ q (s.trans (Sub.cons .rfl')) (hS'.lst ht (dvs_cut hv l u)) (Dv.of (List.mem_cons_self ..))⟩
theorem sl_LM {l u : Option Int} (h : AsL Γ a ds) (q : ∀ t, Q (.ref t) ((t, cutD ds l u) :: Γ)) : Sl X Γ (rSlL X.K) a l u Q := fun x H Δ R sb hS r1 k => by
  obtain ⟨p, vs, rfl, h1, h2, Δ', s, hS', hv⟩ := h.dp hS r1
  exact ⟨p, vs, rfl, h1, fun t ht => k _ _ _ _ _ (q t) s (hS'.make ht (dvs_cut hv l u)) rfl⟩
theorem cut_all {l u : Option Int} (h : HT.sIx ds.length 0 l = 0 ∧ HT.sIx ds.length ds.length u = ds.length) : cutD ds l u = ds := by
  unfold cutD
  rw [h.1, h.2, List.drop_zero, Nat.sub_zero, List.take_length]
theorem sl_T {l u : Option Int} (q : Q (.dat (.tuple (cutD ds l u))) Γ) : Sl X Γ (rSlA X.K) (.dat (.tuple ds)) l u Q := fun x H Δ R sb hS r1 k => by
  obtain ⟨a, rfl⟩ := Dv.isRef hS r1 trivial
  obtain ⟨vs, hT, hl, Δ', rfl, hS', hv⟩ := (hS.also r1).tupAt (List.mem_cons_self ..)
  refine ⟨a, vs, rfl, hT, fun h => k _ _ _ _ _ q .rfl' hS ?_, fun _ t ht => k _ _ _ _ _ q (fun x hx => List.mem_cons_of_mem _ (List.mem_append_right _ (List.mem_cons_of_mem _ hx))) (hS'.tup ht (dvs_cut hv l u)) (Dv.of (List.mem_cons_self ..))⟩
  rw [hl] at h
  rw [cut_all h]
  exact r1
/-! ### calls -/
def SpA (K : PySem.W.Frag) (T : Dk → G → List AV → (AV → G → Prop) → Prop) : Sp := fun vs H Q _ => ∃ dk Γ Δ as, St K H dk Γ Δ ∧ RelL Δ vs as ∧ T dk Γ as fun a Γ' => ∀ v H' Δ', Sub Δ Δ' → St K H' dk Γ' Δ' → RelA Δ' v a → Q v H'
theorem ev_call {T : Dk → G → List AV → (AV → G → Prop) → Prop} {E : XK} (h : EvA X A Γ tr fun as Γ1 => ∀ R : AV → G → Prop, (∀ a Γ', Q a Γ' → R a Γ') → T X.dk Γ1 as R) : Ev X A Γ (tCall (SpA X.K T) [] E tr) Q := fun σ H Δ R sb hS hE k =>
  h σ H Δ _ sb hS hE fun as Γ1 vs H1 Δ1 q s1 hS1 hL => ⟨X.dk, Γ1, Δ1, as, hS1, by rw [List.append_nil]; exact hL, q _ fun a Γ' hq v H' Δ' s2 hS' ra => k a Γ' v H' Δ' hq (s1.trans s2) hS' ra⟩
theorem ev_callK {T : Dk → G → List AV → (AV → G → Prop) → Prop} {E : XK} (h : EvA X A Γ tr fun as Γ1 => ∀ R : AV → G → Prop, (∀ a Γ', Q a Γ' → R a Γ') → T X.dk Γ1 as.reverse R) : Ev X A Γ (tCallK0 (SpA X.K T) (fun zs => zs.reverse) E tr) Q := fun σ H Δ R sb hS hE k =>
  h σ H Δ _ sb hS hE fun as Γ1 vs H1 Δ1 q s1 hS1 hL => ⟨X.dk, Γ1, Δ1, as.reverse, hS1, hL.reverse, q _ fun a Γ' hq v H' Δ' s2 hS' ra => k a Γ' v H' Δ' hq (s1.trans s2) hS' ra⟩
end
theorem mulx_dec {i j : Int} (h1 : -(10 ^ 200) ≤ i) (h2 : i ≤ 10 ^ 200) (h3 : -(10 ^ 200) ≤ j) (h4 : j ≤ 10 ^ 200) : CMulX i j := by
  have e : (10 : Int) ^ 200 < 2 ^ 700 := by decide +kernel
  exact mulx_ok (a := 700) (b := 700) (by omega) (by omega) (by decide)
theorem divw_dec {i j : Int} (h1 : 0 < j) (h2 : j ≤ 10 ^ 200) : CDivW i j := by
  have e : (10 : Int) ^ 200 < 2 ^ 700 := by decide +kernel
  exact wide_div (b := 700) h1 (by omega) (by decide) (by decide)
end EE

namespace EE
open PySem PySem.Spec PyProof.Rows L2
section
variable {X : EC} {A : AE} {Γ Γ' : G} {te ta tb : TE} {tr : TA} {t u tz tb' : TS} {E : Ends} {g : TG} {n : Nat} {c : TT} {ds : List D} {d : D} {a : AV} {p : Addr}
theorem Do.go (h : Do X A Γ t E) {σ : L2.St} {H : Hp} {Δ : List (V × D)} (sb : Sub X.B Δ) (hS : St X.K H X.dk Γ Δ) (hE : RelE Δ σ A) : t E σ H := h σ H Δ sb hS hE
/-! ### targets -/
theorem tg_name {i : Nat} {P : AE → Prop} (q : P (A.set i (some a))) : Tg X (gName i) a A Γ P := fun x σ H Δ R sb hS ra hE k => k _ _ _ q .rfl' hS (hE.set ra)
def Tgs (X : EC) (g : TGs) (as : List AV) (A : AE) (Γ : G) (P : AE → Prop) : Prop := ∀ (xs : List V) (σ : L2.St) (H : Hp) (Δ : List (V × D)) (R : L2.St → Hp → Prop), Sub X.B Δ → St X.K H X.dk Γ Δ → RelL Δ xs as → RelE Δ σ A →
  (∀ A' σ' Δ', P A' → Sub Δ Δ' → St X.K H X.dk Γ Δ' → RelE Δ' σ' A' → R σ' H) → g xs σ H R
theorem tgs_nil {P : AE → Prop} (q : P A) : Tgs X gNil [] A Γ P := fun xs σ H Δ R sb hS ra hE k => by
  cases ra
  exact ⟨rfl, k _ _ _ q .rfl' hS hE⟩
theorem tgs_cons {gs : TGs} {as : List AV} {P : AE → Prop} (h : Tg X g a A Γ fun A' => Tgs X gs as A' Γ P) : Tgs X (gCons g gs) (a :: as) A Γ P := fun xs σ H Δ R sb hS ra hE k => by
  cases ra with
  | cons r t =>
    exact ⟨_, _, rfl, h _ σ H Δ _ sb hS r hE fun A' σ' Δ' q s hS' hE' => q _ σ' H Δ' R (sb.trans s) hS' (t.sub s) hE' fun A2 σ2 Δ2 q2 s2 => k A2 σ2 Δ2 q2 (s.trans s2)⟩
theorem relL_of {Δ : List (V × D)} : ∀ {vs : List V} {ds : List D}, DvAll Δ vs ds → RelL Δ vs (ds.map AV.dat)
  | _, _, .nil => .nil
  | _, _, .cons h t => .cons h (relL_of t)
theorem tg_tup {gs : TGs} {P : AE → Prop} (hn : ds.length = n) (h : Tgs X gs (ds.map AV.dat) A Γ P) : Tg X (gTup X.K n gs) (.dat (.tuple ds)) A Γ P := fun x σ H Δ R sb hS ra hE k => by
  obtain ⟨a, rfl⟩ := Dv.isRef hS ra trivial
  obtain ⟨vs, hT, hl, Δ', rfl, hS', hv⟩ := (hS.also ra).tupAt (List.mem_cons_self ..)
  have s : Sub Δ (vs.zip ds ++ (V.ref a, PyData.tuple ds) :: Δ) := fun x hx => List.mem_append_right _ (List.mem_cons_of_mem _ hx)
  exact ⟨a, vs, rfl, hT, by rw [hl]; exact hn, h vs σ H _ R (sb.trans s) hS' (relL_of hv) (hE.sub s) fun A2 σ2 Δ2 q2 s2 => k A2 σ2 Δ2 q2 (s.trans s2)⟩
/-! ### statements -/
theorem do_next (h : Fin X A Γ E.nx) : Do X A Γ tNext E := fun σ H Δ sb hS hE => h σ H Δ sb hS hE
theorem do_seq (h : Do X A Γ t { E with nx := u E }) : Do X A Γ (tSeq t u) E := fun σ H Δ sb hS hE => h σ H Δ sb hS hE
theorem fin_do (h : Do X A Γ u E) : Fin X A Γ (u E) := h
theorem do_set {i : Nat} (h : Ev X A Γ te fun a Γ' => Do X (A.set i (some a)) Γ' tz E) : Do X A Γ (tSeq (tAsg te (gName i)) tz) E := fun σ H Δ sb hS hE =>
  h σ H Δ _ sb hS hE fun a Γ' v H' Δ' q s hS' ra => q _ H' Δ' (sb.trans s) hS' ((hE.sub s).set ra)
theorem do_setL {i : Nat} (h : Ev X A Γ te fun a Γ' => Fin X (A.set i (some a)) Γ' E.nx) : Do X A Γ (tAsg te (gName i)) E := fun σ H Δ sb hS hE =>
  h σ H Δ _ sb hS hE fun a Γ' v H' Δ' q s hS' ra => q _ H' Δ' (sb.trans s) hS' ((hE.sub s).set ra)
theorem do_asg (h : Ev X A Γ te fun a Γ' => Tg X g a A Γ' fun A' => Do X A' Γ' tz E) : Do X A Γ (tSeq (tAsg te g) tz) E := fun σ H Δ sb hS hE =>
  h σ H Δ _ sb hS hE fun a Γ' v H' Δ' q s hS' ra => q v σ H' Δ' _ (sb.trans s) hS' ra (hE.sub s) fun A' σ' Δ2 q2 s2 hS2 hE2 => q2 σ' H' Δ2 (sb.trans (s.trans s2)) hS2 hE2
theorem do_asgL (h : Ev X A Γ te fun a Γ' => Tg X g a A Γ' fun A' => Fin X A' Γ' E.nx) : Do X A Γ (tAsg te g) E := fun σ H Δ sb hS hE =>
  h σ H Δ _ sb hS hE fun a Γ' v H' Δ' q s hS' ra => q v σ H' Δ' _ (sb.trans s) hS' ra (hE.sub s) fun A' σ' Δ2 q2 s2 hS2 hE2 => q2 σ' H' Δ2 (sb.trans (s.trans s2)) hS2 hE2
theorem do_par {i j : Nat} (h : EvA X A Γ tr fun as Γ' => ∃ a b, as = [a, b] ∧ Do X ((A.set i (some a)).set j (some b)) Γ' tz E) : Do X A Γ (tSeq (tPar i j tr) tz) E := fun σ H Δ sb hS hE =>
  h σ H Δ _ sb hS hE fun as Γ' vs H' Δ' q s hS' ra => by
    obtain ⟨a, b, rfl, q⟩ := q
    obtain ⟨x, y, rfl, r1, r2⟩ := ra.two
    exact ⟨x, y, rfl, q _ H' Δ' (sb.trans s) hS' (((hE.sub s).set r1).set r2)⟩
theorem do_parL {i j : Nat} (h : EvA X A Γ tr fun as Γ' => ∃ a b, as = [a, b] ∧ Fin X ((A.set i (some a)).set j (some b)) Γ' E.nx) : Do X A Γ (tPar i j tr) E := fun σ H Δ sb hS hE =>
  h σ H Δ _ sb hS hE fun as Γ' vs H' Δ' q s hS' ra => by
    obtain ⟨a, b, rfl, q⟩ := q
    obtain ⟨x, y, rfl, r1, r2⟩ := ra.two
    exact ⟨x, y, rfl, q _ H' Δ' (sb.trans s) hS' (((hE.sub s).set r1).set r2)⟩
theorem RelL.three {Δ : List (V × D)} {a b e : AV} {xs : List V} (h : RelL Δ xs [a, b, e]) : ∃ x y z, xs = [x, y, z] ∧ RelA Δ x a ∧ RelA Δ y b ∧ RelA Δ z e := by
  cases h with
  | cons h t =>
    obtain ⟨y, z, rfl, r1, r2⟩ := t.two
    exact ⟨_, _, _, rfl, h, r1, r2⟩
theorem do_par3 {i j l : Nat} (h : EvA X A Γ tr fun as Γ' => ∃ a b e, as = [a, b, e] ∧ Do X (((A.set i (some a)).set j (some b)).set l (some e)) Γ' tz E) : Do X A Γ (tSeq (tPar3 i j l tr) tz) E := fun σ H Δ sb hS hE =>
  h σ H Δ _ sb hS hE fun as Γ' vs H' Δ' q s hS' ra => by
    obtain ⟨a, b, e, rfl, q⟩ := q
    obtain ⟨x, y, z, rfl, r1, r2, r3⟩ := ra.three
    exact ⟨x, y, z, rfl, q _ H' Δ' (sb.trans s) hS' ((((hE.sub s).set r1).set r2).set r3)⟩
theorem do_drop (h : Ev X A Γ te fun _ Γ' => Do X A Γ' tz E) : Do X A Γ (tSeq (tDrop te) tz) E := fun σ H Δ sb hS hE =>
  h σ H Δ _ sb hS hE fun a Γ' v H' Δ' q s hS' ra => q _ H' Δ' (sb.trans s) hS' (hE.sub s)
theorem do_dropL (h : Ev X A Γ te fun _ Γ' => Fin X A Γ' E.nx) : Do X A Γ (tDrop te) E := fun σ H Δ sb hS hE =>
  h σ H Δ _ sb hS hE fun a Γ' v H' Δ' q s hS' ra => q _ H' Δ' (sb.trans s) hS' (hE.sub s)
theorem do_ret (h : Ev X A Γ te fun a Γ' => Rt X Γ' a E.rt) : Do X A Γ (tRet te) E := fun σ H Δ sb hS hE =>
  h σ H Δ _ sb hS hE fun a Γ' v H' Δ' q s hS' ra => q v H' Δ' (sb.trans s) hS' ra
theorem do_retN (h : Rt X Γ (.dat .none) E.rt) : Do X A Γ tRetN E := fun σ H Δ sb hS hE => h _ H Δ sb hS Dv.non
theorem do_aug {i : Nat} {ti : TIp} (e : A[i]? = some (some a)) (h : Ev X A Γ te fun b Γ1 => Op X Γ1 ti a b fun z Γ2 => Do X (A.set i (some z)) Γ2 tz E) : Do X A Γ (tSeq (tAug i te ti) tz) E := fun σ H Δ sb hS hE => by
  obtain ⟨x, e1, r⟩ := hE.get e
  exact ⟨x, e1, h σ H Δ _ sb hS hE fun b Γ1 y H1 Δ1 q s hS1 rb => q x y H1 Δ1 _ (sb.trans s) hS1 (r.sub s) rb fun z Γ2 v H2 Δ2 q2 s2 hS2 rz => q2 _ H2 Δ2 (sb.trans (s.trans s2)) hS2 ((hE.sub (s.trans s2)).set rz)⟩
theorem do_augL {i : Nat} {ti : TIp} (e : A[i]? = some (some a)) (h : Ev X A Γ te fun b Γ1 => Op X Γ1 ti a b fun z Γ2 => Fin X (A.set i (some z)) Γ2 E.nx) : Do X A Γ (tAug i te ti) E := fun σ H Δ sb hS hE => by
  obtain ⟨x, e1, r⟩ := hE.get e
  exact ⟨x, e1, h σ H Δ _ sb hS hE fun b Γ1 y H1 Δ1 q s hS1 rb => q x y H1 Δ1 _ (sb.trans s) hS1 (r.sub s) rb fun z Γ2 v H2 Δ2 q2 s2 hS2 rz => q2 _ H2 Δ2 (sb.trans (s.trans s2)) hS2 ((hE.sub (s.trans s2)).set rz)⟩
theorem do_if (h : EvT X A Γ c fun b Γ1 => (b = true → Do X A Γ1 t E) ∧ (b = false → Do X A Γ1 u E)) : Do X A Γ (tIfS c t u) E := fun σ H Δ sb hS hE =>
  h σ H Δ _ sb hS hE fun b Γ1 H1 Δ1 q s hS1 => by
    cases b with
    | true => exact iteT (q.1 rfl σ H1 Δ1 (sb.trans s) hS1 (hE.sub s))
    | false => exact iteF (q.2 rfl σ H1 Δ1 (sb.trans s) hS1 (hE.sub s))
theorem do_ifS (h : EvT X A Γ c fun b Γ1 => (b = true → Do X A Γ1 t { E with nx := tz E }) ∧ (b = false → Do X A Γ1 u { E with nx := tz E })) : Do X A Γ (tSeq (tIfS c t u) tz) E := do_seq (do_if h)
theorem fin_nx {I : AE → G → Prop} (h : I A Γ) : Fin X A Γ (Nx X I) := fun σ H Δ sb hS hE => ⟨A, Γ, Δ, h, sb, hS, hE⟩
theorem do_cut (I : AE → G → Prop) (h : Do X A Γ t { E with nx := Nx X I }) (k : ∀ A' Γ', I A' Γ' → Do X A' Γ' u E) : Do X A Γ (Evl.tCut t u) E := fun σ H Δ sb hS hE =>
  ⟨Nx X I, h σ H Δ sb hS hE, fun σ' H' q => by
    obtain ⟨A', Γ', Δ', hI, sb', hS', hE'⟩ := q
    exact k A' Γ' hI σ' H' Δ' sb' hS' hE'⟩
/-- a list that changes no more -/
theorem do_freeze {i : Nat} (e : A[i]? = some (some (.ref p))) (hk : Rem Γ p ds Γ') (h : Do X (A.set i (some (.dat (.list ds)))) Γ' t E) : Do X A Γ t E := fun σ H Δ sb hS hE => by
  obtain ⟨v, e1, r⟩ := hE.get e
  obtain rfl := r
  refine h σ H _ (sb.trans (Sub.cons .rfl')) (hS.freeze2 hk) ?_
  have g := (hE.sub (Sub.cons (x := (V.ref p, PyData.list ds)) .rfl')).set (i := i) (v := .ref p) (a := .dat (.list ds)) (Dv.of (List.mem_cons_self ..))
  have e2 : σ.set i (some (.ref p)) = σ := by
    refine List.ext_getElem? fun j => ?_
    by_cases hj : i = j
    · subst hj
      obtain ⟨hl, _⟩ := List.getElem?_eq_some_iff.mp e1
      rw [List.getElem?_set_self hl, e1]
    · rw [List.getElem?_set_ne hj]
  rw [e2] at g
  exact g
/-- a list that is asked no more -/
theorem do_forget (hk : Rem Γ p ds Γ') (h : Do X (A.map fun x => match x with | some (.ref q) => if q = p then none else some (.ref q) | y => y) Γ' t E) : Do X A Γ t E := fun σ H Δ sb hS hE => by
  refine h σ H Δ sb (hS.drop2 hk) ?_
  clear h
  induction hE with
  | nil => exact .nil
  | @cons o σ a A ho _ ih =>
    refine .cons ?_ ih
    cases a with
    | none => trivial
    | some a =>
      cases a with
      | dat d => exact ho
      | ref q =>
        show RelO Δ o (if q = p then none else some (.ref q))
        split
        · trivial
        · exact ho
theorem ev_freeze {Q : AV → G → Prop} (hk : Rem Γ p ds Γ') (q : Q (.dat (.list ds)) Γ') : ∀ {v : V} {H : Hp} {Δ : List (V × D)} {R : VK}, St X.K H X.dk Γ Δ → RelA Δ v (.ref p) → (∀ a Γ' v H' Δ', Q a Γ' → Sub Δ Δ' → St X.K H' X.dk Γ' Δ' → RelA Δ' v a → R v H') → R v H := fun hS r k => by
  obtain rfl := r
  exact k _ _ _ _ _ q (Sub.cons .rfl') (hS.freeze2 hk) (Dv.of (List.mem_cons_self ..))
theorem Rt.drop {R : VK} (hk : Rem Γ p ds Γ') (h : Rt X Γ' a R) : Rt X Γ a R := fun v H Δ sb hS ra => h v H Δ sb (hS.drop2 hk) ra
theorem do_brk (h : Fin X A Γ E.bk) : Do X A Γ tBreak E := fun σ H Δ sb hS hE => h σ H Δ sb hS hE
theorem do_cont (h : Fin X A Γ E.ct) : Do X A Γ tCont E := fun σ H Δ sb hS hE => h σ H Δ sb hS hE
theorem fin_nxS {B : List (V × D)} (s : Sub X.B B) {I : AE → G → Prop} (h : I A Γ) : Fin (X.on B) A Γ (Nx X I) := Fin.mono s (fin_nx h)
/-! ### loops -/
abbrev turnE (X : EC) (I : AE → G → Prop) (E : Ends) : Ends := { E with nx := Nx X I, ct := Nx X I, bk := E.nx }
/-- over a tuple -/
theorem do_forT (I : Nat → AE → G → Prop) (h : Ev X A Γ te fun a Γ1 => ∃ ds, a = .dat (.tuple ds) ∧ I 0 A Γ1 ∧
      (∀ B i d A1 Γ2, Sub X.B B → ds[i]? = some d → I i A1 Γ2 → Tg (X.on B) g (.dat d) A1 Γ2 fun A2 => Do (X.on B) A2 Γ2 tb' (turnE (X.on B) (I (i + 1)) E)) ∧ ∀ A1 Γ2, I ds.length A1 Γ2 → Fin X A1 Γ2 E.nx) : Do X A Γ (tFor (iTup X.K te) g tb') E := fun σ H Δ sb hS hE =>
  h σ H Δ _ sb hS hE fun a Γ1 v H1 Δ1 q s hS1 ra => by
    obtain ⟨ds, rfl, q0, qs, qd⟩ := q
    obtain ⟨ad, rfl⟩ := Dv.isRef hS1 ra trivial
    have hS2 := hS1.also ra
    obtain ⟨vs, hT, hl⟩ := hS2.lenT (List.mem_cons_self ..)
    have sb1 : Sub X.B ((V.ref ad, PyData.tuple ds) :: Δ1) := sb.trans (s.trans (Sub.cons .rfl'))
    refine ⟨ad, rfl, ⟨vs, hT⟩, for_it (n := ds.length) walkT (fun i => Nx (X.on ((V.ref ad, PyData.tuple ds) :: X.B)) (I i)) ⟨A, Γ1, _, q0, fun x hx => ?_, hS2, hE.sub (s.trans (Sub.cons .rfl'))⟩ (fun i σ H _ hP => ?_) (fun i x σ H H' hi hP hy => ?_) (fun σ H hP => ?_)⟩
    · rcases List.mem_cons.mp hx with rfl | hx
      · exact List.mem_cons_self ..
      · exact sb1 x hx
    · obtain ⟨A1, Γ2, Δ2, hI, sb2, hS3, hE3⟩ := hP
      exact hS3.lenT (sb2 _ (List.mem_cons_self ..))
    · obtain ⟨A1, Γ2, Δ2, hI, sb2, hS3, hE3⟩ := hP
      obtain ⟨rfl, f⟩ := hy
      obtain ⟨dd, e1, hS4⟩ := hS3.turnT (sb2 _ (List.mem_cons_self ..)) f
      exact qs _ i dd A1 Γ2 (Sub.cons .rfl') e1 hI x σ H' _ _ (sb2.trans (Sub.cons .rfl')) hS4 (Dv.of (List.mem_cons_self ..)) (hE3.sub (Sub.cons .rfl')) fun A2 σ2 Δ3 q2 s2 hS5 hE5 => q2 σ2 H' Δ3 (sb2.trans ((Sub.cons .rfl').trans s2)) hS5 hE5
    · obtain ⟨A1, Γ2, Δ2, hI, sb2, hS3, hE3⟩ := hP
      exact qd A1 Γ2 hI σ H Δ2 ((Sub.cons .rfl').trans sb2) hS3 hE3
/-- over a list that stays -/
theorem do_forL (I : Nat → AE → G → Prop) (h : Ev X A Γ te fun a Γ1 => ∃ ds, a = .dat (.list ds) ∧ I 0 A Γ1 ∧
      (∀ B i d A1 Γ2, Sub X.B B → ds[i]? = some d → I i A1 Γ2 → Tg (X.on B) g (.dat d) A1 Γ2 fun A2 => Do (X.on B) A2 Γ2 tb' (turnE (X.on B) (I (i + 1)) E)) ∧ ∀ A1 Γ2, I ds.length A1 Γ2 → Fin X A1 Γ2 E.nx) : Do X A Γ (tFor (iList X.K te) g tb') E := fun σ H Δ sb hS hE =>
  h σ H Δ _ sb hS hE fun a Γ1 v H1 Δ1 q s hS1 ra => by
    obtain ⟨ds, rfl, q0, qs, qd⟩ := q
    obtain ⟨ad, rfl⟩ := Dv.isRef hS1 ra trivial
    have hS2 := hS1.also ra
    obtain ⟨vs, hT, hl⟩ := hS2.lenL (List.mem_cons_self ..)
    have sb1 : Sub X.B ((V.ref ad, PyData.list ds) :: Δ1) := sb.trans (s.trans (Sub.cons .rfl'))
    refine ⟨ad, rfl, ⟨vs, hT⟩, for_it (n := ds.length) walkL (fun i => Nx (X.on ((V.ref ad, PyData.list ds) :: X.B)) (I i)) ⟨A, Γ1, _, q0, fun x hx => ?_, hS2, hE.sub (s.trans (Sub.cons .rfl'))⟩ (fun i σ H _ hP => ?_) (fun i x σ H H' hi hP hy => ?_) (fun σ H hP => ?_)⟩
    · rcases List.mem_cons.mp hx with rfl | hx
      · exact List.mem_cons_self ..
      · exact sb1 x hx
    · obtain ⟨A1, Γ2, Δ2, hI, sb2, hS3, hE3⟩ := hP
      exact hS3.lenL (sb2 _ (List.mem_cons_self ..))
    · obtain ⟨A1, Γ2, Δ2, hI, sb2, hS3, hE3⟩ := hP
      obtain ⟨rfl, f⟩ := hy
      obtain ⟨dd, e1, hS4⟩ := hS3.turnL (sb2 _ (List.mem_cons_self ..)) f
      exact qs _ i dd A1 Γ2 (Sub.cons .rfl') e1 hI x σ H' _ _ (sb2.trans (Sub.cons .rfl')) hS4 (Dv.of (List.mem_cons_self ..)) (hE3.sub (Sub.cons .rfl')) fun A2 σ2 Δ3 q2 s2 hS5 hE5 => q2 σ2 H' Δ3 (sb2.trans ((Sub.cons .rfl').trans s2)) hS5 hE5
    · obtain ⟨A1, Γ2, Δ2, hI, sb2, hS3, hE3⟩ := hP
      exact qd A1 Γ2 hI σ H Δ2 ((Sub.cons .rfl').trans sb2) hS3 hE3
/-- over a list that may change, but stays through the loop -/
theorem do_forM (I : Nat → AE → G → Prop) (h : Ev X A Γ te fun a Γ1 => ∃ p ds, a = .ref p ∧ I 0 A Γ1 ∧ (∀ i A1 Γ2, I i A1 Γ2 → Lk Γ2 p ds) ∧
      (∀ i d A1 Γ2, ds[i]? = some d → I i A1 Γ2 → Tg X g (.dat d) A1 Γ2 fun A2 => Do X A2 Γ2 tb' (turnE X (I (i + 1)) E)) ∧ ∀ A1 Γ2, I ds.length A1 Γ2 → Fin X A1 Γ2 E.nx) : Do X A Γ (tFor (iList X.K te) g tb') E := fun σ H Δ sb hS hE =>
  h σ H Δ _ sb hS hE fun a Γ1 v H1 Δ1 q s hS1 ra => by
    obtain ⟨p, ds, rfl, q0, qk, qs, qd⟩ := q
    obtain rfl := ra
    obtain ⟨vs, h1, h2, _⟩ := hS1.lk (qk 0 A Γ1 q0)
    refine ⟨p, rfl, ⟨vs, SqL.of h1⟩, for_it (n := ds.length) walkL (fun i => Nx X (I i)) ⟨A, Γ1, _, q0, sb.trans s, hS1, hE.sub s⟩ (fun i σ H _ hP => ?_) (fun i x σ H H' hi hP hy => ?_) (fun σ H hP => ?_)⟩
    · obtain ⟨A1, Γ2, Δ2, hI, sb2, hS3, hE3⟩ := hP
      obtain ⟨vs, h1, h2, _⟩ := hS3.lk (qk i A1 Γ2 hI)
      exact ⟨vs, SqL.of h1, h2⟩
    · obtain ⟨A1, Γ2, Δ2, hI, sb2, hS3, hE3⟩ := hP
      obtain ⟨rfl, f⟩ := hy
      obtain ⟨vs, h1, h2, Δ3, s3, hS4, hv⟩ := hS3.lk (qk i A1 Γ2 hI)
      obtain ⟨dd, e1, e2⟩ := dvs_back hv (f vs (SqL.of h1))
      exact qs i dd A1 Γ2 e1 hI x σ H' _ _ (sb2.trans s3) hS4 e2 (hE3.sub s3) fun A2 σ2 Δ3 q2 s2 hS5 hE5 => q2 σ2 H' Δ3 (sb2.trans (s3.trans s2)) hS5 hE5
    · obtain ⟨A1, Γ2, Δ2, hI, sb2, hS3, hE3⟩ := hP
      exact qd A1 Γ2 hI σ H Δ2 sb2 hS3 hE3
/-- over range(n) -/
theorem do_forR (I : Nat → AE → G → Prop) (h : EvA X A Γ tr fun as Γ1 => ∃ n : Int, as = [dI n] ∧ -(2 ^ 62) ≤ n ∧ n < 2 ^ 62 ∧ I 0 A Γ1 ∧
      (∀ (i : Nat) A1 Γ2, (i : Int) < n → I i A1 Γ2 → Tg X g (dI i) A1 Γ2 fun A2 => Do X A2 Γ2 tb' (turnE X (I (i + 1)) E)) ∧ ∀ A1 Γ2, I n.toNat A1 Γ2 → Fin X A1 Γ2 E.nx) : Do X A Γ (tFor (iRng1 tr) g tb') E := fun σ H Δ sb hS hE =>
  h σ H Δ _ sb hS hE fun as Γ1 vs H1 Δ1 q s hS1 ra => by
    obtain ⟨n, rfl, n1, n2, q0, qs, qd⟩ := q
    obtain ⟨v, rfl, r⟩ := ra.one
    obtain rfl := r.isI hS1
    refine ⟨n, rfl, n1, n2, for_range (lo := 0) (n := n.toNat) (fun i => Nx X (I i)) ⟨A, Γ1, Δ1, q0, sb.trans s, hS1, hE.sub s⟩ (fun i σ H hi hP => ?_) (fun σ H hP => ?_)⟩
    · obtain ⟨A1, Γ2, Δ2, hI, sb2, hS3, hE3⟩ := hP
      rw [Int.zero_add]
      exact qs i A1 Γ2 (by omega) hI (.int i) σ H Δ2 _ sb2 hS3 (Dv.int _) hE3 fun A2 σ2 Δ3 q2 s2 hS5 hE5 => q2 σ2 H Δ3 (sb2.trans s2) hS5 hE5
    · obtain ⟨A1, Γ2, Δ2, hI, sb2, hS3, hE3⟩ := hP
      exact qd A1 Γ2 hI σ H Δ2 sb2 hS3 hE3
/-- over range(lo, hi) -/
theorem do_forR2 (I : Nat → AE → G → Prop) (h : EvA X A Γ tr fun as Γ1 => ∃ lo n : Int, as = [dI lo, dI n] ∧ (-(2 ^ 62) ≤ lo ∧ lo < 2 ^ 62 ∧ -(2 ^ 62) ≤ n ∧ n < 2 ^ 62) ∧ I 0 A Γ1 ∧
      (∀ (i : Nat) A1 Γ2, lo + (i : Int) < n → I i A1 Γ2 → Tg X g (dI (lo + i)) A1 Γ2 fun A2 => Do X A2 Γ2 tb' (turnE X (I (i + 1)) E)) ∧ ∀ A1 Γ2, I (n - lo).toNat A1 Γ2 → Fin X A1 Γ2 E.nx) : Do X A Γ (tFor (iRng2 tr) g tb') E := fun σ H Δ sb hS hE =>
  h σ H Δ _ sb hS hE fun as Γ1 vs H1 Δ1 q s hS1 ra => by
    obtain ⟨lo, n, rfl, n1, q0, qs, qd⟩ := q
    obtain ⟨v, w, rfl, r, r2⟩ := ra.two
    obtain rfl := r.isI hS1
    obtain rfl := r2.isI hS1
    refine ⟨lo, n, rfl, n1, for_range (lo := lo) (n := (n - lo).toNat) (fun i => Nx X (I i)) ⟨A, Γ1, Δ1, q0, sb.trans s, hS1, hE.sub s⟩ (fun i σ H hi hP => ?_) (fun σ H hP => ?_)⟩
    · obtain ⟨A1, Γ2, Δ2, hI, sb2, hS3, hE3⟩ := hP
      exact qs i A1 Γ2 (by omega) hI (.int _) σ H Δ2 _ sb2 hS3 (Dv.int _) hE3 fun A2 σ2 Δ3 q2 s2 hS5 hE5 => q2 σ2 H Δ3 (sb2.trans s2) hS5 hE5
    · obtain ⟨A1, Γ2, Δ2, hI, sb2, hS3, hE3⟩ := hP
      exact qd A1 Γ2 hI σ H Δ2 sb2 hS3 hE3
/-- while -/
theorem do_while (I : Nat → AE → G → Prop) (m : Nat) (h0 : I m A Γ) (h : ∀ m A1 Γ1, I m A1 Γ1 → EvT X A1 Γ1 c fun b Γ2 => (b = true → Do X A1 Γ2 tb' (turnE X (fun A' Γ' => ∃ m', m' < m ∧ I m' A' Γ') E)) ∧ (b = false → Fin X A1 Γ2 E.nx)) : Do X A Γ (tWhile c tb') E := fun σ H Δ sb hS hE => by
  refine ⟨fun m => Nx X (I m), ⟨m, A, Γ, Δ, h0, sb, hS, hE⟩, fun m σ H hP => ?_⟩
  obtain ⟨A1, Γ1, Δ1, hI, sb1, hS1, hE1⟩ := hP
  refine h m A1 Γ1 hI σ H Δ1 _ sb1 hS1 hE1 fun b Γ2 H2 Δ2 q s hS2 => ?_
  cases b with
  | true =>
    refine iteT ⟨_, fun σ' H' hN => ?_, q.1 rfl σ H2 Δ2 (sb1.trans s) hS2 (hE1.sub s)⟩
    obtain ⟨A', Γ', Δ', ⟨m', hm, hI'⟩, sb', hS', hE'⟩ := hN
    exact ⟨m', hm, A', Γ', Δ', hI', sb', hS', hE'⟩
  | false => exact iteF (q.2 rfl σ H2 Δ2 (sb1.trans s) hS2 (hE1.sub s))
end
end EE

namespace EE
open PySem PySem.Spec PyProof.Rows L2
/-! ### comprehensions -/
theorem wipe_set_ne (σ : L2.St) (o : Option V) : ∀ (vs : List Nat) (i : Nat), i ∈ vs → wipe (σ.set i o) vs = wipe σ vs
  | [], i, h => nomatch h
  | v :: vs, i, h => by
    show (wipe (σ.set i o) vs).set v none = (wipe σ vs).set v none
    by_cases hv : i ∈ vs
    · rw [wipe_set_ne σ o vs i hv]
    · have e : i = v := by
        rcases List.mem_cons.mp h with h | h
        · exact h
        · exact absurd h hv
      subst e
      have g : ∀ (τ : L2.St) (us : List Nat), i ∉ us → wipe (τ.set i o) us = (wipe τ us).set i o := fun τ us => by
        induction us with
        | nil => intro _; rfl
        | cons u us ih =>
          intro hn
          have h1 : i ≠ u := fun z => hn (by rw [z]; exact List.mem_cons_self ..)
          show (wipe (τ.set i o) us).set u none = ((wipe τ us).set u none).set i o
          rw [ih fun z => hn (List.mem_cons_of_mem _ z), List.set_comm _ _ h1]
      rw [g σ vs hv, List.set_set]
theorem wipe_wipe (σ : L2.St) (vs : List Nat) : wipe (wipe σ vs) vs = wipe σ vs := by
  have g : ∀ us : List Nat, (∀ u ∈ us, u ∈ vs) → wipe (wipe σ us) vs = wipe σ vs := fun us => by
    induction us with
    | nil => intro _; rfl
    | cons u us ih =>
      intro hu
      show wipe ((wipe σ us).set u none) vs = wipe σ vs
      rw [wipe_set_ne _ _ _ _ (hu u (List.mem_cons_self ..)), ih fun w hw => hu w (List.mem_cons_of_mem _ hw)]
  exact g vs fun _ h => h
/-- a target whose names are the block's own -/
inductive Own (K : PySem.W.Frag) (vs : List Nat) : TG → Prop
  | name {i : Nat} : i ∈ vs → Own K vs (gName i)
  | two {i j : Nat} : i ∈ vs → j ∈ vs → Own K vs (gTup K 2 (gCons (gName i) (gCons (gName j) gNil)))
  | three {i j k : Nat} : i ∈ vs → j ∈ vs → k ∈ vs → Own K vs (gTup K 3 (gCons (gName i) (gCons (gName j) (gCons (gName k) gNil))))
theorem Own.back {K : PySem.W.Frag} {vs : List Nat} {g : TG} (h : Own K vs g) {x : V} {σ : L2.St} {H : Hp} {P : L2.St → Hp → Prop} (q : g x (wipe σ vs) H P) : g x (wipe σ vs) H fun σ2 H2 => wipe σ2 vs = wipe σ vs ∧ P σ2 H2 := by
  cases h with
  | name hi => exact ⟨by rw [wipe_set_ne _ _ _ _ hi, wipe_wipe], q⟩
  | two hi hj =>
    obtain ⟨a, xs, e1, e2, e3, v, r, e4, w, r2, e5, e6, q⟩ := q
    refine ⟨a, xs, e1, e2, e3, v, r, e4, w, r2, e5, e6, ?_, q⟩
    rw [wipe_set_ne _ _ _ _ hj, wipe_set_ne _ _ _ _ hi, wipe_wipe]
  | three hi hj hk =>
    obtain ⟨a, xs, e1, e2, e3, v, r, e4, w, r2, e5, u, r3, e6, e7, q⟩ := q
    refine ⟨a, xs, e1, e2, e3, v, r, e4, w, r2, e5, u, r3, e6, e7, ?_, q⟩
    rw [wipe_set_ne _ _ _ _ hk, wipe_set_ne _ _ _ _ hj, wipe_set_ne _ _ _ _ hi, wipe_wipe]
section
variable {X : EC} {A : AE} {Γ Γ' : G} {Q : AV → G → Prop} {te ta tb : TE} {tr : TA} {tt : TT} {g : TG} {vs : List Nat} {d : D} {a : AV} {p : Addr}
/-- one turn: the new list stands first, and nothing else changes -/
def Turn1 (X : EC) (A : AE) (Γ : G) (tt : TT) (te : TE) (I : List D → Prop) (p : Addr) (acc : List D) : Prop :=
  EvT X A ((p, acc) :: Γ) tt fun b Γ1 => Γ1 = (p, acc) :: Γ ∧ (b = true → Ev X A ((p, acc) :: Γ) te fun a Γ2 => Γ2 = (p, acc) :: Γ ∧ ∃ d, a = .dat d ∧ I (acc ++ [d])) ∧ (b = false → I acc)
theorem Turn1.run {I : List D → Prop} {acc : List D} (h : Turn1 X A Γ tt te I p acc) (hl : acc.length < 10000) {σ : L2.St} {H : Hp} {Δ : List (V × D)} {R : Hp → Prop} (sb : Sub X.B Δ) (hS : St X.K H X.dk ((p, acc) :: Γ) Δ) (hE : RelE Δ σ A)
    (k : ∀ acc' H' Δ', I acc' → acc'.length ≤ acc.length + 1 → Sub Δ Δ' → St X.K H' X.dk ((p, acc') :: Γ) Δ' → R H') : tt σ H fun b H3 => if b = true then te σ H3 fun y H4 => ∃ as, H4 p = some (.lst as) ∧ as.length < sizeLine ∧ R (upd H4 p (.lst (as ++ [y]))) else R H3 :=
  h σ H Δ _ sb hS hE fun b Γ1 H1 Δ1 q s hS1 => by
    obtain ⟨rfl, q1, q2⟩ := q
    cases b with
    | true =>
      refine iteT (q1 rfl σ H1 Δ1 _ (sb.trans s) hS1 (hE.sub s) fun a Γ2 v H2 Δ2 q3 s2 hS2 ra => ?_)
      obtain ⟨rfl, d, rfl, hI⟩ := q3
      obtain ⟨vs, h1, h2, Δ3, s3, hS3, hv⟩ := hS2.lk .here
      exact ⟨vs, h1, by rw [h2]; exact Nat.lt_of_lt_of_le hl (by decide), k _ _ _ hI (by rw [List.length_append]; exact Nat.le_refl _) (s.trans (s2.trans s3)) (hS3.put2 .here (dvs_app hv (.cons (Dv.sub s3 ra) .nil)))⟩
    | false => exact iteF (k _ _ _ (q2 rfl) (Nat.le_succ _) s hS1)

/-! ### what is walked: the data ds, as long as the facts F and P stand -/
structure Itd (X : EC) (J : It) (F : List (V × D)) (P : G → Prop) (ds : List D) : Prop where
  up : ∀ x Γ, P Γ → P (x :: Γ)
  go : ∀ i H Γ Δ, i < ds.length → P Γ → Sub F Δ → St X.K H X.dk Γ Δ → J.go i H
  stop : ∀ H Γ Δ, P Γ → Sub F Δ → St X.K H X.dk Γ Δ → J.stop ds.length H
  yld : ∀ i x H H' Γ Δ, i < ds.length → P Γ → Sub F Δ → St X.K H X.dk Γ Δ → J.yld i H x H' → ∃ Δ', Sub Δ Δ' ∧ St X.K H' X.dk Γ Δ' ∧ ∃ d, ds[i]? = some d ∧ Dv Δ' x d
def EvI (X : EC) (A : AE) (Γ : G) (wi : TI) (Q : (G → Prop) → List D → G → Prop) : Prop := ∀ (σ : L2.St) (H : Hp) (Δ : List (V × D)) (R : It → Hp → Prop), Sub X.B Δ → St X.K H X.dk Γ Δ → RelE Δ σ A →
  (∀ J F P ds Γ' H' Δ', Q P ds Γ' → Itd X J F P ds → P Γ' → Sub F Δ' → Sub Δ Δ' → St X.K H' X.dk Γ' Δ' → R J H') → wi σ H R
variable {QI : (G → Prop) → List D → G → Prop} {ds es : List D} {wi : TI}
abbrev Tr : G → Prop := fun _ => True
theorem itd_T {ad : Addr} : Itd X (Itt X.K ad) [(V.ref ad, PyData.tuple ds)] Tr ds where
  up := fun _ _ _ => trivial
  go := fun i H Γ Δ hi _ s hS => walkT.goes i H hi (hS.lenT (s _ (List.mem_cons_self ..)))
  stop := fun H Γ Δ _ s hS => walkT.stops H (hS.lenT (s _ (List.mem_cons_self ..)))
  yld := fun i x H H' Γ Δ hi _ s hS y => by
    obtain ⟨rfl, f⟩ := y
    obtain ⟨dd, e1, hS4⟩ := hS.turnT (s _ (List.mem_cons_self ..)) f
    exact ⟨_, Sub.cons .rfl', hS4, dd, e1, .of (List.mem_cons_self ..)⟩
theorem itd_L {ad : Addr} : Itd X (Itl X.K ad) [(V.ref ad, PyData.list ds)] Tr ds where
  up := fun _ _ _ => trivial
  go := fun i H Γ Δ hi _ s hS => walkL.goes i H hi (hS.lenL (s _ (List.mem_cons_self ..)))
  stop := fun H Γ Δ _ s hS => walkL.stops H (hS.lenL (s _ (List.mem_cons_self ..)))
  yld := fun i x H H' Γ Δ hi _ s hS y => by
    obtain ⟨rfl, f⟩ := y
    obtain ⟨dd, e1, hS4⟩ := hS.turnL (s _ (List.mem_cons_self ..)) f
    exact ⟨_, Sub.cons .rfl', hS4, dd, e1, .of (List.mem_cons_self ..)⟩
theorem itd_M : Itd X (Itl X.K p) [] (fun Γ => Lk Γ p ds) ds where
  up := fun _ _ h => .there h
  go := fun i H Γ Δ hi hk s hS => by
    obtain ⟨vs, h1, h2, _⟩ := hS.lk hk
    exact walkL.goes i H hi ⟨vs, SqL.of h1, h2⟩
  stop := fun H Γ Δ hk s hS => by
    obtain ⟨vs, h1, h2, _⟩ := hS.lk hk
    exact walkL.stops H ⟨vs, SqL.of h1, h2⟩
  yld := fun i x H H' Γ Δ hi hk s hS y => by
    obtain ⟨rfl, f⟩ := y
    obtain ⟨vs, h1, h2, Δ3, s3, hS4, hv⟩ := hS.lk hk
    obtain ⟨dd, e1, e2⟩ := dvs_back hv (f vs (SqL.of h1))
    exact ⟨Δ3, s3, hS4, dd, e1, e2⟩
/-- pairs of a place and an item -/
def enumD (ds : List D) : List D := ds.zipIdx.map fun x => .tuple [.int (x.2 : Int), x.1]
theorem enum_len : (enumD ds).length = ds.length := by unfold enumD; rw [List.length_map, List.length_zipIdx]
theorem enum_at {i : Nat} (h : ds[i]? = some d) : (enumD ds)[i]? = some (.tuple [.int (i : Int), d]) := by
  unfold enumD
  rw [List.getElem?_map, List.getElem?_zipIdx, h]
  simp
theorem itd_ET {ad : Addr} : Itd X (Itet X.K ad) [(V.ref ad, PyData.tuple ds)] Tr (enumD ds) where
  up := fun _ _ _ => trivial
  go := fun i H Γ Δ hi _ s hS => walkET.goes i H (by rw [enum_len] at hi; exact hi) (hS.lenT (s _ (List.mem_cons_self ..)))
  stop := fun H Γ Δ _ s hS => by
    rw [enum_len]
    exact walkET.stops H (hS.lenT (s _ (List.mem_cons_self ..)))
  yld := fun i x H H' Γ Δ hi _ s hS y => by
    obtain ⟨T, x0, rfl, hT, rfl, f⟩ := y
    obtain ⟨dd, e1, hS4⟩ := hS.turnT (s _ (List.mem_cons_self ..)) f
    have hS5 := hS4.tup (vs := [.int (i : Nat), x0]) (ds := [.int (i : Int), dd]) hT (.cons (.int _) (.cons (.of (List.mem_cons_self ..)) .nil))
    exact ⟨_, (Sub.cons .rfl').trans (Sub.cons .rfl'), hS5, _, enum_at e1, .of (List.mem_cons_self ..)⟩
theorem itd_EL {ad : Addr} : Itd X (Ite X.K ad) [(V.ref ad, PyData.list ds)] Tr (enumD ds) where
  up := fun _ _ _ => trivial
  go := fun i H Γ Δ hi _ s hS => walkEL.goes i H (by rw [enum_len] at hi; exact hi) (hS.lenL (s _ (List.mem_cons_self ..)))
  stop := fun H Γ Δ _ s hS => by
    rw [enum_len]
    exact walkEL.stops H (hS.lenL (s _ (List.mem_cons_self ..)))
  yld := fun i x H H' Γ Δ hi _ s hS y => by
    obtain ⟨T, x0, rfl, hT, rfl, f⟩ := y
    obtain ⟨dd, e1, hS4⟩ := hS.turnL (s _ (List.mem_cons_self ..)) f
    have hS5 := hS4.tup (vs := [.int (i : Nat), x0]) (ds := [.int (i : Int), dd]) hT (.cons (.int _) (.cons (.of (List.mem_cons_self ..)) .nil))
    exact ⟨_, (Sub.cons .rfl').trans (Sub.cons .rfl'), hS5, _, enum_at e1, .of (List.mem_cons_self ..)⟩
def rangeD (lo : Int) (n : Nat) : List D := (List.range n).map fun i => .int (lo + (i : Nat))
theorem range_len {lo : Int} {n : Nat} : (rangeD lo n).length = n := by unfold rangeD; rw [List.length_map, List.length_range]
theorem range_at {lo : Int} {n i : Nat} (h : i < n) : (rangeD lo n)[i]? = some (.int (lo + (i : Nat))) := by
  unfold rangeD
  rw [List.getElem?_map, List.getElem?_range h]
  rfl
theorem range_is {lo : Int} {n i : Nat} (h : (rangeD lo n)[i]? = some d) : i < n ∧ d = .int (lo + (i : Nat)) := by
  obtain ⟨hl, _⟩ := List.getElem?_eq_some_iff.mp h
  rw [range_len] at hl
  rw [range_at hl] at h
  exact ⟨hl, (Option.some.inj h).symm⟩
theorem itd_R {lo : Int} {n : Nat} : Itd X (Itr lo n) [] Tr (rangeD lo n) where
  up := fun _ _ _ => trivial
  go := fun i H Γ Δ hi _ s hS => by rw [range_len] at hi; exact hi
  stop := fun H Γ Δ _ s hS => by rw [range_len]; exact Nat.le_refl _
  yld := fun i x H H' Γ Δ hi _ s hS y => by
    obtain ⟨rfl, rfl⟩ := y
    rw [range_len] at hi
    exact ⟨Δ, .rfl', hS, _, range_at hi, .int _⟩
theorem evi_T (h : Ev X A Γ te fun a Γ1 => ∃ ds, a = .dat (.tuple ds) ∧ QI Tr ds Γ1) : EvI X A Γ (iTup X.K te) QI := fun σ H Δ R sb hS hE k =>
  h σ H Δ _ sb hS hE fun a Γ1 v H1 Δ1 q s hS1 ra => by
    obtain ⟨ds, rfl, q⟩ := q
    obtain ⟨ad, rfl⟩ := Dv.isRef hS1 ra trivial
    obtain ⟨us, hT, hul⟩ := (hS1.also ra).lenT (List.mem_cons_self ..)
    exact ⟨ad, rfl, ⟨us, hT⟩, k _ _ _ ds Γ1 H1 _ q itd_T trivial (fun x hx => by rw [List.mem_singleton.mp hx]; exact List.mem_cons_self ..) (s.trans (Sub.cons .rfl')) (hS1.also ra)⟩
theorem evi_L (h : Ev X A Γ te fun a Γ1 => ∃ ds, a = .dat (.list ds) ∧ QI Tr ds Γ1) : EvI X A Γ (iList X.K te) QI := fun σ H Δ R sb hS hE k =>
  h σ H Δ _ sb hS hE fun a Γ1 v H1 Δ1 q s hS1 ra => by
    obtain ⟨ds, rfl, q⟩ := q
    obtain ⟨ad, rfl⟩ := Dv.isRef hS1 ra trivial
    obtain ⟨us, hT, hul⟩ := (hS1.also ra).lenL (List.mem_cons_self ..)
    exact ⟨ad, rfl, ⟨us, hT⟩, k _ _ _ ds Γ1 H1 _ q itd_L trivial (fun x hx => by rw [List.mem_singleton.mp hx]; exact List.mem_cons_self ..) (s.trans (Sub.cons .rfl')) (hS1.also ra)⟩
theorem evi_M (h : Ev X A Γ te fun a Γ1 => ∃ p ds, a = .ref p ∧ Lk Γ1 p ds ∧ QI (fun Γ => Lk Γ p ds) ds Γ1) : EvI X A Γ (iList X.K te) QI := fun σ H Δ R sb hS hE k =>
  h σ H Δ _ sb hS hE fun a Γ1 v H1 Δ1 q s hS1 ra => by
    obtain ⟨p, ds, rfl, hk, q⟩ := q
    obtain rfl := ra
    obtain ⟨vs, h1, h2, _⟩ := hS1.lk hk
    exact ⟨p, rfl, ⟨vs, SqL.of h1⟩, k _ _ _ ds Γ1 H1 _ q itd_M hk sub_nil s hS1⟩
theorem evi_ET (h : EvA X A Γ tr fun as Γ1 => ∃ ds, as = [.dat (.tuple ds)] ∧ QI Tr (enumD ds) Γ1) : EvI X A Γ (iEnumT X.K tr) QI := fun σ H Δ R sb hS hE k =>
  h σ H Δ _ sb hS hE fun as Γ1 vs H1 Δ1 q s hS1 ra => by
    obtain ⟨ds, rfl, q⟩ := q
    obtain ⟨v, rfl, r1⟩ := ra.one
    obtain ⟨ad, rfl⟩ := Dv.isRef hS1 r1 trivial
    obtain ⟨us, hT, hul⟩ := (hS1.also r1).lenT (List.mem_cons_self ..)
    exact ⟨ad, us, rfl, hT, k _ _ _ _ Γ1 H1 _ q itd_ET trivial (fun x hx => by rw [List.mem_singleton.mp hx]; exact List.mem_cons_self ..) (s.trans (Sub.cons .rfl')) (hS1.also r1)⟩
theorem evi_EL (h : EvA X A Γ tr fun as Γ1 => ∃ ds, as = [.dat (.list ds)] ∧ QI Tr (enumD ds) Γ1) : EvI X A Γ (iEnum X.K tr) QI := fun σ H Δ R sb hS hE k =>
  h σ H Δ _ sb hS hE fun as Γ1 vs H1 Δ1 q s hS1 ra => by
    obtain ⟨ds, rfl, q⟩ := q
    obtain ⟨v, rfl, r1⟩ := ra.one
    obtain ⟨ad, rfl⟩ := Dv.isRef hS1 r1 trivial
    obtain ⟨us, hT, hul⟩ := (hS1.also r1).lenL (List.mem_cons_self ..)
    exact ⟨ad, us, rfl, hT, k _ _ _ _ Γ1 H1 _ q itd_EL trivial (fun x hx => by rw [List.mem_singleton.mp hx]; exact List.mem_cons_self ..) (s.trans (Sub.cons .rfl')) (hS1.also r1)⟩
theorem evi_R (h : EvA X A Γ tr fun as Γ1 => ∃ n : Int, as = [dI n] ∧ -(2 ^ 62) ≤ n ∧ n < 2 ^ 62 ∧ QI Tr (rangeD 0 n.toNat) Γ1) : EvI X A Γ (iRng1 tr) QI := fun σ H Δ R sb hS hE k =>
  h σ H Δ _ sb hS hE fun as Γ1 vs H1 Δ1 q s hS1 ra => by
    obtain ⟨n, rfl, n1, n2, q⟩ := q
    obtain ⟨v, rfl, r⟩ := ra.one
    obtain rfl := r.isI hS1
    exact ⟨n, rfl, n1, n2, k _ _ _ _ Γ1 H1 Δ1 q itd_R trivial sub_nil s hS1⟩
theorem evi_R2 (h : EvA X A Γ tr fun as Γ1 => ∃ lo n : Int, as = [dI lo, dI n] ∧ (-(2 ^ 62) ≤ lo ∧ lo < 2 ^ 62 ∧ -(2 ^ 62) ≤ n ∧ n < 2 ^ 62) ∧ QI Tr (rangeD lo (n - lo).toNat) Γ1) : EvI X A Γ (iRng2 tr) QI := fun σ H Δ R sb hS hE k =>
  h σ H Δ _ sb hS hE fun as Γ1 vs H1 Δ1 q s hS1 ra => by
    obtain ⟨lo, n, rfl, n1, q⟩ := q
    obtain ⟨v, w, rfl, r, r2⟩ := ra.two
    obtain rfl := r.isI hS1
    obtain rfl := r2.isI hS1
    exact ⟨lo, n, rfl, n1, k _ _ _ _ Γ1 H1 Δ1 q itd_R trivial sub_nil s hS1⟩
/-- pairs of items of two -/
def zipD (ds es : List D) : List D := (ds.zip es).map fun x => .tuple [x.1, x.2]
theorem zip_len : (zipD ds es).length = min ds.length es.length := by unfold zipD; rw [List.length_map, List.length_zip]
theorem zip_at {i : Nat} {d e : D} (h1 : ds[i]? = some d) (h2 : es[i]? = some e) : (zipD ds es)[i]? = some (.tuple [d, e]) := by
  unfold zipD
  rw [List.getElem?_map, (List.getElem?_zip_eq_some (z := (d, e))).mpr ⟨h1, h2⟩]
  rfl
theorem itd_ZL {a b : Addr} : Itd X (Itz X.K a b) [(V.ref a, PyData.list ds), (V.ref b, PyData.list es)] Tr (zipD ds es) where
  up := fun _ _ _ => trivial
  go := fun i H Γ Δ hi _ s hS => by
    rw [zip_len] at hi
    obtain ⟨xs, h1, h2⟩ := hS.lenL (s _ (List.mem_cons_self ..))
    obtain ⟨ys, h3, h4⟩ := hS.lenL (s _ (List.mem_cons_of_mem _ (List.mem_cons_self ..)))
    exact ⟨xs, ys, xs[i]'(by omega), ys[i]'(by omega), h1, h3, List.getElem?_eq_getElem _, List.getElem?_eq_getElem _⟩
  stop := fun H Γ Δ _ s hS => by
    rw [zip_len]
    obtain ⟨xs, h1, h2⟩ := hS.lenL (s _ (List.mem_cons_self ..))
    obtain ⟨ys, h3, h4⟩ := hS.lenL (s _ (List.mem_cons_of_mem _ (List.mem_cons_self ..)))
    exact ⟨xs, ys, h1, h3, by omega⟩
  yld := fun i x H H' Γ Δ hi _ s hS y => by
    obtain ⟨T, x0, y0, rfl, hT, rfl, f, f2⟩ := y
    obtain ⟨d1, e1, hS4⟩ := hS.turnL (s _ (List.mem_cons_self ..)) f
    obtain ⟨d2, e2, hS5⟩ := hS4.turnL (Sub.cons s _ (List.mem_cons_of_mem _ (List.mem_cons_self ..))) f2
    have hS6 := hS5.tup (vs := [x0, y0]) (ds := [d1, d2]) hT (.cons (.of (List.mem_cons_of_mem _ (List.mem_cons_self ..))) (.cons (.of (List.mem_cons_self ..)) .nil))
    exact ⟨_, (Sub.cons .rfl').trans ((Sub.cons .rfl').trans (Sub.cons .rfl')), hS6, _, zip_at e1 e2, .of (List.mem_cons_self ..)⟩
theorem itd_ZT {a b : Addr} : Itd X (RZ.ItzT X.K a b) [(V.ref a, PyData.tuple ds), (V.ref b, PyData.tuple es)] Tr (zipD ds es) where
  up := fun _ _ _ => trivial
  go := fun i H Γ Δ hi _ s hS => by
    rw [zip_len] at hi
    obtain ⟨xs, h1, h2⟩ := hS.lenT (s _ (List.mem_cons_self ..))
    obtain ⟨ys, h3, h4⟩ := hS.lenT (s _ (List.mem_cons_of_mem _ (List.mem_cons_self ..)))
    exact ⟨xs, ys, xs[i]'(by omega), ys[i]'(by omega), h1, h3, List.getElem?_eq_getElem _, List.getElem?_eq_getElem _⟩
  stop := fun H Γ Δ _ s hS => by
    rw [zip_len]
    obtain ⟨xs, h1, h2⟩ := hS.lenT (s _ (List.mem_cons_self ..))
    obtain ⟨ys, h3, h4⟩ := hS.lenT (s _ (List.mem_cons_of_mem _ (List.mem_cons_self ..)))
    exact ⟨xs, ys, h1, h3, by omega⟩
  yld := fun i x H H' Γ Δ hi _ s hS y => by
    obtain ⟨T, x0, y0, rfl, hT, rfl, f, f2⟩ := y
    obtain ⟨d1, e1, hS4⟩ := hS.turnT (s _ (List.mem_cons_self ..)) f
    obtain ⟨d2, e2, hS5⟩ := hS4.turnT (Sub.cons s _ (List.mem_cons_of_mem _ (List.mem_cons_self ..))) f2
    have hS6 := hS5.tup (vs := [x0, y0]) (ds := [d1, d2]) hT (.cons (.of (List.mem_cons_of_mem _ (List.mem_cons_self ..))) (.cons (.of (List.mem_cons_self ..)) .nil))
    exact ⟨_, (Sub.cons .rfl').trans ((Sub.cons .rfl').trans (Sub.cons .rfl')), hS6, _, zip_at e1 e2, .of (List.mem_cons_self ..)⟩
theorem evi_ZA (h : EvA X A Γ tr fun as Γ1 => ∃ ds es, (as = [.dat (.list ds), .dat (.list es)] ∨ as = [.dat (.tuple ds), .dat (.tuple es)]) ∧ QI Tr (zipD ds es) Γ1) : EvI X A Γ (RZ.iZipA X.K tr) QI := fun σ H Δ R sb hS hE k =>
  h σ H Δ _ sb hS hE fun as Γ1 vs H1 Δ1 q s hS1 ra => by
    obtain ⟨ds, es, q0, q⟩ := q
    rcases q0 with rfl | rfl
    · obtain ⟨v, w, rfl, r1, r2⟩ := ra.two
      obtain ⟨a, rfl⟩ := Dv.isRef hS1 r1 trivial
      obtain ⟨b, rfl⟩ := Dv.isRef hS1 r2 trivial
      have hS2 := (hS1.also r2).also (Dv.sub (Sub.cons .rfl') r1)
      obtain ⟨xs, h1, h2⟩ := hS2.lenL (List.mem_cons_self ..)
      obtain ⟨ys, h3, h4⟩ := hS2.lenL (List.mem_cons_of_mem _ (List.mem_cons_self ..))
      refine ⟨a, b, xs, ys, rfl, Or.inl ⟨h1, h3, k _ _ _ _ Γ1 H1 _ q itd_ZL trivial (fun x hx => ?_) (s.trans ((Sub.cons .rfl').trans (Sub.cons .rfl'))) hS2⟩⟩
      rcases List.mem_cons.mp hx with rfl | hx
      · exact List.mem_cons_self ..
      · rw [List.mem_singleton.mp hx]
        exact List.mem_cons_of_mem _ (List.mem_cons_self ..)
    · obtain ⟨v, w, rfl, r1, r2⟩ := ra.two
      obtain ⟨a, rfl⟩ := Dv.isRef hS1 r1 trivial
      obtain ⟨b, rfl⟩ := Dv.isRef hS1 r2 trivial
      have hS2 := (hS1.also r2).also (Dv.sub (Sub.cons .rfl') r1)
      obtain ⟨xs, h1, h2⟩ := hS2.lenT (List.mem_cons_self ..)
      obtain ⟨ys, h3, h4⟩ := hS2.lenT (List.mem_cons_of_mem _ (List.mem_cons_self ..))
      refine ⟨a, b, xs, ys, rfl, Or.inr ⟨h1, h3, k _ _ _ _ Γ1 H1 _ q itd_ZT trivial (fun x hx => ?_) (s.trans ((Sub.cons .rfl').trans (Sub.cons .rfl'))) hS2⟩⟩
      rcases List.mem_cons.mp hx with rfl | hx
      · exact List.mem_cons_self ..
      · rw [List.mem_singleton.mp hx]
        exact List.mem_cons_of_mem _ (List.mem_cons_self ..)
/-! ### loops and comprehensions over what is walked -/
theorem Itd.walk {J : It} {F : List (V × D)} {P : G → Prop} (h : Itd X J F P ds) : Walk J ds.length (fun H => ∃ Γ Δ, P Γ ∧ Sub F Δ ∧ St X.K H X.dk Γ Δ) (fun i H x H' => J.yld i H x H') :=
  ⟨fun i H hi q => by obtain ⟨Γ, Δ, q1, q2, q3⟩ := q; exact h.go i H Γ Δ hi q1 q2 q3, fun H q => by obtain ⟨Γ, Δ, q1, q2, q3⟩ := q; exact h.stop H Γ Δ q1 q2 q3, fun i H x H' _ _ y => y⟩
variable {t tz tb' : TS} {E : Ends}
theorem do_forI (h : EvI X A Γ wi fun P ds Γ1 => ∃ I : Nat → AE → G → Prop, I 0 A Γ1 ∧ (∀ i A1 Γ2, I i A1 Γ2 → P Γ2) ∧
      (∀ B i d A1 Γ2, Sub X.B B → ds[i]? = some d → I i A1 Γ2 → Tg (X.on B) g (.dat d) A1 Γ2 fun A2 => Do (X.on B) A2 Γ2 tb' (turnE (X.on B) (I (i + 1)) E)) ∧ ∀ A1 Γ2, I ds.length A1 Γ2 → Fin X A1 Γ2 E.nx) : Do X A Γ (tFor wi g tb') E := fun σ H Δ sb hS hE =>
  h σ H Δ _ sb hS hE fun J F P ds Γ1 H1 Δ1 q W _ sF s hS1 => by
    obtain ⟨I, q0, qP, qs, qd⟩ := q
    refine for_it W.walk (fun i => Nx (X.on (F ++ X.B)) (I i)) ⟨A, Γ1, Δ1, q0, fun x hx => ?_, hS1, hE.sub s⟩ (fun i σ H _ hP => ?_) (fun i x σ H H' hi hP hy => ?_) (fun σ H hP => ?_)
    · rcases List.mem_append.mp hx with hx | hx
      · exact sF x hx
      · exact s x (sb x hx)
    · obtain ⟨A1, Γ2, Δ2, hI, sb2, hS3, hE3⟩ := hP
      exact ⟨Γ2, Δ2, qP i A1 Γ2 hI, fun x hx => sb2 x (List.mem_append_left _ hx), hS3⟩
    · obtain ⟨A1, Γ2, Δ2, hI, sb2, hS3, hE3⟩ := hP
      obtain ⟨Δ3, s3, hS4, dd, e1, e2⟩ := W.yld i x H H' Γ2 Δ2 hi (qP i A1 Γ2 hI) (fun x hx => sb2 x (List.mem_append_left _ hx)) hS3 hy
      exact qs _ i dd A1 Γ2 (fun x hx => List.mem_append_right _ hx) e1 hI x σ H' _ _ (sb2.trans s3) hS4 e2 (hE3.sub s3) fun A2 σ2 Δ4 q2 s2 hS5 hE5 => q2 σ2 H' Δ4 (sb2.trans (s3.trans s2)) hS5 hE5
    · obtain ⟨A1, Γ2, Δ2, hI, sb2, hS3, hE3⟩ := hP
      exact qd A1 Γ2 hI σ H Δ2 (fun x hx => sb2 x (List.mem_append_right _ hx)) hS3 hE3
/-- a comprehension: I by the turn and the list so far; the list then stands first -/
theorem ev_lcM (hg : Own X.K vs g) (h : EvI X A Γ wi fun P ds Γ1 => ∃ I : Nat → List D → Prop, ds.length ≤ 10000 ∧ I 0 [] ∧
      (∀ p B i d acc, Sub X.B B → ds[i]? = some d → I i acc → acc.length ≤ i → Tg (X.on B) g (.dat d) (wipeA A vs) ((p, acc) :: Γ1) fun A2 => Turn1 (X.on B) A2 Γ1 tt ta (I (i + 1)) p acc) ∧ ∀ p acc, I ds.length acc → acc.length ≤ ds.length → Q (.ref p) ((p, acc) :: Γ1)) : Ev X A Γ (tLc wi g tt ta vs) Q := fun σ H Δ R sb hS hE k =>
  h σ H Δ _ sb hS hE fun J F P ds Γ1 H1 Δ1 q W hP0 sF s hS1 => fun p hp => by
    obtain ⟨I, hl, q0, qs, qd⟩ := q
    refine lc_it W.walk (fun i H => ∃ acc Δ2, I i acc ∧ acc.length ≤ i ∧ Sub Δ1 Δ2 ∧ St X.K H X.dk ((p, acc) :: Γ1) Δ2) ⟨[], Δ1, q0, Nat.le_refl _, .rfl', hS1.make hp .nil⟩ (fun i H _ hP => ?_) (fun i x H H' hi hP hy => ?_) (fun H hP => ?_)
    · obtain ⟨acc, Δ2, _, _, sb2, hS3⟩ := hP
      exact ⟨_, Δ2, W.up _ _ hP0, sF.trans sb2, hS3⟩
    · obtain ⟨acc, Δ2, hI, hal, sb2, hS3⟩ := hP
      obtain ⟨Δ3, s3, hS4, dd, e1, e2⟩ := W.yld i x H H' _ Δ2 hi (W.up _ _ hP0) (sF.trans sb2) hS3 hy
      have s4 : Sub Δ Δ3 := s.trans (sb2.trans s3)
      refine hg.back ?_
      refine qs p _ i dd acc (sb.trans s4) e1 hI hal x (wipe σ vs) H' _ _ .rfl' hS4 e2 (hE.wipe.sub s4) fun A2 σ2 Δ4 q2 s2 hS5 hE5 => ?_
      exact q2.run (by omega) s2 hS5 hE5 fun acc' H' Δ' hI' hl' s' hS' => ⟨acc', Δ', hI', by omega, sb2.trans (s3.trans (s2.trans s')), hS'⟩
    · obtain ⟨acc, Δ2, hI, hal, sb2, hS3⟩ := hP
      exact k _ _ _ _ _ (qd p acc hI hal) (s.trans sb2) hS3 rfl
/-- the same, as a list that stays -/
theorem ev_lc (hg : Own X.K vs g) (h : EvI X A Γ wi fun P ds Γ1 => ∃ I : Nat → List D → Prop, ds.length ≤ 10000 ∧ I 0 [] ∧
      (∀ p B i d acc, Sub X.B B → ds[i]? = some d → I i acc → acc.length ≤ i → Tg (X.on B) g (.dat d) (wipeA A vs) ((p, acc) :: Γ1) fun A2 => Turn1 (X.on B) A2 Γ1 tt ta (I (i + 1)) p acc) ∧ ∀ acc, I ds.length acc → acc.length ≤ ds.length → Q (.dat (.list acc)) Γ1) : Ev X A Γ (tLc wi g tt ta vs) Q := fun σ H Δ R sb hS hE k =>
  h σ H Δ _ sb hS hE fun J F P ds Γ1 H1 Δ1 q W hP0 sF s hS1 => fun p hp => by
    obtain ⟨I, hl, q0, qs, qd⟩ := q
    refine lc_it W.walk (fun i H => ∃ acc Δ2, I i acc ∧ acc.length ≤ i ∧ Sub Δ1 Δ2 ∧ St X.K H X.dk ((p, acc) :: Γ1) Δ2) ⟨[], Δ1, q0, Nat.le_refl _, .rfl', hS1.make hp .nil⟩ (fun i H _ hP => ?_) (fun i x H H' hi hP hy => ?_) (fun H hP => ?_)
    · obtain ⟨acc, Δ2, _, _, sb2, hS3⟩ := hP
      exact ⟨_, Δ2, W.up _ _ hP0, sF.trans sb2, hS3⟩
    · obtain ⟨acc, Δ2, hI, hal, sb2, hS3⟩ := hP
      obtain ⟨Δ3, s3, hS4, dd, e1, e2⟩ := W.yld i x H H' _ Δ2 hi (W.up _ _ hP0) (sF.trans sb2) hS3 hy
      have s4 : Sub Δ Δ3 := s.trans (sb2.trans s3)
      refine hg.back ?_
      refine qs p _ i dd acc (sb.trans s4) e1 hI hal x (wipe σ vs) H' _ _ .rfl' hS4 e2 (hE.wipe.sub s4) fun A2 σ2 Δ4 q2 s2 hS5 hE5 => ?_
      exact q2.run (by omega) s2 hS5 hE5 fun acc' H' Δ' hI' hl' s' hS' => ⟨acc', Δ', hI', by omega, sb2.trans (s3.trans (s2.trans s')), hS'⟩
    · obtain ⟨acc, Δ2, hI, hal, sb2, hS3⟩ := hP
      exact k _ _ _ _ _ (qd acc hI hal) (s.trans (sb2.trans (Sub.cons .rfl'))) (hS3.freeze) (Dv.of (List.mem_cons_self ..))
/-- [.. for .. in xs if ..], item by item -/
theorem ev_lcF (hg : Own X.K vs g) (h : EvI X A Γ wi fun P ds Γ1 => ∃ (α : Type) (xs : List α) (f : α → D) (F : α → Option D), ds = xs.map f ∧ xs.length ≤ 10000 ∧
      (∀ (p : Addr) (B : List (V × D)) (i : Nat) (x : α) (acc : List D), Sub X.B B → xs[i]? = some x → Tg (X.on B) g (.dat (f x)) (wipeA A vs) ((p, acc) :: Γ1) fun A2 => EvT (X.on B) A2 ((p, acc) :: Γ1) tt fun b Γ2 => Γ2 = (p, acc) :: Γ1 ∧
        (b = true → Ev (X.on B) A2 ((p, acc) :: Γ1) ta fun a Γ3 => Γ3 = (p, acc) :: Γ1 ∧ ∃ e, a = .dat e ∧ F x = some e) ∧ (b = false → F x = none)) ∧ Q (.dat (.list (xs.filterMap F))) Γ1) : Ev X A Γ (tLc wi g tt ta vs) Q := by
  refine ev_lc hg fun σ H Δ R sb hS hE k => h σ H Δ R sb hS hE fun J F0 P ds Γ' H' Δ' q W hP => k J F0 P ds Γ' H' Δ' ?_ W hP
  obtain ⟨α, xs, f, F, rfl, hl, qs, qd⟩ := q
  refine ⟨fun i acc => acc = (xs.take i).filterMap F, by rw [List.length_map]; exact hl, rfl, fun p B i d acc sB hd hI hal => ?_, fun acc hI _ => ?_⟩
  · subst hI
    rw [List.getElem?_map] at hd
    obtain ⟨x, hx, rfl⟩ := Option.map_eq_some_iff.mp hd
    intro y σ H Δ R sb hS ra hE k
    refine qs p B i x _ sB hx y σ H Δ R sb hS ra hE fun A2 σ2 Δ2 q2 s2 => k A2 σ2 Δ2 (evt_weak q2 ?_) s2
    rintro b Γ2 ⟨rfl, q1, q2⟩
    have e1 : (xs.take (i + 1)).filterMap F = (xs.take i).filterMap F ++ (F x).toList := by
      rw [List.take_add_one, hx, List.filterMap_append]
      cases hF : F x with
      | none => simp [hF]
      | some e => simp [hF]
    refine ⟨rfl, fun hb => ev_weak (q1 hb) ?_, fun hb => ?_⟩
    · rintro a Γ3 ⟨rfl, e, rfl, he⟩
      exact ⟨rfl, e, rfl, by show _ = (xs.take (i + 1)).filterMap F; rw [e1, he]; rfl⟩
    · show _ = (xs.take (i + 1)).filterMap F
      rw [e1, q2 hb]
      exact (List.append_nil _).symm
  · rw [List.length_map, List.take_length] at hI
    rw [hI]
    exact qd
theorem ev_lcFM (hg : Own X.K vs g) (h : EvI X A Γ wi fun P ds Γ1 => ∃ (α : Type) (xs : List α) (f : α → D) (F : α → Option D), ds = xs.map f ∧ xs.length ≤ 10000 ∧
      (∀ (p : Addr) (B : List (V × D)) (i : Nat) (x : α) (acc : List D), Sub X.B B → xs[i]? = some x → Tg (X.on B) g (.dat (f x)) (wipeA A vs) ((p, acc) :: Γ1) fun A2 => EvT (X.on B) A2 ((p, acc) :: Γ1) tt fun b Γ2 => Γ2 = (p, acc) :: Γ1 ∧
        (b = true → Ev (X.on B) A2 ((p, acc) :: Γ1) ta fun a Γ3 => Γ3 = (p, acc) :: Γ1 ∧ ∃ e, a = .dat e ∧ F x = some e) ∧ (b = false → F x = none)) ∧ ∀ p, Q (.ref p) ((p, xs.filterMap F) :: Γ1)) : Ev X A Γ (tLc wi g tt ta vs) Q := by
  refine ev_lcM hg fun σ H Δ R sb hS hE k => h σ H Δ R sb hS hE fun J F0 P ds Γ' H' Δ' q W hP => k J F0 P ds Γ' H' Δ' ?_ W hP
  obtain ⟨α, xs, f, F, rfl, hl, qs, qd⟩ := q
  refine ⟨fun i acc => acc = (xs.take i).filterMap F, by rw [List.length_map]; exact hl, rfl, fun p B i d acc sB hd hI hal => ?_, fun p acc hI _ => ?_⟩
  · subst hI
    rw [List.getElem?_map] at hd
    obtain ⟨x, hx, rfl⟩ := Option.map_eq_some_iff.mp hd
    intro y σ H Δ R sb hS ra hE k
    refine qs p B i x _ sB hx y σ H Δ R sb hS ra hE fun A2 σ2 Δ2 q2 s2 => k A2 σ2 Δ2 (evt_weak q2 ?_) s2
    rintro b Γ2 ⟨rfl, q1, q2⟩
    have e1 : (xs.take (i + 1)).filterMap F = (xs.take i).filterMap F ++ (F x).toList := by
      rw [List.take_add_one, hx, List.filterMap_append]
      cases hF : F x with
      | none => simp [hF]
      | some e => simp [hF]
    refine ⟨rfl, fun hb => ev_weak (q1 hb) ?_, fun hb => ?_⟩
    · rintro a Γ3 ⟨rfl, e, rfl, he⟩
      exact ⟨rfl, e, rfl, by show _ = (xs.take (i + 1)).filterMap F; rw [e1, he]; rfl⟩
    · show _ = (xs.take (i + 1)).filterMap F
      rw [e1, q2 hb]
      exact (List.append_nil _).symm
  · rw [List.length_map, List.take_length] at hI
    rw [hI]
    exact qd p
theorem Rem.lk {Γ Γ' : G} {p : Addr} {ds : List D} (h : Rem Γ p ds Γ') : Lk Γ p ds := by
  induction h with
  | here => exact .here
  | there _ ih => exact .there ih
/-- two lists put together; both were for this alone -/
theorem op_catDrop {p q : Addr} {Γ1 Γ2 : G} (h1 : Rem Γ p ds Γ1) (h2 : Rem Γ1 q es Γ2) (hl : ds.length + es.length ≤ 10000) (qq : Q (.dat (.list (ds ++ es))) Γ2) : Op X Γ rCat (.ref p) (.ref q) Q := fun x y H Δ R sb hS r1 r2 k => by
  obtain rfl := r1
  obtain rfl := r2
  have k1 : Lk Γ p ds := h1.lk
  obtain ⟨us, g1, e1, Δ1, s1, hS1, hv⟩ := hS.lk k1
  have hS1' := hS1.drop2 h1
  have k2 : Lk Γ1 q es := h2.lk
  obtain ⟨ws, g2, e2, Δ2, s2, hS2, hw⟩ := hS1'.lk k2
  refine ⟨p, q, us, ws, rfl, rfl, g1, g2, by rw [e1, e2]; exact Nat.le_trans hl (by decide), fun t ht => ?_⟩
  exact k _ _ _ _ _ qq (s1.trans (s2.trans (Sub.cons .rfl'))) ((hS2.drop2 h2).lst ht (dvs_app (hv.sub s2) hw)) (Dv.of (List.mem_cons_self ..))
theorem op_catDropM {p q : Addr} {Γ1 Γ2 : G} (h1 : Rem Γ p ds Γ1) (h2 : Rem Γ1 q es Γ2) (hl : ds.length + es.length ≤ 10000) (qq : ∀ t, Q (.ref t) ((t, ds ++ es) :: Γ2)) : Op X Γ rCat (.ref p) (.ref q) Q := fun x y H Δ R sb hS r1 r2 k => by
  obtain rfl := r1
  obtain rfl := r2
  obtain ⟨us, g1, e1, Δ1, s1, hS1, hv⟩ := hS.lk h1.lk
  have hS1' := hS1.drop2 h1
  obtain ⟨ws, g2, e2, Δ2, s2, hS2, hw⟩ := hS1'.lk h2.lk
  refine ⟨p, q, us, ws, rfl, rfl, g1, g2, by rw [e1, e2]; exact Nat.le_trans hl (by decide), fun t ht => ?_⟩
  exact k _ _ _ _ _ (qq t) (s1.trans s2) ((hS2.drop2 h2).make ht (dvs_app (hv.sub s2) hw)) rfl
theorem do_perm {t : TS} (h : Γ.Perm Γ') (k : Do X A Γ' t E) : Do X A Γ t E := fun σ H Δ sb hS hE => k σ H Δ sb (hS.perm h) hE
theorem fin_perm {N : L2.St → Hp → Prop} (h : Γ.Perm Γ') (k : Fin X A Γ' N) : Fin X A Γ N := fun σ H Δ sb hS hE => k σ H Δ sb (hS.perm h) hE
theorem rot1 {α : Type} {a b : α} {L : List α} : (a :: b :: L).Perm (b :: a :: L) := List.Perm.swap _ _ _
theorem rot2 {α : Type} {a b c : α} {L : List α} : (a :: b :: c :: L).Perm (b :: c :: a :: L) := rot1.trans ((rot1).cons _)
theorem rot3 {α : Type} {a b c d : α} {L : List α} : (a :: b :: c :: d :: L).Perm (b :: c :: d :: a :: L) := rot2.trans ((rot1.cons _).cons _)
/-- found != [], the display being a list of its own -/
theorem op_neNil2 {p q : Addr} (hk : Lk Γ p ds) (h1 : Lay 60 ds) (qq : Q (dB (!ds.isEmpty)) Γ) : Op X ((q, []) :: Γ) (rNeD X.K) (.ref p) (.ref q) Q := fun u v H Δ R sb hS r1 r2 k => by
  obtain rfl := r1
  obtain rfl := r2
  refine ⟨.list ds, .list [], hS.asData (.there hk), hS.asData .here, lay_list h1, lay_list lay_nil, ?_⟩
  rw [eqv_nil]
  exact k _ _ _ _ Δ qq .rfl' hS.drop (Dv.bl _)
theorem op_eqNil2 {p q : Addr} (hk : Lk Γ p ds) (h1 : Lay 60 ds) (qq : Q (dB ds.isEmpty) Γ) : Op X ((q, []) :: Γ) (rEqD X.K) (.ref p) (.ref q) Q := fun u v H Δ R sb hS r1 r2 k => by
  obtain rfl := r1
  obtain rfl := r2
  refine ⟨.list ds, .list [], hS.asData (.there hk), hS.asData .here, lay_list h1, lay_list lay_nil, ?_⟩
  rw [eqv_nil]
  exact k _ _ _ _ Δ qq .rfl' hS.drop (Dv.bl _)
theorem op_neNilD2 {q : Addr} (h1 : Lay 60 ds) (qq : Q (dB (!ds.isEmpty)) Γ) : Op X ((q, []) :: Γ) (rNeD X.K) (.dat (.list ds)) (.ref q) Q := fun u v H Δ R sb hS r1 r2 k => by
  obtain rfl := r2
  refine ⟨.list ds, .list [], hS.dp r1, hS.asData .here, lay_list h1, lay_list lay_nil, ?_⟩
  rw [eqv_nil]
  exact k _ _ _ _ Δ qq .rfl' hS.drop (Dv.bl _)
theorem op_eqNilD2 {q : Addr} (h1 : Lay 60 ds) (qq : Q (dB ds.isEmpty) Γ) : Op X ((q, []) :: Γ) (rEqD X.K) (.dat (.list ds)) (.ref q) Q := fun u v H Δ R sb hS r1 r2 k => by
  obtain rfl := r2
  refine ⟨.list ds, .list [], hS.dp r1, hS.asData .here, lay_list h1, lay_list lay_nil, ?_⟩
  rw [eqv_nil]
  exact k _ _ _ _ Δ qq .rfl' hS.drop (Dv.bl _)
/-- range(lo, hi, c) -/
def rangeDC (lo c : Int) (n : Nat) : List D := (List.range n).map fun i => .int (lo + (i : Nat) * c)
theorem rangeC_len {lo c : Int} {n : Nat} : (rangeDC lo c n).length = n := by unfold rangeDC; rw [List.length_map, List.length_range]
theorem rangeC_at {lo c : Int} {n i : Nat} (h : i < n) : (rangeDC lo c n)[i]? = some (.int (lo + (i : Nat) * c)) := by
  unfold rangeDC
  rw [List.getElem?_map, List.getElem?_range h]
  rfl
theorem rangeC_is {lo c : Int} {n i : Nat} (h : (rangeDC lo c n)[i]? = some d) : i < n ∧ d = .int (lo + (i : Nat) * c) := by
  obtain ⟨hl, _⟩ := List.getElem?_eq_some_iff.mp h
  rw [rangeC_len] at hl
  rw [rangeC_at hl] at h
  exact ⟨hl, (Option.some.inj h).symm⟩
theorem itd_RC {lo c : Int} {n : Nat} : Itd X (Itc lo c n) [] Tr (rangeDC lo c n) where
  up := fun _ _ _ => trivial
  go := fun i H Γ Δ hi _ s hS => by rw [rangeC_len] at hi; exact hi
  stop := fun H Γ Δ _ s hS => by rw [rangeC_len]; exact Nat.le_refl _
  yld := fun i x H H' Γ Δ hi _ s hS y => by
    obtain ⟨rfl, rfl⟩ := y
    rw [rangeC_len] at hi
    exact ⟨Δ, .rfl', hS, _, rangeC_at hi, .int _⟩
theorem evi_R3 (h : EvA X A Γ tr fun as Γ1 => ∃ (lo hi c : Int) (n : Nat), as = [dI lo, dI hi, dI c] ∧ RgC lo hi c n ∧ QI Tr (rangeDC lo c n) Γ1) : EvI X A Γ (iRng3 tr) QI := fun σ H Δ R sb hS hE k =>
  h σ H Δ _ sb hS hE fun as Γ1 vs H1 Δ1 q s hS1 ra => by
    obtain ⟨lo, hi, c, n, rfl, n1, q⟩ := q
    obtain ⟨u, v, w, rfl, r, r2, r3⟩ := ra.three
    obtain rfl := r.isI hS1
    obtain rfl := r2.isI hS1
    obtain rfl := r3.isI hS1
    exact ⟨lo, hi, c, n, rfl, n1, k _ _ _ _ Γ1 H1 Δ1 q itd_RC trivial sub_nil s hS1⟩
theorem cutD_from (xs : List D) (n : Nat) : cutD xs (some (n : Int)) none = xs.drop n := by
  unfold cutD
  rw [HT.sIx_nat, HT.sIx_none]
  by_cases h : n ≤ xs.length
  · rw [Nat.min_eq_left h, List.take_of_length_le (by rw [List.length_drop]; exact Nat.le_refl _)]
  · rw [Nat.min_eq_right (by omega), List.drop_of_length_le (Nat.le_refl _), List.drop_of_length_le (by omega), List.take_nil]
theorem cutD_to (xs : List D) (n : Nat) : cutD xs none (some (n : Int)) = xs.take n := by
  unfold cutD
  rw [HT.sIx_nat, HT.sIx_none, List.drop_zero, Nat.sub_zero]
  by_cases h : n ≤ xs.length
  · rw [Nat.min_eq_left h]
  · rw [Nat.min_eq_right (by omega), List.take_of_length_le (Nat.le_refl _), List.take_of_length_le (by omega)]
/-! ### tests whose value is known -/
section
variable {c e' : TT} {QB : Bool → G → Prop} {u : TS}
theorem evt_orF (h : EvT X A Γ c fun b Γ1 => b = false ∧ EvT X A Γ1 e' QB) : EvT X A Γ (tOr c e') QB := evt_or (evt_weak h fun b Γ1 q => ⟨fun e => (by rw [q.1] at e; cases e), fun _ => q.2⟩)
theorem evt_orT (h : EvT X A Γ c fun b Γ1 => b = true ∧ QB true Γ1) : EvT X A Γ (tOr c e') QB := evt_or (evt_weak h fun b Γ1 q => ⟨fun _ => q.2, fun e => (by rw [q.1] at e; cases e)⟩)
theorem evt_andT (h : EvT X A Γ c fun b Γ1 => b = true ∧ EvT X A Γ1 e' QB) : EvT X A Γ (tAnd c e') QB := evt_and (evt_weak h fun b Γ1 q => ⟨fun _ => q.2, fun e => (by rw [q.1] at e; cases e)⟩)
theorem evt_andF (h : EvT X A Γ c fun b Γ1 => b = false ∧ QB false Γ1) : EvT X A Γ (tAnd c e') QB := evt_and (evt_weak h fun b Γ1 q => ⟨fun e => (by rw [q.1] at e; cases e), fun _ => q.2⟩)
theorem do_ifF (h : EvT X A Γ c fun b Γ1 => b = false ∧ Do X A Γ1 tz E) : Do X A Γ (tSeq (tIfS c t tNext) tz) E := do_ifS (evt_weak h fun b Γ1 q => ⟨fun e => (by rw [q.1] at e; cases e), fun _ => do_next (E := { E with nx := tz E }) (show Fin X A Γ1 (tz E) from q.2)⟩)
theorem do_ifFL (h : EvT X A Γ c fun b Γ1 => b = false ∧ Fin X A Γ1 E.nx) : Do X A Γ (tIfS c t tNext) E := do_if (evt_weak h fun b Γ1 q => ⟨fun e => (by rw [q.1] at e; cases e), fun _ => do_next q.2⟩)
theorem do_ifT (h : EvT X A Γ c fun b Γ1 => b = true ∧ Do X A Γ1 t { E with nx := tz E }) : Do X A Γ (tSeq (tIfS c t u) tz) E := do_ifS (evt_weak h fun b Γ1 q => ⟨fun _ => q.2, fun e => (by rw [q.1] at e; cases e)⟩)
/-- both ways lead to one -/
theorem ev_ifJ {c : TT} (Q' : AV → G → Prop) (h : EvT X A Γ c fun b Γ1 => (b = true → Ev X A Γ1 ta Q') ∧ (b = false → Ev X A Γ1 tb Q')) (k : ∀ a Γ1, Q' a Γ1 → Q a Γ1) : Ev X A Γ (tIf c ta tb) Q := ev_weak (ev_ifE h) k
theorem evt_andJ (Q' : Bool → G → Prop) (h : EvT X A Γ c fun b Γ1 => (b = true → EvT X A Γ1 e' Q') ∧ (b = false → Q' false Γ1)) (k : ∀ b Γ1, Q' b Γ1 → QB b Γ1) : EvT X A Γ (tAnd c e') QB := evt_weak (evt_and h) k
theorem evt_orJ (Q' : Bool → G → Prop) (h : EvT X A Γ c fun b Γ1 => (b = true → Q' true Γ1) ∧ (b = false → EvT X A Γ1 e' Q')) (k : ∀ b Γ1, Q' b Γ1 → QB b Γ1) : EvT X A Γ (tOr c e') QB := evt_weak (evt_or h) k
end
/-- xs[::-1] -/
theorem ev_rev (h : Ev X A Γ te fun a Γ1 => ∃ ds, AsL Γ1 a ds ∧ Q (.dat (.list ds.reverse)) Γ1) : Ev X A Γ (tRevL X.K te) Q := fun σ H Δ R sb hS hE k =>
  h σ H Δ _ sb hS hE fun a Γ1 v H1 Δ1 q s hS1 ra => by
    obtain ⟨ds, hA, q⟩ := q
    obtain ⟨p, vs, rfl, h1, h2, Δ', s2, hS', hv⟩ := hA.dp hS1 ra
    exact ⟨p, vs, rfl, h1, fun t ht => k _ _ _ _ _ q (s.trans (s2.trans (Sub.cons .rfl'))) (hS'.lst ht (dvs_rev hv)) (Dv.of (List.mem_cons_self ..))⟩
theorem op_ip {f : Int → Int → Int} {i j : Int} (q : Q (dI (f i j)) Γ) : Op X Γ (ipI f) (dI i) (dI j) Q := fun x y H Δ R sb hS r1 r2 k => by
  obtain rfl := r1.isI hS
  obtain rfl := r2.isI hS
  exact ⟨i, j, rfl, rfl, k _ _ _ _ Δ q .rfl' hS (Dv.int _)⟩
end
end EE

namespace EE
open PySem PySem.Spec PyProof.Rows L2
/-! ### ladders -/
def IsG (P : Int → Bool) (b m : Int) : Prop := 0 ≤ m ∧ ∀ d : Int, d ∣ m ↔ ∀ x, b < x → P x = true → d ∣ x
theorem isG_uniq {P : Int → Bool} {b m m' : Int} (h : IsG P b m) (h' : IsG P b m') : m = m' :=
  Int.dvd_antisymm h.1 h'.1 ((h'.2 m).mpr ((h.2 m).mp (Int.dvd_refl m))) ((h.2 m').mpr ((h'.2 m').mp (Int.dvd_refl m')))
theorem isG_congr {P P' : Int → Bool} {b m : Int} (e : ∀ x, b < x → P x = P' x) (h : IsG P b m) : IsG P' b m :=
  ⟨h.1, fun d => (h.2 d).trans ⟨fun g x hx hp => g x hx ((e x hx).trans hp), fun g x hx hp => g x hx ((e x hx).symm.trans hp)⟩⟩
theorem isG_down {P : Int → Bool} {b b' m : Int} (h : IsG P b' m) (hb : b ≤ b') (hn : ∀ x, b < x → x ≤ b' → P x = false) : IsG P b m :=
  ⟨h.1, fun d => (h.2 d).trans ⟨fun g x hx hp => (by
    by_cases c : b' < x
    · exact g x c hp
    · rw [hn x hx (by omega)] at hp
      cases hp), fun g x hx hp => g x (by omega) hp⟩⟩
theorem isG_add {P : Int → Bool} {b y m : Int} (h : IsG P y m) (hb : b < y) (hy : P y = true) (hn : ∀ x, b < x → x < y → P x = false) : IsG P b (Int.gcd m y : Nat) :=
  ⟨Int.natCast_nonneg _, fun d => Int.dvd_coe_gcd_iff.trans ⟨fun ⟨g1, g2⟩ x hx hp => (by
    rcases Int.lt_trichotomy x y with c | c | c
    · rw [hn x hx c] at hp
      cases hp
    · rw [c]; exact g2
    · exact (h.2 d).mp g1 x c hp), fun g => ⟨(h.2 d).mpr fun x hx hp => g x (by omega) hp, g y hb hy⟩⟩⟩
theorem isG_step {P : Int → Bool} {b y c : Int} (hc : 0 ≤ c) (h1 : b < y) (h2 : b < y + c) (p1 : P y = true) (p2 : P (y + c) = true) (ha : ∀ x, b < x → P x = true → c ∣ x) : IsG P b c :=
  ⟨hc, fun d => ⟨fun g x hx hp => Int.dvd_trans g (ha x hx hp), fun g => (Int.dvd_add_right (g y h1 p1)).mp (g _ h2 p2)⟩⟩
def valAt (d : Int) : List Rule → Int → Int
  | [], _ => d
  | p :: ps, b => if p.1 ≤ b then valAt p.2 ps b else d
theorem val_lt {d b : Int} : ∀ {L : List Rule}, (∀ p ∈ L, b < p.1) → valAt d L b = d
  | [], _ => rfl
  | p :: ps, h => by
    have := h p (List.mem_cons_self ..)
    show (if p.1 ≤ b then _ else _) = _
    rw [if_neg (by omega)]
def AscR (L : List Rule) : Prop := L.Pairwise fun x y => x.1 < y.1
def Chg : Int → List Rule → Prop
  | _, [] => True
  | d, p :: ps => p.2 ≠ d ∧ Chg p.2 ps
structure IsLad (P : Int → Bool) (L : List Rule) : Prop where
  asc : AscR L
  pos : ∀ p ∈ L, 0 ≤ p.1
  val : ∀ b, 0 ≤ b → IsG P b (valAt 1 L b)
  chg : Chg 1 L
theorem lad_uniq_ : ∀ {L L' : List Rule} {d lo : Int}, AscR L → AscR L' → (∀ p ∈ L, lo ≤ p.1) → (∀ p ∈ L', lo ≤ p.1) → (∀ b, lo ≤ b → valAt d L b = valAt d L' b) → Chg d L → Chg d L' → L = L'
  | [], [], _, _, _, _, _, _, _, _, _ => rfl
  | [], p :: L', d, lo, _, a2, _, l2, v, _, c2 => by
    have e := v p.1 (l2 p (List.mem_cons_self ..))
    have e2 : valAt d (p :: L') p.1 = p.2 := by
      show (if p.1 ≤ p.1 then _ else _) = _
      rw [if_pos (Int.le_refl _), val_lt (List.pairwise_cons.mp a2).1]
    rw [e2] at e
    exact absurd e.symm c2.1
  | p :: L, [], d, lo, a1, _, l1, _, v, c1, _ => by
    have e := v p.1 (l1 p (List.mem_cons_self ..))
    have e2 : valAt d (p :: L) p.1 = p.2 := by
      show (if p.1 ≤ p.1 then _ else _) = _
      rw [if_pos (Int.le_refl _), val_lt (List.pairwise_cons.mp a1).1]
    rw [e2] at e
    exact absurd e c1.1
  | p :: L, p' :: L', d, lo, a1, a2, l1, l2, v, c1, c2 => by
    have e1 : valAt d (p :: L) p.1 = p.2 := by
      show (if p.1 ≤ p.1 then _ else _) = _
      rw [if_pos (Int.le_refl _), val_lt (List.pairwise_cons.mp a1).1]
    have e2 : valAt d (p' :: L') p'.1 = p'.2 := by
      show (if p'.1 ≤ p'.1 then _ else _) = _
      rw [if_pos (Int.le_refl _), val_lt (List.pairwise_cons.mp a2).1]
    have h1 := v p.1 (l1 p (List.mem_cons_self ..))
    have h2 := v p'.1 (l2 p' (List.mem_cons_self ..))
    rcases Int.lt_trichotomy p.1 p'.1 with c | c | c
    · rw [e1] at h1
      have : valAt d (p' :: L') p.1 = d := by
        show (if p'.1 ≤ p.1 then _ else _) = _
        rw [if_neg (by omega)]
      rw [this] at h1
      exact absurd h1 c1.1
    · rw [e1, c, e2] at h1
      have ep : p = p' := Prod.ext c h1
      subst ep
      rw [lad_uniq_ (d := p.2) (lo := p.1) (List.pairwise_cons.mp a1).2 (List.pairwise_cons.mp a2).2 (fun q hq => Int.le_of_lt ((List.pairwise_cons.mp a1).1 q hq)) (fun q hq => Int.le_of_lt ((List.pairwise_cons.mp a2).1 q hq)) (fun b hb => by
        have := v b (Int.le_trans (l1 p (List.mem_cons_self ..)) hb)
        have t1 : valAt d (p :: L) b = valAt p.2 L b := if_pos hb
        have t2 : valAt d (p :: L') b = valAt p.2 L' b := if_pos hb
        rw [t1, t2] at this
        exact this) c1.2 c2.2]
    · rw [e2] at h2
      have : valAt d (p :: L) p'.1 = d := by
        show (if p.1 ≤ p'.1 then _ else _) = _
        rw [if_neg (by omega)]
      rw [this] at h2
      exact absurd h2.symm c2.1
theorem lad_uniq {P : Int → Bool} {L L' : List Rule} (h : IsLad P L) (h' : IsLad P L') : L = L' :=
  lad_uniq_ (lo := 0) h.asc h'.asc h.pos h'.pos (fun b hb => isG_uniq (h.val b hb) (h'.val b hb)) h.chg h'.chg
theorem lad_congr {P P' : Int → Bool} {L : List Rule} (e : ∀ x, 0 ≤ x → P x = P' x) (h : IsLad P L) : IsLad P' L := ⟨h.asc, h.pos, fun b hb => isG_congr (fun x hx => e x (by omega)) (h.val b hb), h.chg⟩
/-! ### the changes of a row of pairs -/
def chgs : Int → List Rule → List Rule
  | _, [] => []
  | d, p :: ps => if p.2 ≠ d then p :: chgs p.2 ps else chgs d ps
def WAsc (L : List Rule) : Prop := L.Pairwise fun x y => x.1 < y.1 ∨ x = y
theorem chgs_chg : ∀ {L : List Rule} {d : Int}, Chg d (chgs d L)
  | [], d => trivial
  | p :: L, d => by
    unfold chgs
    split
    · rename_i h; exact ⟨h, chgs_chg⟩
    · exact chgs_chg
theorem chgs_asc : ∀ {L : List Rule} {d lo : Int}, WAsc L → (∀ q ∈ L, lo < q.1 ∨ q = (lo, d)) → (∀ q ∈ chgs d L, lo < q.1) ∧ AscR (chgs d L)
  | [], d, lo, _, _ => ⟨fun q hq => (nomatch hq), .nil⟩
  | p :: L, d, lo, hw, h => by
    obtain ⟨w1, w2⟩ := List.pairwise_cons.mp hw
    unfold chgs
    split
    · rename_i hd
      have hp : lo < p.1 := by
        rcases h p (List.mem_cons_self ..) with h | h
        · exact h
        · exact absurd (by rw [h]) hd
      obtain ⟨i1, i2⟩ := chgs_asc (L := L) (d := p.2) (lo := p.1) w2 fun q hq => by
        rcases w1 q hq with h | h
        · exact Or.inl h
        · exact Or.inr h.symm
      refine ⟨fun q hq => ?_, List.pairwise_cons.mpr ⟨i1, i2⟩⟩
      rcases List.mem_cons.mp hq with rfl | hq
      · exact hp
      · have := i1 q hq
        omega
    · exact chgs_asc w2 fun q hq => h q (List.mem_cons_of_mem _ hq)
theorem chgs_val : ∀ {L : List Rule} {d b : Int}, WAsc L → valAt d (chgs d L) b = valAt d L b
  | [], d, b, _ => rfl
  | p :: L, d, b, hw => by
    obtain ⟨w1, w2⟩ := List.pairwise_cons.mp hw
    unfold chgs
    split
    · show (if p.1 ≤ b then valAt p.2 (chgs p.2 L) b else d) = (if p.1 ≤ b then valAt p.2 L b else d)
      rw [chgs_val w2]
    · rename_i hd
      have hd' : p.2 = d := Decidable.byContradiction hd
      rw [chgs_val w2]
      show valAt d L b = (if p.1 ≤ b then valAt p.2 L b else d)
      by_cases c : p.1 ≤ b
      · rw [if_pos c, hd']
      · rw [if_neg c]
        refine val_lt fun q hq => ?_
        rcases w1 q hq with h | h
        · omega
        · rw [← h]; omega
theorem chgs_sub : ∀ {L : List Rule} {d : Int}, ∀ q ∈ chgs d L, q ∈ L
  | [], _, q, h => nomatch h
  | p :: L, d, q, h => by
    unfold chgs at h
    split at h
    · rcases List.mem_cons.mp h with rfl | h
      · exact List.mem_cons_self ..
      · exact List.mem_cons_of_mem _ (chgs_sub q h)
    · exact List.mem_cons_of_mem _ (chgs_sub q h)
theorem chgs_len : ∀ {L : List Rule} {d : Int}, (chgs d L).length ≤ L.length
  | [], _ => Nat.le_refl _
  | p :: L, d => by
    unfold chgs
    split
    · exact Nat.succ_le_succ chgs_len
    · exact Nat.le_succ_of_le chgs_len
/-! ### divisors, from the last stretch on -/
def stepR (r : Row) (q : List Rule × Int) : List Rule × Int :=
  match r.2.1 with
  | none => (q.1, (r.2.2 : Int))
  | some high =>
    let f := firstMul r.2.2 r.1
    let l := high / (r.2.2 : Int) * (r.2.2 : Int)
    if f ≤ l then
      if f < l then ((l - r.2.2, (Int.gcd q.2 l : Nat)) :: (l, q.2) :: q.1, (r.2.2 : Int))
      else ((l, q.2) :: q.1, (Int.gcd q.2 l : Nat))
    else q
def divR : List Row → List Rule × Int
  | [] => ([], 0)
  | r :: R => stepR r (divR R)
structure DivOk (P : Int → Bool) (low : Int) (q : List Rule × Int) : Prop where
  val : ∀ b, low - 1 ≤ b → IsG P b (valAt q.2 q.1 b)
  lo : ∀ p ∈ q.1, low ≤ p.1
  asc : AscR q.1
theorem mul_dvd {c : Nat} {x : Int} : mulP c x = true ↔ (c : Int) ∣ x := by
  unfold mulP
  rw [decide_eq_true_eq]
  exact (Int.dvd_iff_emod_eq_zero).symm
theorem step_ok {P : Int → Bool} {low high : Int} {c : Nat} {q : List Rule × Int} (hc : 0 < c) (hlh : low ≤ high + 1) (h : DivOk P (high + 1) q) (h3 : ∀ x, low ≤ x → x ≤ high → P x = mulP c x) (h4 : ∀ x, high < x → P x = true → (c : Int) ∣ x) : DivOk P low (stepR (low, some high, c) q) := by
  obtain ⟨ps, d⟩ := q
  obtain ⟨hv, hl, ha⟩ := h
  have hl' : ∀ p ∈ ps, high + 1 ≤ p.1 := hl
  have vh : ∀ b, high ≤ b → IsG P b (valAt d ps b) := fun b hb => hv b (by omega)
  have gd : IsG P high d := by
    have := vh high (Int.le_refl _)
    rw [val_lt fun p hp => by have := hl' p hp; omega] at this
    exact this
  obtain ⟨f1, f2, f3⟩ := first_mul hc low
  obtain ⟨l1, l2, l3⟩ := last_mul hc high
  have e : stepR (low, some high, c) (ps, d) = (if firstMul c low ≤ high / (c : Int) * c then
      if firstMul c low < high / (c : Int) * c then (((high / (c : Int) * c - c, ((Int.gcd d (high / (c : Int) * c) : Nat) : Int)) :: (high / (c : Int) * c, d) :: ps : List Rule), (c : Int))
      else (((high / (c : Int) * c, d) :: ps : List Rule), ((Int.gcd d (high / (c : Int) * c) : Nat) : Int))
    else (ps, d)) := rfl
  rw [e]
  generalize firstMul c low = f at f1 f2 f3 e
  generalize hll : high / (c : Int) * (c : Int) = l at l1 l2 l3 e
  have noP : ∀ x, low ≤ x → x < f → P x = false := fun x h1 h2 => by
    by_cases g : x ≤ high
    · rw [h3 x h1 g]; exact f3 x h1 h2
    · by_cases px : P x = true
      · exfalso
        have := f3 x h1 h2
        rw [mul_dvd.mpr (h4 x (by omega) px)] at this
        cases this
      · exact Bool.eq_false_iff.mpr px
  have noL : ∀ x, low ≤ x → l < x → x ≤ high → P x = false := fun x h1 h2 h3' => by rw [h3 x h1 h3']; exact l3 x h2 h3'
  by_cases c1 : f ≤ l
  · rw [if_pos c1]
    have pl : P l = true := by rw [h3 l (by omega) l1]; exact l2
    have gl : IsG P l d := isG_down gd (by omega) fun x hx hx2 => noL x (by omega) hx hx2
    have top : ∀ b, l ≤ b → IsG P b (valAt d ps b) := fun b hb => by
      by_cases g : high ≤ b
      · exact vh b g
      · rw [val_lt fun p hp => by have := hl' p hp; omega]
        exact isG_down gd (by omega) fun x hx hx2 => noL x (by omega) (by omega) hx2
    by_cases c2 : f < l
    · rw [if_pos c2]
      obtain ⟨u, hu⟩ := mul_dvd.mp l2
      obtain ⟨w, hw⟩ := mul_dvd.mp f2
      have hc' : (0 : Int) < c := by omega
      have huw : w + 1 ≤ u := by
        rw [hu, hw] at c2
        have := Int.lt_of_mul_lt_mul_left c2 (by omega)
        omega
      have fl : f ≤ l - c := by
        rw [hu, hw, show (c : Int) * u - c = c * (u - 1) by rw [Int.mul_sub, Int.mul_one]]
        exact Int.mul_le_mul_of_nonneg_left (by omega) (by omega)
      have pl2 : P (l - c) = true := by
        rw [h3 _ (by omega) (by omega)]
        exact mul_dvd.mpr (Int.dvd_sub (mul_dvd.mp l2) (Int.dvd_refl _))
      have no2 : ∀ x, l - c < x → x < l → P x = false := fun x x1 x2 => by
        rw [h3 x (by omega) (by omega)]
        refine Bool.eq_false_iff.mpr fun z => ?_
        obtain ⟨v, hv⟩ := mul_dvd.mp z
        rw [hu, hv] at x1 x2
        have y1 := Int.lt_of_mul_lt_mul_left x2 (by omega)
        have : (c : Int) * (u - 1) < c * v := by rw [Int.mul_sub, Int.mul_one]; exact x1
        have y2 := Int.lt_of_mul_lt_mul_left this (by omega)
        omega
      have gl2 : IsG P (l - c) (Int.gcd d l : Nat) := isG_add gl (by omega) pl no2
      refine ⟨fun b hb => ?_, fun p hp => ?_, ?_⟩
      · show IsG P b (if l - (c : Int) ≤ b then (if l ≤ b then valAt d ps b else _) else (c : Int))
        by_cases b1 : l - c ≤ b
        · rw [if_pos b1]
          by_cases b2 : l ≤ b
          · rw [if_pos b2]; exact top b b2
          · rw [if_neg b2]
            exact isG_add gl (by omega) pl fun x x1 x2 => no2 x (by omega) x2
        · rw [if_neg b1]
          refine isG_step (y := l - c) (by omega) (by omega) (by omega) pl2 (by rw [Int.sub_add_cancel]; exact pl) fun x x1 x2 => ?_
          by_cases x3 : x ≤ high
          · rw [h3 x (by omega) x3] at x2
            exact mul_dvd.mp x2
          · exact h4 x (by omega) x2
      · rcases List.mem_cons.mp hp with rfl | hp
        · show low ≤ l - c; omega
        · rcases List.mem_cons.mp hp with rfl | hp
          · show low ≤ l; omega
          · have := hl' p hp; omega
      · refine List.pairwise_cons.mpr ⟨fun p hp => ?_, List.pairwise_cons.mpr ⟨fun p hp => ?_, ha⟩⟩
        · rcases List.mem_cons.mp hp with rfl | hp
          · show l - (c : Int) < l; omega
          · have := hl' p hp
            show l - (c : Int) < p.1
            omega
        · have := hl' p hp
          show l < p.1
          omega
    · rw [if_neg c2]
      have fl : f = l := by omega
      refine ⟨fun b hb => ?_, fun p hp => ?_, ?_⟩
      · show IsG P b (if l ≤ b then valAt d ps b else _)
        by_cases b2 : l ≤ b
        · rw [if_pos b2]; exact top b b2
        · rw [if_neg b2]
          exact isG_add gl (by omega) pl fun x x1 x2 => noP x (by omega) (by omega)
      · rcases List.mem_cons.mp hp with rfl | hp
        · show low ≤ l; omega
        · have := hl' p hp; omega
      · refine List.pairwise_cons.mpr ⟨fun p hp => ?_, ha⟩
        have := hl' p hp
        show l < p.1
        omega
  · rw [if_neg c1]
    refine ⟨fun b hb => ?_, fun p hp => by have := hl' p hp; show low ≤ p.1; omega, ha⟩
    by_cases g : high ≤ b
    · exact vh b g
    · show IsG P b (valAt d ps b)
      rw [val_lt fun p hp => by have := hl' p hp; omega]
      refine isG_down gd (by omega) fun x hx hx2 => ?_
      by_cases g2 : x < f
      · exact noP x (by omega) g2
      · exact noL x (by omega) (by omega) hx2
theorem fitc_dvd {c : Nat} {L : List Rule} {n : Int} (h : FitC c L n = true) : (c : Int) ∣ n := mul_dvd.mp (Bool.and_eq_true_iff.mp h).1
theorem div_rows : ∀ {L : List Rule} {low : Int} {c : Nat}, RowsOk low c L → (∀ r ∈ L, low ≤ r.1 + 1) → DivOk (FitC c L) low (divR (rowsOf low c L))
  | [], low, c, h, _ => by
    have e : divR (rowsOf low c []) = ([], (c : Int)) := rfl
    rw [e]
    refine ⟨fun b hb => ?_, fun p hp => (nomatch hp), .nil⟩
    show IsG _ b (c : Int)
    obtain ⟨f1, f2, f3⟩ := first_mul h.c0 (b + 1)
    have fc : ∀ x, mulP c x = true → FitC c [] x = true := fun x hx => by
      unfold FitC
      rw [hx]
      rfl
    refine isG_step (y := firstMul c (b + 1)) (by omega) (by omega) (by omega) (fc _ f2) (fc _ (mul_dvd.mpr (Int.dvd_add (mul_dvd.mp f2) (Int.dvd_refl _)))) fun x _ hx => fitc_dvd hx
  | r :: L, low, c, h, hlo => by
    have hlow := h.low0
    have hr : low ≤ r.1 + 1 := hlo r (List.mem_cons_self ..)
    have h3 : ∀ x, low ≤ x → x ≤ r.1 → FitC c (r :: L) x = mulP c x := fun x x1 x2 => fitc_low h.asc (by omega) x2
    have h4 : ∀ x, r.1 < x → FitC c (r :: L) x = true → (c : Int) ∣ x := fun x _ hx => fitc_dvd hx
    by_cases hz : r.2 = 0
    · have e : divR (rowsOf low c (r :: L)) = stepR (low, some r.1, c) ([], 0) := by
        show divR ((low, some r.1, c) :: if r.2 = 0 then [] else _) = _
        rw [if_pos hz]
        rfl
      rw [e]
      refine step_ok h.c0 hr ⟨fun b hb => ?_, fun p hp => (nomatch hp), .nil⟩ h3 h4
      show IsG _ b 0
      refine ⟨Int.le_refl _, fun d => ⟨fun _ x hx hp => ?_, fun _ => Int.dvd_zero d⟩⟩
      rw [fitc_stop (by omega) (by omega) hz] at hp
      cases hp
    · have e : divR (rowsOf low c (r :: L)) = stepR (low, some r.1, c) (divR (rowsOf (r.1 + 1) (Nat.lcm c r.2.natAbs) L)) := by
        show divR ((low, some r.1, c) :: if r.2 = 0 then [] else _) = _
        rw [if_neg hz]
        rfl
      rw [e]
      have ht := h.tail hz
      have ih := div_rows ht fun r' hr' => by
        have := (List.pairwise_cons.mp h.asc).1 r' hr'
        omega
      have hp2 := (h.all r (List.mem_cons_self ..)).2
      have go : ∀ x, r.1 < x → FitC (Nat.lcm c r.2.natAbs) L x = FitC c (r :: L) x := fun x hx => (fitc_go (by omega) hx hz (by omega)).symm
      refine step_ok h.c0 hr ⟨fun b hb => isG_congr (fun x hx => go x (by omega)) (ih.val b hb), ih.lo, ih.asc⟩ h3 h4
/-- the pairs that divisors tells, in ascending order -/
def divisorsR (R : List Row) : List Rule := (0, (divR R).2) :: (divR R).1
theorem lad_of {rs rs' : List Rule} (hOk : ScaleOk rs) (hp : rs'.Perm rs) (hs : SortedR rs') : IsLad (fitsAll rs) (chgs 1 (divisorsR (rowsOf 0 1 rs'))) := by
  have hr := rows_ok hOk hp hs
  have D := div_rows hr fun r h => (hr.all r h).1
  have e : ∀ x, FitC 1 rs' x = fitsAll rs x := fun x => (fitc_one x).trans (fits_perm hp x)
  have V : ∀ b, -1 ≤ b → IsG (fitsAll rs) b (valAt (divR (rowsOf 0 1 rs')).2 (divR (rowsOf 0 1 rs')).1 b) := fun b hb => isG_congr (fun x _ => e x) (D.val b (by omega))
  have hlo := D.lo
  have hasc := D.asc
  unfold divisorsR
  generalize divR (rowsOf 0 1 rs') = q at V hlo hasc
  obtain ⟨ps, d⟩ := q
  have eq0 : ∀ p ∈ ps, (0 : Int) < p.1 ∨ (0, d) = p := fun p hp => by
    by_cases c : 0 < p.1
    · exact Or.inl c
    · have p0 : p.1 = 0 := by have := hlo p hp; omega
      refine Or.inr (Prod.ext p0.symm ?_)
      cases ps with
      | nil => cases hp
      | cons q ps =>
        have hq : q = p := by
          rcases List.mem_cons.mp hp with h | h
          · exact h.symm
          · have := (List.pairwise_cons.mp hasc).1 p h
            have := hlo q (List.mem_cons_self ..)
            omega
        subst hq
        have v0 := V 0 (by omega)
        have e0 : valAt d (q :: ps) 0 = q.2 := by
          show (if q.1 ≤ 0 then _ else _) = _
          rw [if_pos (by omega), val_lt fun r hr => by have := (List.pairwise_cons.mp hasc).1 r hr; omega]
        have v1 := V (-1) (by omega)
        have e1 : valAt d (q :: ps) (-1) = d := by
          show (if q.1 ≤ -1 then _ else _) = _
          rw [if_neg (by omega)]
        have v0' : IsG (fitsAll rs) 0 q.2 := e0 ▸ v0
        have v1' : IsG (fitsAll rs) (-1) d := e1 ▸ v1
        have v2 : IsG (fitsAll rs) (-1) q.2 := ⟨v0'.1, fun d' => (v0'.2 d').trans ⟨fun g x hx hp => by
          by_cases x0 : x = 0
          · rw [x0]; exact Int.dvd_zero _
          · exact g x (by omega) hp, fun g x hx hp => g x (by omega) hp⟩⟩
        exact isG_uniq v1' v2
  have hw : WAsc ((0, d) :: ps) := List.pairwise_cons.mpr ⟨eq0, hasc.imp fun h => Or.inl h⟩
  have hc := chgs_asc (d := 1) (lo := -1) hw fun p hp => by
    rcases List.mem_cons.mp hp with rfl | hp
    · exact Or.inl (show (-1 : Int) < 0 by decide)
    · have := hlo p hp
      exact Or.inl (by omega)
  refine ⟨hc.2, fun p hp => by have := hc.1 p hp; omega, fun b hb => ?_, chgs_chg⟩
  rw [chgs_val hw]
  show IsG _ b (if 0 ≤ b then valAt d ps b else 1)
  rw [if_pos hb]
  exact V b (by omega)
/-! ### how great pairs are -/
theorem div_high : ∀ {L : List Rule} {low : Int} {c : Nat} {T : Int}, 0 ≤ T → (∀ r ∈ L, 0 ≤ r.1 ∧ r.1 ≤ T) → 0 < c → (∀ r ∈ L, 0 ≤ r.2) → ∀ p ∈ (divR (rowsOf low c L)).1, p.1 ≤ T
  | [], low, c, T, _, _, _, _, p, hp => by
    have h : p ∈ ([] : List Rule) := hp
    cases h
  | r :: L, low, c, T, hT, h, hc, h2, p, hp => by
    obtain ⟨r1, r2⟩ := h r (List.mem_cons_self ..)
    obtain ⟨l1, l2, l3⟩ := last_mul hc r.1
    have main : ∀ q : List Rule × Int, (∀ p ∈ q.1, p.1 ≤ T) → ∀ p ∈ (stepR (low, some r.1, c) q).1, p.1 ≤ T := fun q hq p hp => by
      have e : stepR (low, some r.1, c) q = (if firstMul c low ≤ r.1 / (c : Int) * c then
        if firstMul c low < r.1 / (c : Int) * c then (((r.1 / (c : Int) * c - c, ((Int.gcd q.2 (r.1 / (c : Int) * c) : Nat) : Int)) :: (r.1 / (c : Int) * c, q.2) :: q.1 : List Rule), (c : Int))
        else (((r.1 / (c : Int) * c, q.2) :: q.1 : List Rule), ((Int.gcd q.2 (r.1 / (c : Int) * c) : Nat) : Int))
        else q) := rfl
      rw [e] at hp
      split at hp
      · split at hp
        · rcases List.mem_cons.mp hp with rfl | hp
          · show r.1 / (c : Int) * c - c ≤ T; omega
          · rcases List.mem_cons.mp hp with rfl | hp
            · show r.1 / (c : Int) * c ≤ T; omega
            · exact hq p hp
        · rcases List.mem_cons.mp hp with rfl | hp
          · show r.1 / (c : Int) * c ≤ T; omega
          · exact hq p hp
      · exact hq p hp
    by_cases hz : r.2 = 0
    · have e : divR (rowsOf low c (r :: L)) = stepR (low, some r.1, c) ([], 0) := by
        show divR ((low, some r.1, c) :: if r.2 = 0 then [] else _) = _
        rw [if_pos hz]
        rfl
      rw [e] at hp
      exact main _ (fun p hp => by simp at hp) p hp
    · have e : divR (rowsOf low c (r :: L)) = stepR (low, some r.1, c) (divR (rowsOf (r.1 + 1) (Nat.lcm c r.2.natAbs) L)) := by
        show divR ((low, some r.1, c) :: if r.2 = 0 then [] else _) = _
        rw [if_neg hz]
        rfl
      rw [e] at hp
      have := h2 r (List.mem_cons_self ..)
      exact main _ (div_high hT (fun r hr => h r (List.mem_cons_of_mem _ hr)) (Nat.lcm_pos hc (by omega)) fun r hr => h2 r (List.mem_cons_of_mem _ hr)) p hp
theorem rows_len : ∀ {L : List Rule} {low : Int} {c : Nat}, (rowsOf low c L).length ≤ L.length + 1
  | [], _, _ => Nat.le_refl _
  | r :: L, low, c => by
    show (if r.2 = 0 then ([] : List Row) else _).length + 1 ≤ L.length + 1 + 1
    split
    · exact Nat.succ_le_succ (Nat.zero_le _)
    · exact Nat.succ_le_succ rows_len
theorem step_len {r : Row} {q : List Rule × Int} : (stepR r q).1.length ≤ q.1.length + 2 := by
  unfold stepR
  split
  · exact Nat.le_add_right _ _
  · dsimp only
    split
    · split
      · exact Nat.le_refl _
      · exact Nat.le_succ _
    · exact Nat.le_add_right _ _
theorem divR_len : ∀ R : List Row, (divR R).1.length ≤ 2 * R.length
  | [] => Nat.le_refl _
  | r :: R => by
    have h1 := divR_len R
    have h2 := step_len (r := r) (q := divR R)
    show (stepR r (divR R)).1.length ≤ 2 * (R.length + 1)
    omega
theorem val_at {L : List Rule} {d : Int} (h : AscR L) : ∀ p ∈ L, valAt d L p.1 = p.2 := by
  induction L generalizing d with
  | nil => intro p hp; cases hp
  | cons q L ih =>
    intro p hp
    obtain ⟨a1, a2⟩ := List.pairwise_cons.mp h
    rcases List.mem_cons.mp hp with rfl | hp
    · show (if p.1 ≤ p.1 then _ else _) = _
      rw [if_pos (Int.le_refl _), val_lt a1]
    · have := a1 p hp
      show (if q.1 ≤ p.1 then _ else _) = _
      rw [if_pos (by omega)]
      exact ih a2 p hp
theorem IsLad.at {P : Int → Bool} {L : List Rule} (h : IsLad P L) {p : Rule} (hp : p ∈ L) : IsG P p.1 p.2 := by
  have := h.val p.1 (h.pos p hp)
  rw [val_at h.asc p hp] at this
  exact this
theorem fits_mult {rs : List Rule} {M x : Int} (hz : ∀ r ∈ rs, r.2 ≠ 0) (hM : ∀ r ∈ rs, r.2 ∣ M) (hx : 0 ≤ x) (hd : M ∣ x) : fitsAll rs x = true := by
  unfold fitsAll
  rw [List.all_eq_true]
  intro r hr
  rw [fit_pos hx, decide_eq_false (hz r hr), decide_eq_true (Int.emod_eq_zero_of_dvd (Int.dvd_trans (hM r hr) hd))]
  exact Bool.or_true _
theorem fits_zero {rs : List Rule} {x : Int} {r : Rule} (hr : r ∈ rs) (hz : r.2 = 0) (h0 : 0 ≤ x) (hx : fitsAll rs x = true) : x ≤ r.1 := by
  have := List.all_eq_true.mp hx r hr
  rw [fit_pos h0, hz] at this
  simpa using this
/-- a greatest common divisor is 0, or at most a bound or what all steps divide -/
theorem isG_small {rs : List Rule} {b m M T : Int} (hb : 0 ≤ b) (hT : ∀ r ∈ rs, r.1 ≤ T) (h1 : 1 ≤ M) (hM : ∀ r ∈ rs, r.2 = 0 ∨ r.2 ∣ M) (h : IsG (fitsAll rs) b m) : m ≤ T ∨ m ≤ M := by
  by_cases hz : ∃ r ∈ rs, r.2 = 0
  · obtain ⟨r, hr, hz⟩ := hz
    by_cases hx : ∃ x, b < x ∧ fitsAll rs x = true
    · obtain ⟨x, x1, x2⟩ := hx
      have d := (h.2 m).mp (Int.dvd_refl m) x x1 x2
      have := Int.le_of_dvd (by omega) d
      have := fits_zero hr hz (by omega) x2
      have := hT r hr
      exact Or.inl (by omega)
    · have := (h.2 0).mpr fun x x1 x2 => absurd ⟨x, x1, x2⟩ hx
      have : m = 0 := Int.zero_dvd.mp this
      exact Or.inr (by omega)
  · have hz' : ∀ r ∈ rs, r.2 ≠ 0 := fun r hr e => hz ⟨r, hr, e⟩
    have hM' : ∀ r ∈ rs, r.2 ∣ M := fun r hr => (hM r hr).resolve_left (hz' r hr)
    have a1 : M * (b + 1) = M * b + M := by rw [Int.mul_add, Int.mul_one]
    have a2 : 1 * b ≤ M * b := Int.mul_le_mul_of_nonneg_right h1 hb
    have y1 := (h.2 m).mp (Int.dvd_refl m) (M * (b + 1)) (by omega) (fits_mult hz' hM' (by omega) (Int.dvd_mul_right _ _))
    have y2 := (h.2 m).mp (Int.dvd_refl m) (M * (b + 1) + M) (by omega) (fits_mult hz' hM' (by omega) (Int.dvd_add (Int.dvd_mul_right _ _) (Int.dvd_refl _)))
    exact Or.inr (Int.le_of_dvd (by omega) ((Int.dvd_add_right y1).mp y2))
/-- what divides goes on -/
theorem isG_dvd {P : Int → Bool} {b b' m m' : Int} (h : IsG P b m) (h' : IsG P b' m') (hb : b ≤ b') : m ∣ m' := (h'.2 m).mpr fun x hx hp => (h.2 m).mp (Int.dvd_refl m) x (by omega) hp
/-- the same integers fit a ladder -/
theorem fits_lad {rs L : List Rule} (hr : ∀ r ∈ rs, 0 ≤ r.1 ∧ (r.2 = 0 ∨ 2 ≤ r.2)) (h : IsLad (fitsAll rs) L) (x : Int) (hx : 0 ≤ x) : fitsAll L x = fitsAll rs x := by
  by_cases hf : fitsAll rs x = true
  · rw [hf]
    unfold fitsAll
    rw [List.all_eq_true]
    intro p hp
    rw [fit_pos hx]
    by_cases c : x ≤ p.1
    · rw [decide_eq_true c]; rfl
    · have g := h.at hp
      have d := (g.2 p.2).mp (Int.dvd_refl _) x (by omega) hf
      have hz : p.2 ≠ 0 := fun z => by
        rw [z] at d
        have := Int.zero_dvd.mp d
        have := h.pos p hp
        omega
      rw [decide_eq_false hz, decide_eq_true (Int.emod_eq_zero_of_dvd d)]
      exact Bool.or_true _
  · have hf' : fitsAll rs x = false := Bool.eq_false_iff.mpr hf
    rw [hf']
    obtain ⟨r, hr1, hr2⟩ : ∃ r ∈ rs, fitR r x = false := by
      refine Decidable.byContradiction fun hn => hf (List.all_eq_true.mpr fun r hr => ?_)
      cases e : fitR r x with
      | true => rfl
      | false => exact absurd ⟨r, hr, e⟩ hn
    obtain ⟨q0, q1⟩ := hr r hr1
    rw [fit_pos hx] at hr2
    obtain ⟨e1, e2⟩ := Bool.or_eq_false_iff.mp hr2
    have e1 : ¬ x ≤ r.1 := of_decide_eq_false e1
    -- all that fit above the bound are multiples of the step
    have hall : ∀ y, r.1 < y → fitsAll rs y = true → r.2 ∣ y := fun y y1 y2 => by
      have := List.all_eq_true.mp y2 r hr1
      rw [fit_pos (by omega), decide_eq_false (by omega : ¬ y ≤ r.1), Bool.false_or] at this
      obtain ⟨_, g2⟩ := Bool.and_eq_true_iff.mp this
      exact Int.dvd_of_emod_eq_zero (of_decide_eq_true g2)
    have g := h.val r.1 q0
    have dv : r.2 ∣ valAt 1 L r.1 := (g.2 r.2).mpr hall
    have n1 : valAt 1 L r.1 ≠ 1 := fun z => by
      rw [z] at dv
      rcases q1 with q1 | q1
      · rw [q1] at dv
        have := Int.zero_dvd.mp dv
        omega
      · have := Int.le_of_dvd (by decide) dv
        omega
    have hp : ∀ {L : List Rule} {d : Int}, valAt d L r.1 ≠ d → ∃ p ∈ L, p.1 ≤ r.1 ∧ p.2 = valAt d L r.1 := fun {L} => by
      induction L with
      | nil => intro d hd; exact absurd rfl hd
      | cons p L ih =>
        intro d hd
        by_cases c : p.1 ≤ r.1
        · have e : valAt d (p :: L) r.1 = valAt p.2 L r.1 := if_pos c
          rw [e] at hd ⊢
          by_cases c2 : valAt p.2 L r.1 = p.2
          · exact ⟨p, List.mem_cons_self .., c, c2.symm⟩
          · obtain ⟨q, hq, h1, h2⟩ := ih c2
            exact ⟨q, List.mem_cons_of_mem _ hq, h1, h2⟩
        · exact absurd (if_neg c) hd
    obtain ⟨p, hp, p1, p2⟩ := hp n1
    refine Bool.eq_false_iff.mpr fun z => ?_
    have := List.all_eq_true.mp z p hp
    rw [fit_pos hx, decide_eq_false (by omega : ¬ x ≤ p.1), Bool.false_or] at this
    obtain ⟨z1, z2⟩ := Bool.and_eq_true_iff.mp this
    have dx : p.2 ∣ x := Int.dvd_of_emod_eq_zero (of_decide_eq_true z2)
    have rx : r.2 ∣ x := Int.dvd_trans (p2 ▸ dv) dx
    have z1' : p.2 ≠ 0 := fun e => by rw [e] at z1; cases z1
    have rz : r.2 ≠ 0 := fun e => by
      rw [e] at dv
      exact z1' (p2.trans (Int.zero_dvd.mp dv))
    rw [decide_eq_false rz, decide_eq_true (Int.emod_eq_zero_of_dvd rx)] at e2
    cases e2
/-- neighbours -/
theorem chg_step : ∀ {L : List Rule} {d : Int} {i : Nat} {p q : Rule}, Chg d L → L[i]? = some p → L[i + 1]? = some q → q.2 ≠ p.2
  | p :: q :: L, d, 0, _, _, h, e1, e2 => by
    cases Option.some.inj (show some p = some _ from e1)
    cases Option.some.inj (show some q = some _ from e2)
    exact h.2.1
  | p :: L, d, i + 1, _, _, h, e1, e2 => chg_step (L := L) (i := i) h.2 (by simpa using e1) (by simpa using e2)
theorem lad_next {P : Int → Bool} {L : List Rule} (h : IsLad P L) {i : Nat} {p q : Rule} (e1 : L[i]? = some p) (e2 : L[i + 1]? = some q) : p.1 < q.1 ∧ p.2 ∣ q.2 ∧ p.2 ≠ 0 ∧ 0 ≤ q.2 := by
  obtain ⟨l1, f1⟩ := List.getElem?_eq_some_iff.mp e1
  obtain ⟨l2, f2⟩ := List.getElem?_eq_some_iff.mp e2
  have lt : p.1 < q.1 := by
    have := (List.pairwise_iff_getElem.mp h.asc) i (i + 1) l1 l2 (Nat.lt_succ_self i)
    rw [f1, f2] at this
    exact this
  have hp : p ∈ L := f1 ▸ List.getElem_mem l1
  have hq : q ∈ L := f2 ▸ List.getElem_mem l2
  have dv := isG_dvd (h.at hp) (h.at hq) (by omega)
  refine ⟨lt, dv, fun z => ?_, (h.at hq).1⟩
  rw [z] at dv
  exact chg_step h.chg e1 e2 ((Int.zero_dvd.mp dv).trans z.symm)
/-- no pair has the step 1 -/
theorem lad_two {P : Int → Bool} {L : List Rule} (h : IsLad P L) : ∀ p ∈ L, p.2 = 0 ∨ 2 ≤ p.2 := by
  have main : ∀ {L : List Rule} {d lo : Int}, Chg d L → AscR L → (∀ p ∈ L, IsG P p.1 p.2) → 0 ≤ d → (∀ p ∈ L, d ∣ p.2) → ∀ p ∈ L, p.2 = 0 ∨ 2 ≤ p.2 := fun {L} => by
    induction L with
    | nil => intro d lo _ _ _ _ _ p hp; cases hp
    | cons q L ih =>
      intro d lo hc ha hg hd hdv p hp
      obtain ⟨a1, a2⟩ := List.pairwise_cons.mp ha
      have gq := hg q (List.mem_cons_self ..)
      have q1 : q.2 ≠ 1 := fun z => by
        have := hdv q (List.mem_cons_self ..)
        rw [z] at this
        have d1 : d = 1 := by
          have t1 := Int.le_of_dvd (by decide) this
          have t2 : d ≠ 0 := fun e => by
            rw [e] at this
            have := Int.zero_dvd.mp this
            omega
          omega
        exact hc.1 (z.trans d1.symm)
      rcases List.mem_cons.mp hp with rfl | hp
      · have := gq.1
        omega
      · exact ih (d := q.2) (lo := 0) hc.2 a2 (fun p hp => hg p (List.mem_cons_of_mem _ hp)) gq.1 (fun p hp => isG_dvd gq (hg p (List.mem_cons_of_mem _ hp)) (Int.le_of_lt (a1 p hp))) p hp
  exact main (lo := 0) h.chg h.asc (fun p hp => h.at hp) (by decide) fun p _ => Int.one_dvd _
theorem divR_rows : ∀ {L : List Rule} {low : Int} {c : Nat}, (divR (rowsOf low c L)).1.length ≤ 2 * L.length
  | [], _, _ => Nat.le_refl _
  | r :: L, low, c => by
    by_cases hz : r.2 = 0
    · have e : divR (rowsOf low c (r :: L)) = stepR (low, some r.1, c) ([], 0) := by
        show divR ((low, some r.1, c) :: if r.2 = 0 then [] else _) = _
        rw [if_pos hz]
        rfl
      rw [e]
      have := step_len (r := (low, some r.1, c)) (q := (([], 0) : List Rule × Int))
      have h0 : (([], 0) : List Rule × Int).1.length = 0 := rfl
      rw [List.length_cons]
      omega
    · have e : divR (rowsOf low c (r :: L)) = stepR (low, some r.1, c) (divR (rowsOf (r.1 + 1) (Nat.lcm c r.2.natAbs) L)) := by
        show divR ((low, some r.1, c) :: if r.2 = 0 then [] else _) = _
        rw [if_neg hz]
        rfl
      rw [e]
      have := step_len (r := (low, some r.1, c)) (q := divR (rowsOf (r.1 + 1) (Nat.lcm c r.2.natAbs) L))
      have := divR_rows (L := L) (low := r.1 + 1) (c := Nat.lcm c r.2.natAbs)
      rw [List.length_cons]
      omega
/-- a chain of divisors: all that are not 0 divide one of them -/
theorem chain_top {L : List Rule} {B : Int} (hB : 1 ≤ B) (h : L.Pairwise fun x y => x.2 ∣ y.2) (hp : ∀ p ∈ L, 0 ≤ p.2 ∧ p.2 ≤ B) : ∃ T : Int, 1 ≤ T ∧ T ≤ B ∧ ∀ p ∈ L, p.2 = 0 ∨ p.2 ∣ T := by
  induction L with
  | nil => exact ⟨1, Int.le_refl _, hB, fun p hp => nomatch hp⟩
  | cons q L ih =>
    obtain ⟨a1, a2⟩ := List.pairwise_cons.mp h
    obtain ⟨T, t1, t2, t3⟩ := ih a2 fun p h => hp p (List.mem_cons_of_mem _ h)
    obtain ⟨q1, q2⟩ := hp q (List.mem_cons_self ..)
    by_cases hz : ∃ p ∈ L, p.2 ≠ 0
    · obtain ⟨p, hpL, hp0⟩ := hz
      refine ⟨T, t1, t2, fun r hr => ?_⟩
      rcases List.mem_cons.mp hr with rfl | hr
      · exact Or.inr (Int.dvd_trans (a1 p hpL) ((t3 p hpL).resolve_left hp0))
      · exact t3 r hr
    · have all0 : ∀ p ∈ L, p.2 = 0 := fun p h => Decidable.byContradiction fun e => hz ⟨p, h, e⟩
      by_cases q0 : q.2 = 0
      · refine ⟨1, Int.le_refl _, hB, fun r hr => ?_⟩
        rcases List.mem_cons.mp hr with rfl | hr
        · exact Or.inl q0
        · exact Or.inl (all0 r hr)
      · refine ⟨q.2, by omega, q2, fun r hr => ?_⟩
        rcases List.mem_cons.mp hr with rfl | hr
        · exact Or.inr (Int.dvd_refl _)
        · exact Or.inl (all0 r hr)
theorem lad_chain {P : Int → Bool} {L : List Rule} (h : IsLad P L) : L.Pairwise fun x y => x.2 ∣ y.2 := by
  refine (List.Pairwise.and_mem.mp h.asc).imp fun {x y} ⟨hx, hy, g⟩ => isG_dvd (h.at hx) (h.at hy) (Int.le_of_lt g)
end EE

namespace EE
open PySem PySem.Spec PyProof.Rows L2
/-! ### older promises as steps -/
section
variable {X : EC} {A : AE} {Γ : G} {Q : AV → G → Prop} {tr : TA} {E : XK}
theorem ev_draw (h : EvA X A Γ tr fun as Γ1 => ∃ d l m, as = [.ref d, dI m] ∧ X.dk = some (d, l) ∧ 1 ≤ m ∧ m.natAbs < 2 ^ 8000 ∧ ∀ r, 0 ≤ r → r < m → Q (dI r) Γ1) : Ev X A Γ (tCall (sp_law_draw X.K) [] E tr) Q := fun σ H Δ R sb hS hE k =>
  h σ H Δ _ sb hS hE fun as Γ1 vs H1 Δ1 q s hS1 ra => by
    obtain ⟨d, l, m, rfl, hd, h1, hm, q⟩ := q
    obtain ⟨x, y, rfl, r1, r2⟩ := ra.two
    obtain rfl := r1
    obtain rfl := r2.isI hS1
    rw [hd] at hS1 k
    exact ⟨d, l, m, Γ1, Δ1, rfl, hS1, h1, hm, fun H' r hS' r0 r1 => k _ _ _ H' Δ1 (q r r0 r1) s hS' (Dv.int _)⟩
theorem ev_pick (h : EvA X A Γ tr fun as Γ1 => ∃ d l ds, as = [.ref d, .dat (.list ds)] ∧ X.dk = some (d, l) ∧ ds ≠ [] ∧ ds.length ≤ 10000 ∧ ∀ x ∈ ds, Q (.dat x) Γ1) : Ev X A Γ (tCall (sp_law_pick X.K) [] E tr) Q := fun σ H Δ R sb hS hE k =>
  h σ H Δ _ sb hS hE fun as Γ1 vs H1 Δ1 q s hS1 ra => by
    obtain ⟨d, l, ds, rfl, hd, hne, hl, q⟩ := q
    obtain ⟨x, y, rfl, r1, r2⟩ := ra.two
    obtain rfl := r1
    obtain ⟨a, rfl⟩ := Dv.isRef hS1 r2 trivial
    have hS2 := hS1.also r2
    rw [hd] at hS2 k
    exact ⟨d, l, a, ds, Γ1, _, rfl, hS2, List.mem_cons_self .., hne, hl, fun H' v x hx hS' => k _ _ _ H' _ (q x hx) (s.trans ((Sub.cons .rfl').trans (Sub.cons .rfl'))) hS' (Dv.of (List.mem_cons_self ..))⟩
end
/-! ### shared promises -/
def spstretches (K : PySem.W.Frag) : Sp := fun vs H Q _ => ∃ (dk : Dk) (Γ : List (Addr × List D)) (Δ : List (V × D)) (a : Addr) (rs : List Rule), vs = [.ref a] ∧ St K H dk Γ Δ ∧ (V.ref a, scaleD rs) ∈ Δ ∧ ScaleOk rs ∧
  ∀ H' p rs', rs'.Perm rs → SortedR rs' → St K H' dk ((p, (rowsOf 0 1 rs').map rowD) :: Γ) Δ → Q (.ref p) H'
def spfirst_multiple (K : PySem.W.Frag) : Sp := fun vs H Q _ => ∃ (c : Nat) (l : Int), vs = [.int (c : Int), .int l] ∧ 0 < c ∧ c < 2 ^ 8001 ∧ l.natAbs < 2 ^ 9000 ∧ Q (.int (firstMul c l)) H
def spdivisors (K : PySem.W.Frag) : Sp := SpA K fun _ Γ as k => ∃ rs, as = [.dat (scaleD rs)] ∧ ScaleOk rs ∧ ∀ rs', rs'.Perm rs → SortedR rs' → k (.dat (.list ((divisorsR (rowsOf 0 1 rs')).map ruleD))) Γ
def spladder (K : PySem.W.Frag) : Sp := SpA K fun _ Γ as k => ∃ rs, as = [.dat (scaleD rs)] ∧ ScaleOk rs ∧ ∀ L, IsLad (fitsAll rs) L → L.length ≤ 2 * rs.length + 1 → (∀ T, 0 ≤ T → (∀ r ∈ rs, r.1 ≤ T) → ∀ p ∈ L, p.1 ≤ T) → k (.dat (scaleD L)) Γ
def SmallOk (top : Int) (rs : List Rule) : Prop := rs.length ≤ 40 ∧ ∃ M : Int, 1 ≤ M ∧ M ≤ 100 ∧ ∀ r ∈ rs, 0 ≤ r.1 ∧ r.1 ≤ top ∧ (r.2 = 0 ∨ (2 ≤ r.2 ∧ r.2 ∣ M))
def sp_law_small (K : PySem.W.Frag) : Sp := fun vs H Q _ => ∃ (d l : Addr) (m t : Int) (Γ : List (Addr × List D)) (Δ : List (V × D)), vs = [.ref d, .int m, .int t] ∧ St K H (some (d, l)) Γ Δ ∧ 0 ≤ m ∧ m ≤ 40 ∧ 0 ≤ t ∧ t ≤ 1000 ∧
  ∀ H' v rs, SmallOk t rs → St K H' (some (d, l)) Γ ((v, scaleD rs) :: Δ) → Q v H'
section
variable {X : EC} {A : AE} {Γ : G} {Q : AV → G → Prop} {tr : TA} {E : XK}
theorem ev_stretches (h : EvA X A Γ tr fun as Γ1 => ∃ rs, as = [.dat (scaleD rs)] ∧ ScaleOk rs ∧ ∀ p rs', rs'.Perm rs → SortedR rs' → Q (.ref p) ((p, (rowsOf 0 1 rs').map rowD) :: Γ1)) : Ev X A Γ (tCall (spstretches X.K) [] E tr) Q := fun σ H Δ R sb hS hE k =>
  h σ H Δ _ sb hS hE fun as Γ1 vs H1 Δ1 q s hS1 ra => by
    obtain ⟨rs, rfl, hOk, q⟩ := q
    obtain ⟨x, rfl, r1⟩ := ra.one
    obtain ⟨a, rfl⟩ := Dv.isRef hS1 r1 trivial
    exact ⟨X.dk, Γ1, _, a, rs, rfl, hS1.also r1, List.mem_cons_self .., hOk, fun H' p rs' h1 h2 hS' => k _ _ _ H' _ (q p rs' h1 h2) (s.trans (Sub.cons .rfl')) hS' rfl⟩
theorem ev_first (h : EvA X A Γ tr fun as Γ1 => ∃ (c : Nat) (l : Int), as = [dI (c : Int), dI l] ∧ 0 < c ∧ c < 2 ^ 8001 ∧ l.natAbs < 2 ^ 9000 ∧ Q (dI (firstMul c l)) Γ1) : Ev X A Γ (tCall (spfirst_multiple X.K) [] E tr) Q := fun σ H Δ R sb hS hE k =>
  h σ H Δ _ sb hS hE fun as Γ1 vs H1 Δ1 q s hS1 ra => by
    obtain ⟨c, l, rfl, h1, h2, h3, q⟩ := q
    obtain ⟨x, y, rfl, r1, r2⟩ := ra.two
    obtain rfl := r1.isI hS1
    obtain rfl := r2.isI hS1
    exact ⟨c, l, rfl, h1, h2, h3, k _ _ _ _ Δ1 q s hS1 (Dv.int _)⟩
theorem ev_lfits (h : EvA X A Γ tr fun as Γ1 => ∃ rs n, as = [.dat (scaleD rs), dI n] ∧ (∀ r ∈ rs, 0 ≤ r.2) ∧ Q (dB (fitsAll rs n)) Γ1) : Ev X A Γ (tCall (sp_law_fits X.K) [] E tr) Q := fun σ H Δ R sb hS hE k =>
  h σ H Δ _ sb hS hE fun as Γ1 vs H1 Δ1 q s hS1 ra => by
    obtain ⟨rs, n, rfl, h1, q⟩ := q
    obtain ⟨x, y, rfl, r1, r2⟩ := ra.two
    obtain ⟨a, rfl⟩ := Dv.isRef hS1 r1 trivial
    obtain rfl := r2.isI hS1
    exact ⟨X.dk, Γ1, _, a, rs, n, rfl, hS1.also r1, List.mem_cons_self .., h1, fun H' hS' => k _ _ _ H' _ q (s.trans (Sub.cons .rfl')) hS' (Dv.bl _)⟩
theorem ev_ldiv (h : EvA X A Γ tr fun as Γ1 => ∃ x y, as = [dI x, dI y] ∧ 0 ≤ x ∧ 0 ≤ y ∧ Q (dI ((Int.gcd x y : Nat) : Int)) Γ1) : Ev X A Γ (tCall (sp_law_divisor X.K) [] E tr) Q := fun σ H Δ R sb hS hE k =>
  h σ H Δ _ sb hS hE fun as Γ1 vs H1 Δ1 q s hS1 ra => by
    obtain ⟨x, y, rfl, h1, h2, q⟩ := q
    obtain ⟨x, y, rfl, r1, r2⟩ := ra.two
    obtain rfl := r1.isI hS1
    obtain rfl := r2.isI hS1
    exact ⟨_, _, rfl, h1, h2, k _ _ _ _ Δ1 q s hS1 (Dv.int _)⟩
theorem ev_lmul (h : EvA X A Γ tr fun as Γ1 => ∃ ns : List Int, as = [.dat (.list (ns.map PyData.int))] ∧ (∀ x ∈ ns, 0 ≤ x ∧ x ≤ 10 ^ 60) ∧ ns.length ≤ 40 ∧ Q (dI (lcmI 1 ns : Nat)) Γ1) : Ev X A Γ (tCall (sp_law_multiple X.K) [] E tr) Q := fun σ H Δ R sb hS hE k =>
  h σ H Δ _ sb hS hE fun as Γ1 vs H1 Δ1 q s hS1 ra => by
    obtain ⟨ns, rfl, h1, h2, q⟩ := q
    obtain ⟨x, rfl, r1⟩ := ra.one
    obtain ⟨a, rfl⟩ := Dv.isRef hS1 r1 trivial
    exact ⟨X.dk, Γ1, _, a, ns, rfl, hS1.also r1, List.mem_cons_self .., h1, h2, fun H' hS' => k _ _ _ H' _ q (s.trans (Sub.cons .rfl')) hS' (Dv.int _)⟩
theorem ev_lsmall (h : EvA X A Γ tr fun as Γ1 => ∃ d l m t, as = [.ref d, dI m, dI t] ∧ X.dk = some (d, l) ∧ 0 ≤ m ∧ m ≤ 40 ∧ 0 ≤ t ∧ t ≤ 1000 ∧ ∀ rs, SmallOk t rs → Q (.dat (scaleD rs)) Γ1) : Ev X A Γ (tCall (sp_law_small X.K) [] E tr) Q := fun σ H Δ R sb hS hE k =>
  h σ H Δ _ sb hS hE fun as Γ1 vs H1 Δ1 q s hS1 ra => by
    obtain ⟨d, l, m, t, rfl, hd, h1, h2, h3, h4, q⟩ := q
    obtain ⟨x, y, z, rfl, r1, r2, r3⟩ := ra.three
    obtain rfl := r1
    obtain rfl := r2.isI hS1
    obtain rfl := r3.isI hS1
    rw [hd] at hS1 k
    exact ⟨d, l, m, t, Γ1, Δ1, rfl, hS1, h1, h2, h3, h4, fun H' v rs hrs hS' => k _ _ _ H' _ (q rs hrs) (s.trans (Sub.cons .rfl')) hS' (Dv.of (List.mem_cons_self ..))⟩
end
theorem lcmI_pos : ∀ {xs : List Int} {c : Nat}, 0 < lcmI c xs ↔ 0 < c ∧ ∀ x ∈ xs, x ≠ 0
  | [], c => ⟨fun h => ⟨h, fun x hx => nomatch hx⟩, fun h => h.1⟩
  | x :: xs, c => by
    show 0 < lcmI (Nat.lcm c x.natAbs) xs ↔ _
    rw [lcmI_pos]
    constructor
    · rintro ⟨h1, h2⟩
      have hc : 0 < c := Nat.pos_of_ne_zero fun z => by
        rw [z, Nat.lcm_zero_left] at h1
        omega
      have hx : x ≠ 0 := fun z => by
        rw [z, show (0 : Int).natAbs = 0 from rfl, Nat.lcm_zero_right] at h1
        omega
      refine ⟨hc, fun y hy => ?_⟩
      rcases List.mem_cons.mp hy with rfl | hy
      · exact hx
      · exact h2 y hy
    · rintro ⟨h1, h2⟩
      exact ⟨Nat.lcm_pos h1 (Int.natAbs_pos.mpr (h2 x (List.mem_cons_self ..))), fun y hy => h2 y (List.mem_cons_of_mem _ hy)⟩
theorem lcmI_mul {n : Int} : ∀ {xs : List Int} {c : Nat}, mulP (lcmI c xs) n = (mulP c n && xs.all fun x => mulP x.natAbs n)
  | [], c => (Bool.and_true _).symm
  | x :: xs, c => by
    show mulP (lcmI (Nat.lcm c x.natAbs) xs) n = (mulP c n && (mulP x.natAbs n && xs.all fun x => mulP x.natAbs n))
    rw [lcmI_mul, lcm_mul, Bool.and_assoc]
theorem lcmI_lt : ∀ {xs : List Int} {c i : Nat}, (∀ x ∈ xs, 0 ≤ x ∧ x ≤ 10 ^ 60) → c < 2 ^ (200 * i + 1) → lcmI c xs < 2 ^ (200 * (i + xs.length) + 1)
  | [], c, i, _, h => h
  | x :: xs, c, i, hx, h => by
    obtain ⟨x1, x2⟩ := hx x (List.mem_cons_self ..)
    have g := lcmI_lt (xs := xs) (i := i + 1) (fun y hy => hx y (List.mem_cons_of_mem _ hy)) (lcm_step h x1 x2).2.2
    rw [show i + (x :: xs).length = i + 1 + xs.length by rw [List.length_cons]; omega]
    exact g
theorem scale_of {rs : List Rule} (hs : SmallOk 400 rs) : ScaleOk rs := by
  obtain ⟨hl, M, M1, M2, hr⟩ := hs
  refine ⟨hl, fun r h => ?_⟩
  obtain ⟨r1, r2, r3⟩ := hr r h
  have e : (400 : Int) ≤ 10 ^ 60 := by decide
  have e2 : (100 : Int) ≤ 10 ^ 60 := by decide
  refine ⟨r1, by omega, ?_, ?_⟩
  · omega
  · rcases r3 with h | ⟨_, h⟩
    · omega
    · have := Int.le_of_dvd (by omega) h
      omega
theorem small_mono {t : Int} {rs : List Rule} (ht : t ≤ 400) (h : SmallOk t rs) : SmallOk 400 rs := by
  obtain ⟨hl, M, M1, M2, hr⟩ := h
  refine ⟨hl, M, M1, M2, fun r h => ?_⟩
  obtain ⟨r1, r2, r3⟩ := hr r h
  exact ⟨r1, by omega, r3⟩
theorem sm_scale {rs : List Rule} (h : ScaleOk rs) : Sm 50000 2 (scaleD rs) := by
  have e1 : (10 : Int) ^ 60 < 10 ^ 570 := by decide +kernel
  refine (sm_tuple (n := 1147) (k := 1) (ds := rs.map ruleD) fun d hd => ?_).mono ?_ (Nat.le_refl _)
  · obtain ⟨r, hr, rfl⟩ := List.mem_map.mp hd
    obtain ⟨g1, g2, g3, g4⟩ := h.2 r hr
    refine sm_tuple (n := 570) (k := 0) (ds := [.int r.1, .int r.2]) fun d hd => ?_
    simp only [List.mem_cons, List.not_mem_nil, or_false] at hd
    rcases hd with rfl | rfl
    · exact sm_int g1 (Int.lt_of_le_of_lt g2 e1)
    · exact sm_int g3 (Int.lt_of_le_of_lt g4 e1)
  · rw [List.length_map]
    have := h.1
    omega
theorem lcmI_dvd {M : Nat} : ∀ {xs : List Int} {c : Nat}, c ∣ M → (∀ x ∈ xs, x.natAbs ∣ M) → lcmI c xs ∣ M
  | [], c, h, _ => h
  | x :: xs, c, h, hx => lcmI_dvd (xs := xs) (Nat.lcm_dvd h (hx x (List.mem_cons_self ..))) fun y hy => hx y (List.mem_cons_of_mem _ hy)
theorem lcmI_le {xs : List Int} {M : Int} (h1 : 1 ≤ M) (hx : ∀ x ∈ xs, x = 0 ∨ x ∣ M) : ((lcmI 1 xs : Nat) : Int) ≤ M := by
  by_cases hz : ∀ x ∈ xs, x ≠ 0
  · have := lcmI_dvd (M := M.natAbs) (c := 1) (Nat.one_dvd _) fun x h => Int.natAbs_dvd_natAbs.mpr ((hx x h).resolve_left (hz x h))
    have := Nat.le_of_dvd (by omega) this
    omega
  · have : lcmI 1 xs = 0 := Nat.eq_zero_of_not_pos fun h => hz (lcmI_pos.mp h).2
    rw [this]
    omega
end EE

namespace EE
open PySem PySem.Spec PyProof.Rows L2
/-! ### sorted(a list of pairs of ints) -/
def rSortedLP (K : PySem.W.Frag) : List V → Hp → VK → Prop := fun vs H Q => ∃ (a : Addr) (xs : List V) (rs : List (Int × Int)), vs = [V.ref a] ∧ SqL K H a xs ∧ xs.length = rs.length ∧ (∀ p ∈ xs.zip rs, ∃ t, p.1 = V.ref t ∧ SqT K H t [.int p.2.1, .int p.2.2]) ∧
  ∀ ys rs' p, ys.length = rs'.length → (ys.zip rs').Perm (xs.zip rs) → rs'.Pairwise (fun x y => SrtO.lexB y x = false) → H p = none → Q (.ref p) (upd H p (.lst ys))
theorem cr_sortedLP {X : Cx} : CallR X (.builtin "sorted") (rSortedLP X.K) := by
  intro pins s σ H vs us Q I r h
  obtain ⟨a, xs, rs, rfl, hs, hlen, hx, q⟩ := h
  obtain ⟨its, rv, hl, hz⟩ := I.list hs
  obtain ⟨u, rfl, ru⟩ := vals1 r
  obtain rfl : u = Value.ref a := ru
  have hxr : ∀ x ∈ xs, ∃ t, x = V.ref t := fun x m => by
    obtain ⟨i, hi, e⟩ := List.mem_iff_getElem.mp m
    have hm : (xs[i], rs[i]'(by omega)) ∈ xs.zip rs := by
      have : (xs.zip rs)[i]'(by rw [List.length_zip]; omega) = (xs[i], rs[i]'(by omega)) := List.getElem_zip
      rw [← this]
      exact List.getElem_mem _
    obtain ⟨t, e2, _⟩ := hx _ hm
    exact ⟨t, e.symm.trans e2⟩
  obtain ⟨e1, e2⟩ := refs_back rv hxr
  -- what the heap says
  have look : ∀ p ∈ xs.zip rs, ∃ t, p.1 = V.ref t ∧ pairAt s.heap (.ref t) = p.2 ∧ Srt.IsPair s.heap (.ref t) p.2.1 p.2.2 := fun p hp => by
    obtain ⟨t, et, ht⟩ := hx p hp
    obtain ⟨its2, r2, ⟨o, ho, hc, n, hd⟩, _⟩ := I.tuple ht
    obtain ⟨u1, u2, rfl, ri, rj⟩ := vals2 r2
    obtain ⟨t1, rfl⟩ := ri
    obtain ⟨t2, rfl⟩ := rj
    refine ⟨t, et, ?_, ⟨t, o, t1, t2, n, rfl, ho, hc, hd⟩⟩
    show (match s.heap.get? t with
      | some o => match o.data with
        | .seq its _ => match its.toList with
          | [.int i _, .int j _] => (i, j)
          | _ => (0, 0)
        | _ => (0, 0)
      | none => (0, 0)) = p.2
    rw [ho]
    show (match o.data with
        | .seq its _ => match its.toList with
          | [.int i _, .int j _] => (i, j)
          | _ => (0, 0)
        | _ => ((0, 0) : Int × Int)) = p.2
    rw [hd]
  have hlv : its.length = rs.length := by rw [← rv.length]; exact hlen
  have zi : ∀ i (h1 : i < its.length), ∃ t, its[i] = Value.ref t ∧ pairAt s.heap its[i] = rs[i]'(by omega) ∧ Srt.IsPair s.heap its[i] (rs[i]'(by omega)).1 (rs[i]'(by omega)).2 := fun i h1 => by
    have hxl : i < xs.length := by omega
    have hm : (xs[i], rs[i]'(by omega)) ∈ xs.zip rs := by
      have : (xs.zip rs)[i]'(by rw [List.length_zip]; omega) = (xs[i], rs[i]'(by omega)) := List.getElem_zip
      rw [← this]
      exact List.getElem_mem _
    obtain ⟨t, et, p1, p2⟩ := look _ hm
    obtain ⟨t', et'⟩ := e2 _ (List.getElem_mem h1)
    have : xs[i] = backV its[i] := by
      have := congrArg (fun l : List V => l[i]?) e1
      simpa [hxl, h1] using this
    rw [et'] at this
    have e3 : V.ref t = V.ref t' := et.symm.trans this
    cases e3
    rw [et']
    exact ⟨t, rfl, p1, p2⟩
  have er : rs = its.map (pairAt s.heap) := by
    refine List.ext_getElem (by rw [List.length_map]; omega) fun i h1 h2 => ?_
    rw [List.getElem_map]
    obtain ⟨_, _, e, _⟩ := zi i (by omega)
    exact e.symm
  have ez : xs.zip rs = its.map fun u => (backV u, pairAt s.heap u) := by
    rw [e1, er, zip_map]
  refine SrtO.sorted_pairsO (k := pairAt s.heap) hl.isList (by rw [← rv.length]; exact hz) (fun v hv => ?_) fun h' d out h1 h2 kp hd hn => ?_
  · obtain ⟨i, hi, e⟩ := List.mem_iff_getElem.mp hv
    obtain ⟨_, _, e3, e4⟩ := zi i hi
    rw [← e, e3]
    exact e4
  · have h3 : ∀ u ∈ out, ∃ a, u = Value.ref a := fun u hu => e2 u (h2.perm.mem_iff.mp hu)
    obtain ⟨n, hn⟩ := hn
    refine ⟨.ref d, upd H d (.lst (out.map backV)), I.laid (t' := s.toks) kp hd ⟨?_, out, n, vals_back h3, hn⟩, rfl, q _ (out.map (pairAt s.heap)) d (by rw [List.length_map, List.length_map]) ?_ (List.pairwise_map.mpr h1) (I.hok.fresh hd)⟩
    · rw [List.length_map, h2.perm.length_eq, ← rv.length]
      exact hz
    · rw [zip_map, ez]
      exact h2.perm.map _
section
variable {X : EC} {A : AE} {Γ Γ' : G} {Q : AV → G → Prop} {a : AV} {rs : List Rule}
theorem cb_sortedLP (h : AsL Γ a (rs.map ruleD)) (q : ∀ rs', rs'.Perm rs → SortedR rs' → Q (.dat (.list (rs'.map ruleD))) Γ) : Cb X Γ (rSortedLP X.K) [a] Q := fun xs H Δ R sb hS rl k => by
  obtain ⟨_, rfl, r1⟩ := rl.one
  obtain ⟨p, vs, rfl, h1, h2, Δ', s, hS', hv⟩ := h.dp hS r1
  have hl : vs.length = rs.length := by rw [h2, List.length_map]
  have hz := zip_dv hv
  refine ⟨p, vs, rs, rfl, h1, hl, fun p hp => ?_, fun ys rs' p2 e1 e2 e3 hp2 => ?_⟩
  · have d := hz p hp
    obtain ⟨t, et⟩ := d.isRef hS' trivial
    rw [et] at d
    exact ⟨t, et, (hS'.also d).pair (List.mem_cons_self ..)⟩
  · exact k _ _ _ _ _ (q rs' (perm_snd e1 hl e2) e3) (s.trans (Sub.cons .rfl')) (hS'.lst hp2 (dv_zip e1 fun q hq => hz q (e2.mem_iff.mp hq))) (Dv.of (List.mem_cons_self ..))
theorem cb_sortedTP (q : ∀ p rs', rs'.Perm rs → SortedR rs' → Q (.ref p) ((p, rs'.map ruleD) :: Γ)) : Cb X Γ (rSortedTP X.K) [.dat (scaleD rs)] Q := fun xs H Δ R sb hS rl k => by
  obtain ⟨_, rfl, r1⟩ := rl.one
  obtain ⟨a, rfl⟩ := Dv.isRef hS r1 trivial
  obtain ⟨xs, hT, hl, hz, hsort⟩ := (hS.also r1).sortT (List.mem_cons_self ..)
  refine ⟨a, xs, rs, rfl, hT, hl, hz, fun ys rs' p2 e1 e2 e3 hp2 => ?_⟩
  obtain ⟨hp, hS2⟩ := hsort ys rs' p2 e1 e2 hp2
  exact k _ _ _ _ _ (q p2 rs' hp e3) (Sub.cons .rfl') hS2 rfl
end
/-- a, b, .. = x, y, ..: any number of names -/
theorem do_tupAsg {X : EC} {A : AE} {Γ : G} {tr : TA} {n : Nat} {gs : TGs} {tz : TS} {E : Ends} (h : EvA X A Γ tr fun as Γ1 => as.length = n ∧ as.length ≤ 10000 ∧ Tgs X gs as A Γ1 fun A' => Do X A' Γ1 tz E) : Do X A Γ (tSeq (tAsg (tTup tr) (gTup X.K n gs)) tz) E := fun σ H Δ sb hS hE =>
  h σ H Δ _ sb hS hE fun as Γ1 vs H1 Δ1 q s hS1 ra => ⟨by rw [ra.len]; exact Nat.le_trans q.2.1 (by decide), fun p hp => by
    have hS2 : St X.K (upd H1 p (.tup vs)) X.dk Γ1 Δ1 := hS1.junk hp
    refine ⟨p, vs, rfl, SqT.of upd_same, by rw [ra.len]; exact q.1, q.2.2 vs σ _ Δ1 _ (sb.trans s) hS2 ra (hE.sub s) fun A2 σ2 Δ2 q2 s2 hS3 hE3 => q2 σ2 _ Δ2 (sb.trans (s.trans s2)) hS3 hE3⟩⟩
end EE

namespace EE
open PySem PySem.Spec PyProof.Rows L2
/-! ### what is wrong with a scale -/
/-- a rule is well formed -/
def goodR (r : Rule) : Bool := decide (0 ≤ r.1) && decide (r.1 ≤ 10 ^ 60) && (decide (r.2 = 0) || (decide (2 ≤ r.2) && decide (r.2 ≤ 10 ^ 60)))
def firstIll : List Rule → Option Nat
  | [] => none
  | r :: rs => if goodR r = true then (firstIll rs).map (· + 1) else some 0
def lcmAll (c : Nat) : List Rule → Nat
  | [] => c
  | r :: rs => lcmAll (if r.2 = 0 then c else Nat.lcm c r.2.natAbs) rs
def illD (word : Str) : Option Nat → D
  | none => .none
  | some i => .tuple [.str word, .int (i : Int)]
def serrD (rs : List Rule) : D := match firstIll rs with
  | none => if (lcmAll 1 rs : Int) > 10 ^ 60 then .str "great" else .none
  | some i => .tuple [.str "rule", .int (i : Int)]
theorem dec_vint {a b : Int} : decide (V.int a = V.int b) = decide (a = b) := decide_eq_decide.mpr ⟨fun h => V.int.inj h, fun h => by rw [h]⟩
theorem e60 : (10 : Int) ^ 60 = 1000000000000000000000000000000000000000000000000000000000000 := by decide +kernel
theorem ill_none : ∀ rs : List Rule, (∀ r ∈ rs, goodR r = true) → firstIll rs = none
  | [], _ => rfl
  | r :: rs, h => by
    show (if goodR r = true then (firstIll rs).map (· + 1) else some 0) = none
    rw [if_pos (h r (List.mem_cons_self ..)), ill_none rs fun x hx => h x (List.mem_cons_of_mem _ hx)]
    rfl
theorem ill_at : ∀ (rs : List Rule) (i : Nat) (hi : i < rs.length), (∀ r ∈ rs.take i, goodR r = true) → goodR rs[i] = false → firstIll rs = some i
  | [], i, hi, _, _ => absurd hi (Nat.not_lt_zero _)
  | r :: rs, 0, hi, h, hb => by
    show (if goodR r = true then (firstIll rs).map (· + 1) else some 0) = some 0
    have : goodR r = false := hb
    rw [this]
    rfl
  | r :: rs, i + 1, hi, h, hb => by
    show (if goodR r = true then (firstIll rs).map (· + 1) else some 0) = some (i + 1)
    rw [if_pos (h r (by simp)), ill_at rs i (by simpa using hi) (fun x hx => h x (by rw [List.take_succ_cons]; exact List.mem_cons_of_mem _ hx)) hb]
    rfl
theorem lcm_app : ∀ (c : Nat) (xs : List Rule) (r : Rule), lcmAll c (xs ++ [r]) = if r.2 = 0 then lcmAll c xs else Nat.lcm (lcmAll c xs) r.2.natAbs
  | c, [], r => rfl
  | c, x :: xs, r => lcm_app _ xs r
theorem good_all : ∀ rs : List Rule, firstIll rs = none → ∀ r ∈ rs, goodR r = true
  | [], _, r, h => nomatch h
  | x :: rs, e, r, h => by
    rw [show firstIll (x :: rs) = (if goodR x = true then (firstIll rs).map (· + 1) else some 0) from rfl] at e
    split at e
    · rename_i hx
      rcases List.mem_cons.mp h with rfl | h
      · exact hx
      · cases e2 : firstIll rs with
        | none => exact good_all rs e2 r h
        | some j => rw [e2] at e; cases e
    · cases e
def spis_integer (K : PySem.W.Frag) : Sp := fun vs H Q _ => ∃ i : Int, vs = [.int i] ∧ Q (.bl true) H
def spis_row (K : PySem.W.Frag) : Sp := fun vs H Q _ => ∃ (dk : Dk) (Γ : List (Addr × List D)) (Δ : List (V × D)) (a : Addr) (ds : List D) (n : Int), vs = [.ref a, .int n] ∧ St K H dk Γ Δ ∧ (V.ref a, PyData.tuple ds) ∈ Δ ∧ Q (.bl (decide ((ds.length : Int) = n))) H
def spis_step (K : PySem.W.Frag) : Sp := fun vs H Q _ => ∃ i : Int, vs = [.int i] ∧ Q (.bl (decide (i = 0) || (decide (2 ≤ i) && decide (i ≤ 10 ^ 60)))) H
def spis_rule (K : PySem.W.Frag) : Sp := fun vs H Q _ => ∃ (dk : Dk) (Γ : List (Addr × List D)) (Δ : List (V × D)) (a : Addr) (r : Rule), vs = [.ref a] ∧ St K H dk Γ Δ ∧ (V.ref a, ruleD r) ∈ Δ ∧ ∀ H', St K H' dk Γ Δ → Q (.bl (goodR r)) H'
def sprow_error (K : PySem.W.Frag) (mg : Str → Option Value) : Sp := fun vs H Q _ => ∃ (dk : Dk) (Γ : List (Addr × List D)) (Δ : List (V × D)) (a : Addr) (rs : List Rule) (fr : Addr) (word : Str), vs = [.ref a, .int 40, .str word, .ref fr] ∧ mg "is_rule" = some (.ref fr) ∧
  St K H dk Γ Δ ∧ (V.ref a, scaleD rs) ∈ Δ ∧ rs.length ≤ 40 ∧ ∀ H' v, St K H' dk Γ ((v, illD word (firstIll rs)) :: Δ) → Q v H'
def spcommon_step (K : PySem.W.Frag) : Sp := fun vs H Q _ => ∃ (dk : Dk) (Γ : List (Addr × List D)) (Δ : List (V × D)) (a : Addr) (rs : List Rule), vs = [.ref a] ∧ St K H dk Γ Δ ∧ (V.ref a, scaleD rs) ∈ Δ ∧ rs.length ≤ 40 ∧ (∀ r ∈ rs, 0 ≤ r.2 ∧ r.2 ≤ 10 ^ 60) ∧
  ∀ H', St K H' dk Γ Δ → Q (.int (lcmAll 1 rs : Nat)) H'
def spscale_error (K : PySem.W.Frag) : Sp := fun vs H Q _ => ∃ (dk : Dk) (Γ : List (Addr × List D)) (Δ : List (V × D)) (a : Addr) (rs : List Rule), vs = [.ref a] ∧ St K H dk Γ Δ ∧ (V.ref a, scaleD rs) ∈ Δ ∧ rs.length ≤ 40 ∧
  ∀ H' v, St K H' dk Γ ((v, serrD rs) :: Δ) → Q v H'
/-! ### parts -/
abbrev Part := Int × Int × Nat
def partD (p : Part) : D := .tuple [.int p.1, .int p.2.1, .int (p.2.2 : Int)]
/-- parts from low on tell what fits -/
inductive PartsFrom (rs : List Rule) : Int → List Part → Prop
  | last {low : Int} {m : Nat} (h0 : 1 ≤ low) (hm : m < 2 ^ 8001) (hl : low ≤ 10 ^ 60 + 1) (h : ∀ n, low ≤ n → (fitsAll rs n = true ↔ 0 < m ∧ mulP m n = true)) : PartsFrom rs low [(low, -1, m)]
  | cons {low b : Int} {m : Nat} {ps : List Part} (h0 : 1 ≤ low) (hm : m < 2 ^ 8001) (hb : low ≤ b) (hb2 : b ≤ 10 ^ 60) (h : ∀ n, low ≤ n → n ≤ b → (fitsAll rs n = true ↔ 0 < m ∧ mulP m n = true)) (t : PartsFrom rs (b + 1) ps) : PartsFrom rs low ((low, b, m) :: ps)
def sp_law_parts (K : PySem.W.Frag) : Sp := fun vs H Q _ => ∃ (dk : Dk) (Γ : List (Addr × List D)) (Δ : List (V × D)) (a : Addr) (rs : List Rule), vs = [.ref a] ∧ St K H dk Γ Δ ∧ (V.ref a, scaleD rs) ∈ Δ ∧ RulesG 40 rs ∧
  ∀ H' p ps, ps.length ≤ 41 → PartsFrom rs 1 ps → St K H' dk ((p, ps.map partD) :: Γ) Δ → Q (.ref p) H'
theorem parts_small {rs : List Rule} {low : Int} {ps : List Part} (hp : PartsFrom rs low ps) : ∀ p ∈ ps, p.2.2 < 2 ^ 8001 ∧ 1 ≤ p.1 ∧ p.1 ≤ 10 ^ 60 + 1 ∧ -1 ≤ p.2.1 ∧ p.2.1 ≤ 10 ^ 60 := by
  have e : (-1 : Int) ≤ 10 ^ 60 := by decide
  induction hp with
  | last h0 hm hl hf =>
    intro p hp
    rw [List.mem_singleton.mp hp]
    exact ⟨hm, h0, hl, Int.le_refl _, e⟩
  | cons h0 hm hb hb2 hf t ih =>
    intro p hp
    rcases List.mem_cons.mp hp with rfl | hp
    · exact ⟨hm, h0, by dsimp only; omega, by dsimp only; omega, hb2⟩
    · exact ih p hp
theorem St.part {K : PySem.W.Frag} {H : Hp} {dk : Dk} {Γ : List (Addr × List D)} {Δ : List (V × D)} {a : Addr} {r : Part} (hS : EE.St K H dk Γ Δ) (hm : (V.ref a, partD r) ∈ Δ) : SqT K H a [.int r.1, .int r.2.1, .int (r.2.2 : Int)] := by
  obtain ⟨vs, hT, hlen, Δ', rfl, hS', hv⟩ := hS.tupAt hm
  have := hS'.ints_of (ns := [r.1, r.2.1, (r.2.2 : Int)]) hv
  rw [this] at hT
  exact hT
section
variable {K : PySem.W.Frag} {H : Hp} {dk : Dk} {Γ : List (Addr × List D)} {Δ : List (V × D)} {a : Addr} {rs : List Rule} {y1 y2 y3 y4 y5 y6 : Option V}
/-- [bound for bound, step in scale], [step for ..] -/
theorem lc_col {Q : VK} (hS : St K H dk Γ Δ) (hm : (V.ref a, scaleD rs) ∈ Δ) (hl : rs.length ≤ 40) (e : Nat) (col : Rule → Int) (he : (e = 3 ∧ col = Prod.fst) ∨ (e = 4 ∧ col = Prod.snd))
    (q : ∀ D H', St K H' dk ((D, (rs.map col).map PyData.int) :: Γ) Δ → Q (.ref D) H') : tLc (iTup K (tVar 0)) (gTup K 2 (gCons (gName 3) (gCons (gName 4) gNil))) tYes (tVar e) [3, 4] [some (.ref a), y1, y2, y3, y4, y5, y6] H Q := by
  obtain ⟨xs0, hT0, hx0⟩ := hS.lenT hm
  refine ⟨_, rfl, a, rfl, ⟨xs0, hT0⟩, fun D hD => lc_it (n := rs.length) walkT (fun k H => St K H dk ((D, ((rs.take k).map col).map PyData.int) :: Γ) Δ)
    (hS.make (ds := []) hD .nil) (fun k H _ hP => ?_) (fun k x H H' hk hP hy => ?_) (fun H hP => ?_)⟩
  · obtain ⟨xs, h1, h3⟩ := hP.lenT hm
    exact ⟨xs, h1, by rw [h3, List.length_map]⟩
  · obtain ⟨rfl, ff⟩ := hy
    obtain ⟨dd, e1, hS1⟩ := hP.turnT hm ff
    rw [List.getElem?_map, List.getElem?_eq_getElem hk] at e1
    cases Option.some.inj e1
    obtain ⟨ax, rfl⟩ := hS1.ref_of (List.mem_cons_self ..)
    have hT1 := hS1.pair (List.mem_cons_self ..)
    refine ⟨ax, _, rfl, hT1, rfl, _, _, rfl, _, _, rfl, rfl, rfl, ?_⟩
    have fin : ∃ acc, H' D = some (.lst acc) ∧ acc.length < sizeLine ∧ St K (upd H' D (.lst (acc ++ [V.int (col rs[k])]))) dk ((D, ((rs.take (k + 1)).map col).map PyData.int) :: Γ) Δ := by
      obtain ⟨vd, g1, g2, g3⟩ := (hP.push (y := .int (col rs[k])) (x := .int (col rs[k])) (.int _))
      refine ⟨vd, g1, small1000 (by rw [g2, List.length_map, List.length_map, List.length_take]; omega), ?_⟩
      rw [List.take_add_one, List.getElem?_eq_getElem hk, List.map_append, List.map_append]
      exact g3
    rcases he with ⟨rfl, rfl⟩ | ⟨rfl, rfl⟩
    · refine go_yes (A := fun H3 => tVar 3 _ H3 fun y H4 => ∃ acc, H4 D = some (.lst acc) ∧ acc.length < sizeLine ∧ St K (upd H4 D (.lst (acc ++ [y]))) dk ((D, ((rs.take (k + 1)).map Prod.fst).map PyData.int) :: Γ) Δ) ?_
      exact ⟨_, rfl, fin⟩
    · refine go_yes (A := fun H3 => tVar 4 _ H3 fun y H4 => ∃ acc, H4 D = some (.lst acc) ∧ acc.length < sizeLine ∧ St K (upd H4 D (.lst (acc ++ [y]))) dk ((D, ((rs.take (k + 1)).map Prod.snd).map PyData.int) :: Γ) Δ) ?_
      exact ⟨_, rfl, fin⟩
  · have g := q D H (by rw [List.take_length] at hP; exact hP)
    exact g

def stepsB (rs : List Rule) (low : Int) : List Int := (rs.filter fun r => decide (r.1 < low)).map Prod.snd
theorem stepsB_len (rs : List Rule) (low : Int) : (stepsB rs low).length ≤ rs.length := by
  unfold stepsB
  rw [List.length_map]
  exact List.length_filter_le _ _
/-- [step for own, step in scale if own < low] -/
theorem lc_steps {Q : VK} {low : Int} (hS : EE.St K H dk Γ Δ) (hm : (V.ref a, scaleD rs) ∈ Δ) (hl : rs.length ≤ 40) (e5 : y5 = some (.int low))
    (q : ∀ D H', EE.St K H' dk ((D, (stepsB rs low).map PyData.int) :: Γ) Δ → Q (.ref D) H') : tLc (iTup K (tVar 0)) (gTup K 2 (gCons (gName 6) (gCons (gName 4) gNil))) (tTest (tOp (rI0 fun i j => .bl (decide (i < j))) (tVar 6) (tVar 5))) (tVar 4) [6, 4] [some (.ref a), y1, y2, y3, y4, y5, y6] H Q := by
  subst e5
  obtain ⟨xs0, hT0, hx0⟩ := hS.lenT hm
  refine ⟨_, rfl, a, rfl, ⟨xs0, hT0⟩, fun D hD => lc_it (n := rs.length) walkT (fun k H => EE.St K H dk ((D, (stepsB (rs.take k) low).map PyData.int) :: Γ) Δ)
    (hS.make (ds := []) hD .nil) (fun k H _ hP => ?_) (fun k x H H' hk hP hy => ?_) (fun H hP => ?_)⟩
  · obtain ⟨xs, h1, h3⟩ := hP.lenT hm
    exact ⟨xs, h1, by rw [h3, List.length_map]⟩
  · obtain ⟨rfl, ff⟩ := hy
    obtain ⟨dd, e1, hS1⟩ := hP.turnT hm ff
    rw [List.getElem?_map, List.getElem?_eq_getElem hk] at e1
    cases Option.some.inj e1
    obtain ⟨ax, rfl⟩ := hS1.ref_of (List.mem_cons_self ..)
    have hT1 := hS1.pair (List.mem_cons_self ..)
    have ex : stepsB (rs.take (k + 1)) low = stepsB (rs.take k) low ++ if rs[k].1 < low then [rs[k].2] else [] := by
      unfold stepsB
      rw [List.take_add_one, List.getElem?_eq_getElem hk, List.filter_append, List.map_append]
      by_cases c : rs[k].1 < low
      · rw [if_pos c]
        simp [c]
      · rw [if_neg c]
        simp [c]
    refine ⟨ax, _, rfl, hT1, rfl, _, _, rfl, _, _, rfl, rfl, rfl, ?_⟩
    refine ⟨_, rfl, _, rfl, _, _, rfl, rfl, _, rfl, ite2 (fun e => ?_) (fun e => ?_)⟩
    · rw [if_pos (of_decide_eq_true e)] at ex
      obtain ⟨vd, g1, g2, g3⟩ := (hP.push (y := .int rs[k].2) (x := .int rs[k].2) (.int _))
      have hl3 := stepsB_len (rs.take k) low
      rw [List.length_take] at hl3
      refine ⟨_, rfl, vd, g1, small1000 (by rw [g2, List.length_map]; omega), ?_⟩
      rw [ex, List.map_append]
      exact g3
    · rw [if_neg fun z => e (decide_eq_true z), List.append_nil] at ex
      rw [ex]
      exact hP
  · exact q D H (by rw [List.take_length] at hP; exact hP)
end
theorem m_at {rs : List Rule} (hOk : ScaleOk rs) {low n : Int} (h1 : 1 ≤ low) (hn : low ≤ n) (h : ∀ r ∈ rs, r.1 < low ∨ n ≤ r.1) : fitsAll rs n = true ↔ 0 < lcmI 1 (stepsB rs low) ∧ mulP (lcmI 1 (stepsB rs low)) n = true := by
  rw [lcmI_pos, lcmI_mul]
  have e1 : mulP 1 n = true := by
    unfold mulP
    rw [show n % ((1 : Nat) : Int) = 0 from Int.emod_one n]
    rfl
  rw [e1, Bool.true_and, List.all_eq_true]
  unfold fitsAll
  rw [List.all_eq_true]
  constructor
  · intro g
    have key : ∀ r ∈ rs, r.1 < low → r.2 ≠ 0 ∧ mulP r.2.natAbs n = true := fun r hr c => by
      have := g r hr
      rw [fit_pos (by omega), decide_eq_false (by omega), Bool.false_or, Bool.and_eq_true] at this
      refine ⟨by simpa using this.1, ?_⟩
      unfold mulP
      rw [Int.natAbs_of_nonneg (hOk.2 r hr).2.2.1]
      exact this.2
    refine ⟨⟨by decide, fun x hx => ?_⟩, fun x hx => ?_⟩
    · obtain ⟨r, hr, rfl⟩ := List.mem_map.mp hx
      obtain ⟨hr1, hr2⟩ := List.mem_filter.mp hr
      exact (key r hr1 (of_decide_eq_true hr2)).1
    · obtain ⟨r, hr, rfl⟩ := List.mem_map.mp hx
      obtain ⟨hr1, hr2⟩ := List.mem_filter.mp hr
      exact (key r hr1 (of_decide_eq_true hr2)).2
  · rintro ⟨⟨_, g1⟩, g2⟩ r hr
    rw [fit_pos (by omega)]
    rcases h r hr with c | c
    · have hx : r.2 ∈ stepsB rs low := List.mem_map.mpr ⟨r, List.mem_filter.mpr ⟨hr, decide_eq_true c⟩, rfl⟩
      have e2 := g2 _ hx
      unfold mulP at e2
      rw [Int.natAbs_of_nonneg (hOk.2 r hr).2.2.1] at e2
      rw [decide_eq_false (g1 _ hx), e2]
      exact Bool.or_true _
    · rw [decide_eq_true c]
      rfl
theorem m_small {rs : List Rule} (hOk : ScaleOk rs) (low : Int) : lcmI 1 (stepsB rs low) < 2 ^ 8001 ∧ ∀ x ∈ stepsB rs low, 0 ≤ x ∧ x ≤ 10 ^ 60 := by
  have hx : ∀ x ∈ stepsB rs low, 0 ≤ x ∧ x ≤ 10 ^ 60 := fun x hx => by
    obtain ⟨r, hr, rfl⟩ := List.mem_map.mp hx
    exact (hOk.2 r (List.mem_filter.mp hr).1).2.2
  have hl := stepsB_len rs low
  have := hOk.1
  exact ⟨Nat.lt_of_lt_of_le (lcmI_lt (c := 1) (i := 0) hx (by decide)) (Nat.pow_le_pow_right (by decide) (by omega)), hx⟩
def keepP (p : Part) : Bool := decide (p.2.1 = -1) || decide (p.1 ≤ p.2.1)
theorem parts_fit {rs : List Rule} {low : Int} {ps : List Part} (hp : PartsFrom rs low ps) : ∀ p ∈ ps, low ≤ p.1 ∧ 1 ≤ p.1 ∧ (p.2.1 = -1 ∨ p.1 ≤ p.2.1) ∧ ∀ n, p.1 ≤ n → (p.2.1 = -1 ∨ n ≤ p.2.1) → (fitsAll rs n = true ↔ 0 < p.2.2 ∧ mulP p.2.2 n = true) := by
  induction hp with
  | last h0 hm hl hf =>
    intro p hp
    rw [List.mem_singleton.mp hp]
    exact ⟨Int.le_refl _, h0, Or.inl rfl, fun n h1 _ => hf n h1⟩
  | cons h0 hm hb hb2 hf t ih =>
    intro p hp
    rcases List.mem_cons.mp hp with rfl | hp
    · exact ⟨Int.le_refl _, h0, Or.inr hb, fun n h1 h2 => hf n h1 (by dsimp only at h2; omega)⟩
    · obtain ⟨x1, x2⟩ := ih p hp
      exact ⟨by omega, x2⟩
theorem parts_cover {rs : List Rule} {low : Int} {ps : List Part} (hp : PartsFrom rs low ps) : ∀ n, low ≤ n → ∃ p ∈ ps, p.1 ≤ n ∧ (p.2.1 = -1 ∨ n ≤ p.2.1) := by
  induction hp with
  | last h0 hm hl hf => exact fun n h => ⟨_, List.mem_singleton_self _, h, Or.inl rfl⟩
  | @cons low b m ps h0 hm hb hb2 hf t ih =>
    intro n h
    by_cases c : n ≤ b
    · exact ⟨_, List.mem_cons_self .., h, Or.inr c⟩
    · obtain ⟨p, p1, p2⟩ := ih n (by omega)
      exact ⟨p, List.mem_cons_of_mem _ p1, p2⟩
/-! ### a ladder from its spots -/
theorem val_mem {d : Int} : ∀ {L : List Rule}, WAsc L → ∀ p ∈ L, valAt d L p.1 = p.2
  | q :: L, h, p, hp => by
    obtain ⟨a1, a2⟩ := List.pairwise_cons.mp h
    rcases List.mem_cons.mp hp with rfl | hp
    · show (if p.1 ≤ p.1 then valAt p.2 L p.1 else d) = p.2
      rw [if_pos (Int.le_refl _)]
      by_cases hx : p ∈ L
      · exact val_mem a2 p hx
      · refine val_lt fun r hr => ?_
        rcases a1 r hr with h | h
        · exact h
        · exact absurd (h ▸ hr) hx
    · show (if q.1 ≤ p.1 then valAt q.2 L p.1 else d) = p.2
      have : q.1 ≤ p.1 := by
        rcases a1 p hp with h | h
        · omega
        · rw [h]; exact Int.le_refl _
      rw [if_pos this]
      exact val_mem a2 p hp
theorem val_skip {b : Int} : ∀ {L : List Rule} {d : Int}, (∀ p ∈ L, p.1 ≠ b) → valAt d L b = valAt d L (b - 1)
  | [], _, _ => rfl
  | q :: L, d, h => by
    have hq := h q (List.mem_cons_self ..)
    show (if q.1 ≤ b then valAt q.2 L b else d) = (if q.1 ≤ b - 1 then valAt q.2 L (b - 1) else d)
    by_cases c : q.1 ≤ b
    · rw [if_pos c, if_pos (by omega)]
      exact val_skip fun p hp => h p (List.mem_cons_of_mem _ hp)
    · rw [if_neg c, if_neg (by omega)]
theorem lad_of_spots {P : Int → Bool} {S : List Rule} (hw : WAsc S) (hg : ∀ p ∈ S, 0 ≤ p.1 ∧ IsG P p.1 p.2) (h0 : ∃ p ∈ S, p.1 = 0) (hc : ∀ b, 1 ≤ b → (∀ p ∈ S, p.1 ≠ b) → ∀ m, IsG P (b - 1) m → IsG P b m) : IsLad P (chgs 1 S) := by
  have hA := chgs_asc (d := 1) (lo := -1) hw fun p hp => Or.inl (by have := (hg p hp).1; omega)
  refine ⟨hA.2, fun p hp => (hg p (chgs_sub p hp)).1, fun b hb => ?_, chgs_chg⟩
  rw [chgs_val hw]
  obtain ⟨n, rfl⟩ := Int.eq_ofNat_of_zero_le hb
  clear hb
  induction n with
  | zero =>
    obtain ⟨p, hp, e⟩ := h0
    have := (hg p hp).2
    rw [e] at this
    have e2 := val_mem (d := 1) hw p hp
    rw [e] at e2
    show IsG P 0 (valAt 1 S 0)
    rw [e2]
    exact this
  | succ n ih =>
    by_cases h : ∃ p ∈ S, p.1 = ((n + 1 : Nat) : Int)
    · obtain ⟨p, hp, e⟩ := h
      have e2 := val_mem (d := 1) hw p hp
      rw [e] at e2
      rw [e2, ← e]
      exact (hg p hp).2
    · have hn : ∀ p ∈ S, p.1 ≠ ((n + 1 : Nat) : Int) := fun p hp e => h ⟨p, hp, e⟩
      rw [val_skip hn, show ((n + 1 : Nat) : Int) - 1 = (n : Int) by omega]
      have := hc ((n + 1 : Nat) : Int) (by omega) hn (valAt 1 S (n : Int)) (by rw [show ((n + 1 : Nat) : Int) - 1 = (n : Int) by omega]; exact ih)
      exact this
/-- sorted by places, one worth for each place -/
theorem wasc_of {P : Int → Bool} {S : List Rule} (hs : SortedR S) (hg : ∀ p ∈ S, IsG P p.1 p.2) : WAsc S := by
  have h := List.Pairwise.and_mem.mp hs
  refine h.imp fun {x y} ⟨hx, hy, g⟩ => ?_
  have hl : x.1 ≤ y.1 := by
    have := SrtO.lexB_no.mp g
    omega
  by_cases e : x.1 = y.1
  · have h1 := hg x hx
    have h2 := hg y hy
    rw [← e] at h2
    exact Or.inr (Prod.ext e (isG_uniq h1 h2))
  · exact Or.inl (by omega)
def commonP (low high : Int) (m : Nat) : Int := if m = 0 ∨ high = -1 then (m : Int) else if firstMul m low > high / (m : Int) * m then 0 else if firstMul m low < high / (m : Int) * m then (m : Int) else high / (m : Int) * m
def twoP (low last a : Int) (m : Nat) : List Rule := [(last, a), (last - m, ((Int.gcd last a : Nat) : Int))].filter fun p => decide (low ≤ p.1)
def ladP : List Part → List Rule × Int
  | [] => ([], 0)
  | p :: ps => ((if 0 < p.2.2 ∧ p.2.1 ≠ -1 then (ladP ps).1 ++ twoP p.1 (p.2.1 / (p.2.2 : Int) * p.2.2) (ladP ps).2 p.2.2 else (ladP ps).1), ((Int.gcd (commonP p.1 p.2.1 p.2.2) (ladP ps).2 : Nat) : Int))
structure LadPOk (P : Int → Bool) (low : Int) (q : List Rule × Int) : Prop where
  a : IsG P (low - 1) q.2
  s : ∀ p ∈ q.1, low ≤ p.1 ∧ IsG P p.1 p.2
  c : ∀ b, low ≤ b → (∀ p ∈ q.1, p.1 ≠ b) → ∀ m, IsG P (b - 1) m → IsG P b m
theorem isG_up {P : Int → Bool} {b v : Int} (h : IsG P (b - 1) v) (k : P b = true → ∀ d : Int, (∀ x, b < x → P x = true → d ∣ x) → d ∣ b) : IsG P b v :=
  ⟨h.1, fun d => (h.2 d).trans ⟨fun g x hx hp => g x (by omega) hp, fun g x hx hp => (by
    by_cases e : x = b
    · subst e; exact k hp d g
    · exact g x (by omega) hp)⟩⟩
theorem ladP_ok {rs : List Rule} : ∀ {low : Int} {ps : List Part}, PartsFrom rs low ps → LadPOk (fitsAll rs) low (ladP ps)
  | _, _, .last (low := low) (m := m) h0 hm hl h => by
    have e : ladP [(low, -1, m)] = ([], ((Int.gcd (m : Int) 0 : Nat) : Int)) := by
      show ((if 0 < m ∧ (-1 : Int) ≠ -1 then _ else ([] : List Rule)), ((Int.gcd (commonP low (-1) m) 0 : Nat) : Int)) = _
      rw [if_neg (by omega)]
      unfold commonP
      rw [if_pos (Or.inr rfl)]
    rw [e, Int.gcd_zero_right, Int.natAbs_natCast]
    refine ⟨?_, fun p hp => (by simp at hp), fun b hb _ v hv => isG_up hv fun pb d hd => ?_⟩
    · show IsG _ (low - 1) (m : Int)
      by_cases hm0 : 0 < m
      · obtain ⟨f1, f2, f3⟩ := first_mul hm0 low
        refine isG_step (y := firstMul m low) (by omega) (by omega) (by omega) ((h _ f1).mpr ⟨hm0, f2⟩) ((h _ (by omega)).mpr ⟨hm0, mul_dvd.mpr (Int.dvd_add (mul_dvd.mp f2) (Int.dvd_refl _))⟩) fun x hx hp => mul_dvd.mp ((h x (by omega)).mp hp).2
      · have : m = 0 := by omega
        subst this
        exact ⟨Int.le_refl _, fun d => ⟨fun _ x hx hp => absurd ((h x (by omega)).mp hp).1 hm0, fun _ => Int.dvd_zero d⟩⟩
    · obtain ⟨hm0, hb2⟩ := (h b hb).mp pb
      have d1 := mul_dvd.mp hb2
      have p1 := hd (b + m) (by omega) ((h _ (by omega)).mpr ⟨hm0, mul_dvd.mpr (Int.dvd_add d1 (Int.dvd_refl _))⟩)
      have p2 := hd (b + m + m) (by omega) ((h _ (by omega)).mpr ⟨hm0, mul_dvd.mpr (Int.dvd_add (Int.dvd_add d1 (Int.dvd_refl _)) (Int.dvd_refl _))⟩)
      have p3 : d ∣ (m : Int) := (Int.dvd_add_right p1).mp p2
      exact (Int.dvd_add_left p3).mp p1
  | _, _, .cons (low := low) (b := high) (m := m) (ps := ps) h0 hm hb hb2 h t => by
    obtain ⟨ia, is, ic⟩ := ladP_ok t
    have e : ladP ((low, high, m) :: ps) = ((if 0 < m ∧ high ≠ -1 then (ladP ps).1 ++ twoP low (high / (m : Int) * m) (ladP ps).2 m else (ladP ps).1), ((Int.gcd (commonP low high m) (ladP ps).2 : Nat) : Int)) := rfl
    rw [e]
    generalize ladP ps = q at ia is ic
    obtain ⟨S, a⟩ := q
    rw [Int.add_sub_cancel] at ia
    replace ia : IsG (fitsAll rs) high a := ia
    by_cases hm0 : 0 < m
    · rw [if_pos ⟨hm0, by omega⟩]
      obtain ⟨f1, f2, f3⟩ := first_mul hm0 low
      obtain ⟨l1, l2, l3⟩ := last_mul hm0 high
      have hc : commonP low high m = (if firstMul m low > high / (m : Int) * m then 0 else if firstMul m low < high / (m : Int) * m then (m : Int) else high / (m : Int) * m) := by
        unfold commonP
        rw [if_neg (by omega)]
      rw [hc]
      generalize firstMul m low = f at f1 f2 f3 hc
      generalize high / (m : Int) * (m : Int) = l at l1 l2 l3 hc
      have no : ∀ x, low ≤ x → l < x → x ≤ high → fitsAll rs x = false := fun x x1 x2 x3 => Bool.eq_false_iff.mpr fun z => by
        have := l3 x x2 x3
        rw [((h x x1 x3).mp z).2] at this
        cases this
      have noF : ∀ x, low ≤ x → x < f → x ≤ high → fitsAll rs x = false := fun x x1 x2 x3 => Bool.eq_false_iff.mpr fun z => by
        have := f3 x x1 x2
        rw [((h x x1 x3).mp z).2] at this
        cases this
      have gl : ∀ b, low - 1 ≤ b → l ≤ b → b ≤ high → IsG (fitsAll rs) b a := fun b b0 b1 b2 => isG_down ia b2 fun x x1 x2 => no x (by omega) (by omega) x2
      -- what the multiples up to the last one have in common
      have stp : low ≤ l - m → ∀ b, low - 1 ≤ b → b < l - m → IsG (fitsAll rs) b (((Int.gcd (m : Int) a : Nat)) : Int) → True := fun _ _ _ _ _ => trivial
      have mid : low ≤ l → ∀ x, l - m < x → x < l → low ≤ x → fitsAll rs x = false := fun hl x x1 x2 x3 => Bool.eq_false_iff.mpr fun z => by
        obtain ⟨v, hv⟩ := mul_dvd.mp ((h x x3 (by omega)).mp z).2
        obtain ⟨u, hu⟩ := mul_dvd.mp l2
        rw [hu, hv] at x2
        have y1 := Int.lt_of_mul_lt_mul_left x2 (by omega)
        have : (m : Int) * (u - 1) < m * v := by rw [Int.mul_sub, Int.mul_one, ← hu, ← hv]; omega
        have y2 := Int.lt_of_mul_lt_mul_left this (by omega)
        omega
      have fl : low ≤ l → fitsAll rs l = true := fun hl => (h l hl l1).mpr ⟨hm0, l2⟩
      have g2 : low ≤ l → ∀ b, l - m ≤ b → low - 1 ≤ b → b < l → IsG (fitsAll rs) b ((Int.gcd l a : Nat) : Int) := fun hl b b1 b2 b3 => by
        rw [Int.gcd_comm]
        exact isG_add (gl l (by omega) (Int.le_refl _) l1) b3 (fl hl) fun x x1 x2 => mid hl x (by omega) x2 (by omega)
      have memT : ∀ p, p ∈ twoP low l a m → (p = (l, a) ∨ p = (l - m, ((Int.gcd l a : Nat) : Int))) ∧ low ≤ p.1 := fun p hp => by
        unfold twoP at hp
        obtain ⟨h1, h2⟩ := List.mem_filter.mp hp
        simp only [List.mem_cons, List.not_mem_nil, or_false] at h1
        exact ⟨h1, of_decide_eq_true h2⟩
      have inT : ∀ p, (p = (l, a) ∨ p = (l - m, ((Int.gcd l a : Nat) : Int))) → low ≤ p.1 → p ∈ twoP low l a m := fun p h1 h2 => by
        unfold twoP
        refine List.mem_filter.mpr ⟨?_, decide_eq_true h2⟩
        simp only [List.mem_cons, List.not_mem_nil, or_false]
        exact h1
      refine ⟨?_, fun p hp => ?_, fun b hb1 hb3 v hv => ?_⟩
      · show IsG _ (low - 1) ((Int.gcd _ a : Nat) : Int)
        by_cases c1 : f > l
        · rw [if_pos c1, Int.gcd_zero_left]
          have := ia.1
          rw [show ((a.natAbs : Nat) : Int) = a by omega]
          refine isG_down ia (by omega) fun x x1 x2 => ?_
          by_cases c : x < f
          · exact noF x (by omega) c x2
          · exact no x (by omega) (by omega) x2
        · rw [if_neg c1]
          by_cases c2 : f < l
          · rw [if_pos c2]
            obtain ⟨u, hu⟩ := mul_dvd.mp l2
            obtain ⟨w, hw⟩ := mul_dvd.mp f2
            have fl2 : f ≤ l - m := by
              rw [hu, hw] at c2
              have := Int.lt_of_mul_lt_mul_left c2 (by omega)
              rw [hu, hw, show (m : Int) * u - m = m * (u - 1) by rw [Int.mul_sub, Int.mul_one]]
              exact Int.mul_le_mul_of_nonneg_left (by omega) (by omega)
            have pl2 : fitsAll rs (l - m) = true := (h _ (by omega) (by omega)).mpr ⟨hm0, mul_dvd.mpr (Int.dvd_sub (mul_dvd.mp l2) (Int.dvd_refl _))⟩
            -- all above low - 1: those of this part are multiples of m
            have gg := g2 (by omega) (l - m) (Int.le_refl _) (by omega) (by omega)
            refine ⟨Int.natCast_nonneg _, fun d => Int.dvd_coe_gcd_iff.trans ⟨fun ⟨d1, d2⟩ x x1 x2 => ?_, fun g => ⟨?_, ?_⟩⟩⟩
            · by_cases x3 : x ≤ high
              · exact Int.dvd_trans d1 (mul_dvd.mp ((h x (by omega) x3).mp x2).2)
              · exact (ia.2 d).mp d2 x (by omega) x2
            · have e1 := g (l - m) (by omega) pl2
              have e2 := g l (by omega) (fl (by omega))
              have e3 : d ∣ l - (l - m) := Int.dvd_sub e2 e1
              rw [show l - (l - m) = (m : Int) by omega] at e3
              exact e3
            · exact (ia.2 d).mpr fun x x1 x2 => g x (by omega) x2
          · rw [if_neg c2]
            have e1 : f = l := by omega
            have gg := isG_add (gl l (by omega) (Int.le_refl _) l1) (show low - 1 < l by omega) (fl (by omega)) fun x x1 x2 => noF x (by omega) (by omega) (by omega)
            rw [Int.gcd_comm]
            exact gg
      · rcases List.mem_append.mp hp with hp | hp
        · obtain ⟨s1, s2⟩ := is p hp
          exact ⟨by omega, s2⟩
        · obtain ⟨h1, h2⟩ := memT p hp
          refine ⟨h2, ?_⟩
          rcases h1 with rfl | rfl
          · exact gl l (by have : low ≤ l := h2; omega) (Int.le_refl _) l1
          · have : low ≤ l - m := h2
            exact g2 (by omega) _ (Int.le_refl _) (by omega) (by show l - (m : Int) < l; omega)
      · by_cases c : high < b
        · exact ic b (by omega) (fun p hp => hb3 p (List.mem_append_left _ hp)) v hv
        · refine isG_up hv fun pb d hd => ?_
          have d1 := mul_dvd.mp ((h b hb1 (by omega)).mp pb).2
          have n1 : b ≠ l := fun e => hb3 (l, a) (List.mem_append_right _ (inT _ (Or.inl rfl) (by show low ≤ l; omega))) e.symm
          have n2 : b ≠ l - m := fun e => hb3 (l - m, _) (List.mem_append_right _ (inT _ (Or.inr rfl) (by show low ≤ l - m; omega))) e.symm
          have n3 : b ≤ l := by
            by_cases c3 : l < b
            · rw [no b hb1 c3 (by omega)] at pb
              cases pb
            · omega
          obtain ⟨u, hu⟩ := mul_dvd.mp l2
          obtain ⟨w, hw⟩ := d1
          have n4 : b + m + m ≤ l := by
            have y1 : (m : Int) * w < m * u := by rw [← hu, ← hw]; omega
            have y2 := Int.lt_of_mul_lt_mul_left y1 (by omega)
            have y3 : w ≠ u - 1 := fun e => n2 (by rw [hw, hu, e, Int.mul_sub, Int.mul_one])
            rw [hw, hu, show (m : Int) * w + m + m = m * (w + 2) by rw [Int.mul_add]; omega]
            exact Int.mul_le_mul_of_nonneg_left (by omega) (by omega)
          have dm : (m : Int) ∣ b := ⟨w, hw⟩
          have p1 := hd (b + m) (by omega) ((h _ (by omega) (by omega)).mpr ⟨hm0, mul_dvd.mpr (Int.dvd_add dm (Int.dvd_refl _))⟩)
          have p2 := hd (b + m + m) (by omega) ((h _ (by omega) (by omega)).mpr ⟨hm0, mul_dvd.mpr (Int.dvd_add (Int.dvd_add dm (Int.dvd_refl _)) (Int.dvd_refl _))⟩)
          have p3 : d ∣ (m : Int) := (Int.dvd_add_right p1).mp p2
          exact (Int.dvd_add_left p3).mp p1
    · have hmz : m = 0 := by omega
      rw [if_neg (by omega)]
      have no : ∀ x, low ≤ x → x ≤ high → fitsAll rs x = false := fun x x1 x2 => Bool.eq_false_iff.mpr fun z => hm0 ((h x x1 x2).mp z).1
      have hc : commonP low high m = 0 := by
        unfold commonP
        rw [if_pos (Or.inl hmz), hmz]
        rfl
      rw [hc, Int.gcd_zero_left]
      have := ia.1
      rw [show ((a.natAbs : Nat) : Int) = a by omega]
      refine ⟨isG_down ia (by omega) fun x x1 x2 => no x (by omega) x2, fun p hp => ⟨by have := (is p hp).1; omega, (is p hp).2⟩, fun b hb1 hb3 v hv => ?_⟩
      by_cases c : high < b
      · exact ic b (by omega) hb3 v hv
      · exact isG_up hv fun pb d hd => by
          rw [no b hb1 (by omega)] at pb
          cases pb
/-- the law's own ladder -/
theorem lad_parts {rs : List Rule} {ps : List Part} (h : PartsFrom rs 1 ps) {S : List Rule} (hp : S.Perm ((ladP ps).1 ++ [(0, (ladP ps).2)])) (hs : SortedR S) : IsLad (fitsAll rs) (chgs 1 S) := by
  obtain ⟨ia, is, ic⟩ := ladP_ok h
  have hg : ∀ p ∈ S, 0 ≤ p.1 ∧ IsG (fitsAll rs) p.1 p.2 := fun p h => by
    rcases List.mem_append.mp (hp.mem_iff.mp h) with h | h
    · exact ⟨by have := (is p h).1; omega, (is p h).2⟩
    · rw [List.mem_singleton.mp h]
      exact ⟨Int.le_refl _, ia⟩
  refine lad_of_spots (wasc_of hs fun p h => (hg p h).2) hg ⟨(0, (ladP ps).2), hp.mem_iff.mpr (List.mem_append_right _ (List.mem_singleton_self _)), rfl⟩ fun b hb hn => ic b hb fun p h => hn p (hp.mem_iff.mpr (List.mem_append_left _ h))
theorem ceil_eq {m : Nat} (hm : 0 < m) (s : Int) : -((-s) / (m : Int)) * (m : Int) = firstMul m s := by
  unfold firstMul
  congr 1
  have hc : (0 : Int) < m := by omega
  have h1 := Int.emod_add_mul_ediv (-s) m
  have h2 := Int.emod_nonneg (-s) (show (m : Int) ≠ 0 by omega)
  have h3 := Int.emod_lt_of_pos (-s) hc
  have e := (Int.ediv_emod_unique (a := s + (m : Int) - 1) (b := (m : Int)) (r := (m : Int) - 1 - (-s) % (m : Int)) (q := -((-s) / (m : Int))) hc).mpr ⟨by
    rw [Int.mul_neg]
    omega, by omega, by omega⟩
  exact e.1.symm
/-! ### steps of great scales -/
def sp_law_common (K : PySem.W.Frag) : Sp := SpA K fun _ Γ as k => ∃ (low high : Int) (m : Nat), as = [dI low, dI high, dI (m : Int)] ∧ 1 ≤ low ∧ low ≤ 10 ^ 60 + 1 ∧ -1 ≤ high ∧ high ≤ 10 ^ 60 ∧ m < 2 ^ 8001 ∧ k (dI (commonP low high m)) Γ
def sp_law_ladder (K : PySem.W.Frag) : Sp := SpA K fun _ Γ as k => ∃ rs, as = [.dat (scaleD rs)] ∧ RulesG 40 rs ∧ ∀ L, IsLad (fitsAll rs) L → k (.dat (scaleD L)) Γ
def sp_law_falling (K : PySem.W.Frag) : Sp := SpA K fun dk Γ as k => ∃ d l, as = [.ref d] ∧ dk = some (d, l) ∧ ∀ rs, RulesG 40 rs → StepsIn rs → rs ≠ [] → k (.dat (scaleD rs)) Γ
section
variable {X : EC} {A : AE} {Γ Γ' : G} {Q : AV → G → Prop} {tr : TA} {E : XK} {ds es : List D} {p : Addr}
theorem op_catA2 (hl : ds.length + es.length ≤ 10000) (q : Q (.dat (.tuple (ds ++ es))) Γ) : Op X Γ (rCatA X.K) (.dat (.tuple ds)) (.dat (.tuple es)) Q := fun x y H Δ R sb hS r1 r2 k => by
  obtain ⟨a, rfl⟩ := Dv.isRef hS r1 trivial
  obtain ⟨b, rfl⟩ := Dv.isRef hS r2 trivial
  obtain ⟨xs, h1, e1, Δ1, rfl, hS1, hv⟩ := (hS.also r1).tupAt (List.mem_cons_self ..)
  have s1 : Sub Δ (xs.zip ds ++ (V.ref a, PyData.tuple ds) :: Δ) := fun x hx => List.mem_append_right _ (List.mem_cons_of_mem _ hx)
  obtain ⟨ys, h2, e2, Δ2, rfl, hS2, hw⟩ := (hS1.also (Dv.sub s1 r2)).tupAt (List.mem_cons_self ..)
  have s2 : Sub (xs.zip ds ++ (V.ref a, PyData.tuple ds) :: Δ) (ys.zip es ++ (V.ref b, PyData.tuple es) :: (xs.zip ds ++ (V.ref a, PyData.tuple ds) :: Δ)) := fun x hx => List.mem_append_right _ (List.mem_cons_of_mem _ hx)
  refine ⟨a, b, xs, ys, rfl, rfl, h1, h2, by rw [e1, e2]; exact Nat.le_trans hl (by decide), fun z => ?_, fun z1 z => ?_, fun _ _ t ht => ?_⟩
  · have : ds = [] := List.length_eq_zero_iff.mp (by rw [← e1, z]; rfl)
    subst this
    exact k _ _ _ _ _ q .rfl' hS r2
  · have : es = [] := List.length_eq_zero_iff.mp (by rw [← e2, z]; rfl)
    subst this
    rw [List.append_nil] at q
    exact k _ _ _ _ _ q .rfl' hS r1
  · exact k _ _ _ _ _ q (s1.trans (s2.trans (Sub.cons .rfl'))) (hS2.tup ht (dvs_app (hv.sub s2) hw)) (Dv.of (List.mem_cons_self ..))
theorem cb_listTD (q : Q (.dat (.list ds)) Γ) : Cb X Γ (fun xs H Q => ∃ p ys, xs = [.ref p] ∧ (SqL X.K H p ys ∨ SqT X.K H p ys) ∧ ∀ l, H l = none → Q (.ref l) (upd H l (.lst ys))) [.dat (.tuple ds)] Q := fun xs H Δ R sb hS rl k => by
  obtain ⟨_, rfl, r1⟩ := rl.one
  obtain ⟨a, rfl⟩ := Dv.isRef hS r1 trivial
  obtain ⟨vs, hT, hl, Δ', rfl, hS', hv⟩ := (hS.also r1).tupAt (List.mem_cons_self ..)
  exact ⟨a, vs, rfl, Or.inr hT, fun l hl => k _ _ _ _ _ q (fun x hx => List.mem_cons_of_mem _ (List.mem_append_right _ (List.mem_cons_of_mem _ hx))) (hS'.lst hl hv) (Dv.of (List.mem_cons_self ..))⟩
theorem ev_parts (h : EvA X A Γ tr fun as Γ1 => ∃ rs, as = [.dat (scaleD rs)] ∧ RulesG 40 rs ∧ ∀ p ps, ps.length ≤ 41 → PartsFrom rs 1 ps → Q (.ref p) ((p, ps.map partD) :: Γ1)) : Ev X A Γ (tCall (sp_law_parts X.K) [] E tr) Q := fun σ H Δ R sb hS hE k =>
  h σ H Δ _ sb hS hE fun as Γ1 vs H1 Δ1 q s hS1 ra => by
    obtain ⟨rs, rfl, hOk, q⟩ := q
    obtain ⟨x, rfl, r1⟩ := ra.one
    obtain ⟨a, rfl⟩ := Dv.isRef hS1 r1 trivial
    exact ⟨X.dk, Γ1, _, a, rs, rfl, hS1.also r1, List.mem_cons_self .., hOk, fun H' p ps h1 h2 hS' => k _ _ _ H' _ (q p ps h1 h2) (s.trans (Sub.cons .rfl')) hS' rfl⟩
theorem ev_mixed (h : EvA X A Γ tr fun as Γ1 => ∃ d l ds, as = [.ref d, .dat (.list ds)] ∧ X.dk = some (d, l) ∧ Lay 60 ds ∧ ds.length ≤ 10000 ∧ ∀ p es, es.Perm ds → Q (.ref p) ((p, es) :: Γ1)) : Ev X A Γ (tCall (sp_law_mixed X.K) [] E tr) Q := fun σ H Δ R sb hS hE k =>
  h σ H Δ _ sb hS hE fun as Γ1 vs H1 Δ1 q s hS1 ra => by
    obtain ⟨d, l, ds, rfl, hd, h1, h2, q⟩ := q
    obtain ⟨x, y, rfl, r1, r2⟩ := ra.two
    obtain rfl := r1
    obtain ⟨a, rfl⟩ := Dv.isRef hS1 r2 trivial
    have hS2 := hS1.also r2
    rw [hd] at hS2 k
    exact ⟨d, l, a, ds, Γ1, _, rfl, hS2, List.mem_cons_self .., h1, h2, fun H' p es hp hS' => k _ _ _ H' _ (q p es hp) (s.trans (Sub.cons .rfl')) hS' rfl⟩
theorem ev_great (h : EvA X A Γ tr fun as Γ1 => ∃ d l m, as = [.ref d, dI m] ∧ X.dk = some (d, l) ∧ 1 ≤ m ∧ m ≤ 40 ∧ ∀ rs, RulesG 40 rs → StepsIn rs → rs ≠ [] → Q (.dat (scaleD rs)) Γ1) : Ev X A Γ (tCall (sp_law_greatS X.K) [] E tr) Q := fun σ H Δ R sb hS hE k =>
  h σ H Δ _ sb hS hE fun as Γ1 vs H1 Δ1 q s hS1 ra => by
    obtain ⟨d, l, m, rfl, hd, h1, h2, q⟩ := q
    obtain ⟨x, y, rfl, r1, r2⟩ := ra.two
    obtain rfl := r1
    obtain rfl := r2.isI hS1
    rw [hd] at hS1 k
    exact ⟨d, l, m, Γ1, Δ1, rfl, hS1, h1, h2, fun H' v rs g1 g2 g3 hS' => k _ _ _ H' _ (q rs g1 g2 g3) (s.trans (Sub.cons .rfl')) hS' (Dv.of (List.mem_cons_self ..))⟩
theorem ev_raised (h : EvA X A Γ tr fun as Γ1 => ∃ (b : Int) (t : Nat), as = [dI b, dI (t : Int)] ∧ 0 ≤ b ∧ b < 2 ^ 7 ∧ t ≤ 1000 ∧ Q (dI (b ^ t)) Γ1) : Ev X A Γ (tCall (sp_law_raised X.K) [] E tr) Q := fun σ H Δ R sb hS hE k =>
  h σ H Δ _ sb hS hE fun as Γ1 vs H1 Δ1 q s hS1 ra => by
    obtain ⟨b, t, rfl, h1, h2, h3, q⟩ := q
    obtain ⟨x, y, rfl, r1, r2⟩ := ra.two
    obtain rfl := r1.isI hS1
    obtain rfl := r2.isI hS1
    exact ⟨b, t, rfl, h1, h2, h3, k _ _ _ _ Δ1 q s hS1 (Dv.int _)⟩
theorem ev_serr (h : EvA X A Γ tr fun as Γ1 => ∃ rs, as = [.dat (scaleD rs)] ∧ rs.length ≤ 40 ∧ Q (.dat (serrD rs)) Γ1) : Ev X A Γ (tCall (spscale_error X.K) [] E tr) Q := fun σ H Δ R sb hS hE k =>
  h σ H Δ _ sb hS hE fun as Γ1 vs H1 Δ1 q s hS1 ra => by
    obtain ⟨rs, rfl, hl, q⟩ := q
    obtain ⟨x, rfl, r1⟩ := ra.one
    obtain ⟨a, rfl⟩ := Dv.isRef hS1 r1 trivial
    exact ⟨X.dk, Γ1, _, a, rs, rfl, hS1.also r1, List.mem_cons_self .., hl, fun H' v hS' => k _ _ _ H' _ q (s.trans ((Sub.cons .rfl').trans (Sub.cons .rfl'))) hS' (Dv.of (List.mem_cons_self ..))⟩
end
theorem lcmAll_dvd {T : Nat} : ∀ {L : List Rule} {c : Nat}, c ∣ T → (∀ r ∈ L, r.2 = 0 ∨ r.2.natAbs ∣ T) → lcmAll c L ∣ T
  | [], c, h, _ => h
  | r :: L, c, h, hr => by
    show lcmAll (if r.2 = 0 then c else Nat.lcm c r.2.natAbs) L ∣ T
    by_cases e : r.2 = 0
    · rw [if_pos e]
      exact lcmAll_dvd h fun q hq => hr q (List.mem_cons_of_mem _ hq)
    · rw [if_neg e]
      exact lcmAll_dvd (Nat.lcm_dvd h ((hr r (List.mem_cons_self ..)).resolve_left e)) fun q hq => hr q (List.mem_cons_of_mem _ hq)
theorem good_none {L : List Rule} (h : ∀ r ∈ L, goodR r = true) : firstIll L = none := by
  induction L with
  | nil => rfl
  | cons r L ih =>
    show (if goodR r = true then (firstIll L).map (· + 1) else some 0) = none
    rw [if_pos (h r (List.mem_cons_self ..)), ih fun q hq => h q (List.mem_cons_of_mem _ hq)]
    rfl
/-- nothing is wrong with a scale -/
theorem serr_ok {L : List Rule} (h : ∀ r ∈ L, 0 ≤ r.1 ∧ r.1 ≤ 10 ^ 60 ∧ (r.2 = 0 ∨ (2 ≤ r.2 ∧ r.2 ≤ 10 ^ 60))) {T : Int} (h1 : 1 ≤ T) (h2 : T ≤ 10 ^ 60) (hT : ∀ r ∈ L, r.2 = 0 ∨ r.2 ∣ T) : serrD L = .none := by
  unfold serrD
  rw [good_none fun r hr => by
    obtain ⟨a, b, c⟩ := h r hr
    unfold goodR
    rcases c with c | ⟨c, d⟩
    · rw [decide_eq_true a, decide_eq_true b, decide_eq_true c]; rfl
    · rw [decide_eq_true a, decide_eq_true b, decide_eq_true c, decide_eq_true d, Bool.or_comm]; rfl]
  have := lcmAll_dvd (T := T.natAbs) (L := L) (c := 1) (Nat.one_dvd _) fun r hr => (hT r hr).imp id Int.natAbs_dvd_natAbs.mpr
  have := Nat.le_of_dvd (by omega) this
  show (if ((lcmAll 1 L : Nat) : Int) > 10 ^ 60 then _ else _) = _
  rw [if_neg (by omega)]
/-- how great the pairs of a ladder are -/
theorem lad_small {rs L : List Rule} (h : RulesG 40 rs) (hM : StepsIn rs) (hL : IsLad (fitsAll rs) L) (hb : ∀ p ∈ L, p.1 ≤ 10 ^ 60) : ∀ p ∈ L, 0 ≤ p.1 ∧ p.1 ≤ 10 ^ 60 ∧ (p.2 = 0 ∨ (2 ≤ p.2 ∧ p.2 ≤ 10 ^ 60)) ∧ 0 ≤ p.2 ∧ p.2 ≤ 10 ^ 60 := fun p hp => by
  obtain ⟨M, M1, M2, M3⟩ := hM
  have h1 := hL.pos p hp
  have h3 := isG_small h1 (fun r hr => (h.2 r hr).2.1) M1 M3 (hL.at hp)
  have h4 := lad_two hL p hp
  have h5 := (hL.at hp).1
  have h6 := hb p hp
  have e : (0 : Int) ≤ 10 ^ 60 := by decide
  refine ⟨h1, h6, ?_, h5, ?_⟩ <;> omega
theorem sm_ladder {L : List Rule} (hl : L.length ≤ 81) (h : ∀ p ∈ L, 0 ≤ p.1 ∧ p.1 ≤ 10 ^ 60 ∧ 0 ≤ p.2 ∧ p.2 ≤ 10 ^ 60) : Sm 100000 2 (scaleD L) := by
  have e : (10 : Int) ^ 60 < 10 ^ 570 := by decide +kernel
  refine (sm_tuple (n := 1147) (k := 1) (ds := L.map ruleD) fun d hd => ?_).mono (by rw [List.length_map]; omega) (Nat.le_refl _)
  obtain ⟨p, hp, rfl⟩ := List.mem_map.mp hd
  obtain ⟨p1, p2, p3, p4⟩ := h p hp
  refine sm_tuple (n := 570) (k := 0) (ds := [.int p.1, .int p.2]) fun d hd => ?_
  simp only [List.mem_cons, List.not_mem_nil, or_false] at hd
  rcases hd with rfl | rfl
  · exact sm_int p1 (by omega)
  · exact sm_int p3 (by omega)
end EE

/-! tuple * int, also by none and by one -/
namespace L2
open PySem PySem.Spec PyProof.Rows
theorem tuple_mulW0 (l : Addr) (items : Array Value) (n : Nat) (dd : Option Addr) (sl : Array (Option Value)) (u : Tok) (he : items.isEmpty = false) :
    Meets (Builtin.«tuple.__mul__» ⟨[.ref l, .int 0 u], []⟩) (fun _ R s => s.heap.get? l = some { cls := .type "tuple", dict := dd, data := .seq items n, slots := sl } ∧
      R (.ok (.ret (Value.ref s.heap.objs.size))) { s with heap := s.heap.push { cls := Value.type "tuple", data := Data.seq #[] }, toks := s.toks }) :=
  .of_wp fun prog w A R s h => by
    obtain ⟨hp, g, d, tk, os⟩ := s
    obtain ⟨hl, h⟩ := h
    have f1 := AutoSeq1.idx_int
    wp_walk using wpAny_loadPart' hl
    exact ⟨_, rfl, h⟩
theorem tuple_mulW1 (l : Addr) (items : Array Value) (n : Nat) (dd : Option Addr) (sl : Array (Option Value)) (u : Tok) :
    Meets (Builtin.«tuple.__mul__» ⟨[.ref l, .int 1 u], []⟩) (fun _ R s => s.heap.get? l = some { cls := .type "tuple", dict := dd, data := .seq items n, slots := sl } ∧
      R (.ok (.ret (Value.ref l))) s) :=
  .of_wp fun prog w A R s h => by
    obtain ⟨hp, g, d, tk, os⟩ := s
    obtain ⟨hl, h⟩ := h
    have f1 := AutoSeq1.idx_int
    wp_walk using wpAny_loadPart' hl
    exact ⟨_, rfl, h⟩
def rRepA (K : PySem.W.Frag) : R2 := fun x y H Q => ∃ l k xs, x = .ref l ∧ y = .int k ∧ SqT K H l xs ∧ xs ≠ [] ∧ 0 ≤ k ∧ k ≤ 1000 ∧ xs.length ≤ 1000 ∧ (k = 1 → Q (.ref l) H) ∧ (k ≠ 1 → ∀ p, H p = none → Q (.ref p) (upd H p (.tup (List.replicate k.toNat xs).flatten)))
section
variable {X : Cx}
theorem op_repA : OpR X (binaryOp .Mult) (rRepA X.K) := by
  intro pins s σ H x y v u Q I rx ry h
  obtain ⟨l, k, xs, rfl, rfl, hT, hne, h1, h2, hz, q1, q2⟩ := h
  by_cases k2 : 2 ≤ k
  · exact op_repT pins s σ H _ _ v u Q I rx ry ⟨l, k, xs, rfl, rfl, hT, hne, k2, h2, hz, q2 (by omega)⟩
  cases rx
  obtain ⟨t, rfl⟩ := ry
  obtain ⟨its, r, ⟨⟨cls, dd, data, sl⟩, ho, hc, n, hd⟩, hs⟩ := I.tuple hT
  simp only at hc hd
  subst hc hd
  have hle : its.length = xs.length := r.length.symm
  have hn : its ≠ [] := fun e => hne (by
    rw [e] at hle
    exact List.eq_nil_of_length_eq_zero hle.symm)
  have hi : its.toArray.isEmpty = false := by
    cases its with
    | nil => exact absurd rfl hn
    | cons a b => rfl
  have hk : k = 0 ∨ k = 1 := by omega
  rcases hk with rfl | rfl
  · refine wpAny_binaryOp_repeat_ref (T := "tuple") (U := "int") (by decide) ⟨_, ho, rfl⟩ (fun s' => typeIs_int s' 0 t) noFill_tuple_mul F.fills_int_mul F.slot_int_rmul repeat_tuple F.slot_int_index.lookup
      (call_meets F.slot_int_rmul (typeIs_int s 0 t) F.entry_int_rmul (F.args_int_rmul_2 _ _) (int_rmul_tuple 0 t l its.toArray n dd sl)
        ⟨ho, rfl, ⟨_, ho, rfl⟩, call_meets F.slot_tuple_mul ⟨_, ho, rfl⟩ F.entry_tuple_mul (F.args_tuple_mul_2 _ _) (tuple_mulW0 l its.toArray n dd sl t hi) ⟨ho, ?_⟩⟩)
    refine ⟨.ref s.heap.objs.size, _, I.laid (t' := s.toks) (o := .tup []) (fun b ob q => Heap.get?_push_of_some _ q) (Nat.le_refl _) ?_, rfl, q2 (by decide) _ (I.hok.fresh (Nat.le_refl _))⟩
    exact ⟨Nat.zero_le _, _, .nil, IsTup.new _ _⟩
  · refine wpAny_binaryOp_repeat_ref (T := "tuple") (U := "int") (by decide) ⟨_, ho, rfl⟩ (fun s' => typeIs_int s' 1 t) noFill_tuple_mul F.fills_int_mul F.slot_int_rmul repeat_tuple F.slot_int_index.lookup
      (call_meets F.slot_int_rmul (typeIs_int s 1 t) F.entry_int_rmul (F.args_int_rmul_2 _ _) (int_rmul_tuple 1 t l its.toArray n dd sl)
        ⟨ho, rfl, ⟨_, ho, rfl⟩, call_meets F.slot_tuple_mul ⟨_, ho, rfl⟩ F.entry_tuple_mul (F.args_tuple_mul_2 _ _) (tuple_mulW1 l its.toArray n dd sl t) ⟨ho, ?_⟩⟩)
    exact ⟨.ref l, _, I, rfl, q1 rfl⟩
end
end L2
namespace EE
open PySem PySem.Spec PyProof.Rows L2
section
variable {X : EC} {A : AE} {Γ Γ' : G} {Q : AV → G → Prop} {ds es : List EE.D} {d e : EE.D} {i j : Int} {te ta tb : TE} {tr : TA}
theorem op_repT1 {k : Int} (h0 : 0 ≤ k) (h1 : k ≤ 1000) (q : Q (.dat (.tuple (List.replicate k.toNat d))) Γ) : Op X Γ (rRepA X.K) (.dat (.tuple [d])) (dI k) Q := fun x y H Δ R sb hS r1 r2 kk => by
  obtain rfl := r2.isI hS
  obtain ⟨a, rfl⟩ := Dv.isRef hS r1 trivial
  obtain ⟨xs, hT, e1, Δ1, rfl, hS1, hv⟩ := (hS.also r1).tupAt (List.mem_cons_self ..)
  obtain ⟨v, rfl⟩ : ∃ v, xs = [v] := by
    match xs, e1 with
    | [v], _ => exact ⟨v, rfl⟩
  have s1 : Sub Δ ([v].zip [d] ++ (V.ref a, PyData.tuple [d]) :: Δ) := fun x hx => List.mem_append_right _ (List.mem_cons_of_mem _ hx)
  refine ⟨a, k, [v], rfl, rfl, hT, List.cons_ne_nil _ _, h0, h1, by show 1 ≤ 1000; decide, fun e => ?_, fun e p hp => ?_⟩
  · subst e
    exact kk _ _ _ _ _ q .rfl' hS r1
  · have ev : ∀ n, (List.replicate n [v]).flatten = List.replicate n v := fun n => by
      induction n with
      | zero => rfl
      | succ n ih => rw [List.replicate_succ, List.flatten_cons, ih]; rfl
    have hw : ∀ n, DvAll ([v].zip [d] ++ (V.ref a, PyData.tuple [d]) :: Δ) (List.replicate n v) (List.replicate n d) := fun n => by
      cases hv with
      | cons hd _ =>
        induction n with
        | zero => exact .nil
        | succ n ih => exact .cons hd ih
    rw [ev]
    exact kk _ _ _ _ _ q (s1.trans (Sub.cons .rfl')) (hS1.tup hp (hw _)) (Dv.of (List.mem_cons_self ..))
theorem dps_strs {K : PySem.W.Frag} {H : Hp} {vs : List V} {ws : List Str} (h : DpAll K H vs (ws.map PyData.str)) : vs = ws.map V.str := by
  induction ws generalizing vs with
  | nil => cases h; rfl
  | cons w ws ih =>
    cases h with
    | cons h1 h2 =>
      cases h1
      rw [ih h2]
      rfl
theorem inV_strs {ws : List Str} {x : Str} : inV (.str x) (ws.map V.str) = ws.contains x := by
  unfold inV
  rw [List.any_map]
  induction ws with
  | nil => rfl
  | cons n ns ih =>
    rw [List.any_cons, List.contains_cons, ih]
    congr 1
    show (n == x) = (x == n)
    by_cases e : n = x
    · subst e; rfl
    · rw [beq_eq_false_iff_ne.mpr e, beq_eq_false_iff_ne.mpr (Ne.symm e)]
theorem op_inStrT {ws : List Str} {x : Str} {neg : Bool} (q : Q (dB (if neg then !ws.contains x else ws.contains x)) Γ) : Op X Γ (rIn X.K neg) (dS x) (.dat (.tuple (ws.map PyData.str))) Q := fun u v H Δ R sb hS r1 r2 k => by
  obtain rfl := r1.isS hS
  obtain ⟨a, rfl⟩ := Dv.isRef hS r2 trivial
  obtain ⟨vs, hT, hl, Δ', rfl, hS', hv⟩ := (hS.also r2).tupAt (List.mem_cons_self ..)
  obtain rfl : vs = ws.map V.str := by
    obtain ⟨H0, I⟩ := hS'
    exact dps_strs (hv.dp I.data)
  refine ⟨a, _, rfl, Or.inr hT, rfl, ?_, ?_⟩
  · rw [List.all_map, List.all_eq_true]
    intro n _
    rfl
  · rw [inV_strs]
    exact k _ _ _ _ Δ q .rfl' hS (Dv.bl _)
end
theorem int_text {i : Int} {k : Nat} (h : i.natAbs < 10 ^ k) (hk : 0 < k) : (Str.ofString (toString i)).length ≤ k + 1 := by
  have pe : ((10 ^ k : Nat) : Int) = 10 ^ k := by push_cast; rfl
  by_cases h0 : 0 ≤ i
  · have := toString_length_le h0 hk (k := k) (by omega)
    omega
  · obtain ⟨m, rfl⟩ : ∃ m : Nat, i = Int.negSucc m := ⟨i.natAbs - 1, by omega⟩
    have := toString_length_le (v := ((m + 1 : Nat) : Int)) (by omega) hk (k := k) (by omega)
    rw [PyProof.Rows.ofString_length] at this ⊢
    have e1 : (toString (Int.negSucc m)).toList = '-' :: (toString ((m + 1 : Nat) : Int)).toList := by
      show ("-" ++ Nat.repr (m + 1)).toList = '-' :: (Nat.repr (m + 1)).toList
      rw [String.toList_append]
      rfl
    rw [e1, List.length_cons]
    omega
end EE

/-! repr of data with integers of up to 4300 figures -/
namespace EE
open PySem PySem.Spec PyProof.Rows L2
mutual
def showZ : PyData → Bool
  | .none | .bool _ | .str _ => true
  | .int i => decide (i.natAbs < 10 ^ 4300)
  | .list xs | .tuple xs => showZs xs
  | .dict _ => false
def showZs : List PyData → Bool
  | [] => true
  | x :: xs => showZ x && showZs xs
end
/-- no limit on digits is set: what the statics tell -/
def DigFree (h : Heap) : Prop := ∀ M : Model, PySem.W.Looks M h (nsGet cStatics "sys.int_max_str_digits") none
theorem DigFree.keeps {h h' : Heap} (x : DigFree h) (k : ∀ b o, h.get? b = some o → h'.get? b = some o) : DigFree h' := fun M => (x M).keeps k
theorem digits_none {M : Model} {A : Around} {E : Value → Shared → Prop} {s : Shared} {a : Int} {Q : Option Nat → Shared → Prop} (hn : DigFree s.heap) (h1 : a.natAbs < 10 ^ 4300) (q : Q none s) : wpAny M A (Builtin.overDigitLimit? a) Q E s := by
  have hi : (10 : Nat) ^ 4300 ≤ 2 ^ 14300 := by decide +kernel
  generalize hP : 10 ^ 4300 = P at h1 hi
  unfold Builtin.overDigitLimit?
  by_cases hs : a.natAbs.log2 < 1920
  · rw [if_pos hs]
    exact wpAny_pure q
  · rw [if_neg hs]
    unfold Builtin.intMaxStrDigits
    refine wpAny_bind (wpAny_bind ((hn M).here ?_))
    refine wpAny_pure ?_
    have hl : a.natAbs.log2 < 14300 := PySem.Flt.log2_lt_of (by decide) (Nat.lt_of_lt_of_le h1 hi)
    dsimp only
    rw [hP]
    rw [if_neg (by omega)]
    by_cases h3 : a.natAbs.log2 < 3 * 4300
    · rw [if_pos (by simp [h3])]
      exact wpAny_pure q
    · rw [if_neg (by simp [h3]), if_neg (Nat.not_le.mpr h1)]
      exact wpAny_pure q
section
variable {prog : Program} {w : World} {h₀ : Heap}
theorem meets_int_repr (a : Int) (t : Tok) : Meets (Builtin.«int.__repr__» ⟨[.int a t], []⟩) (fun _ R s => DigFree s.heap ∧ a.natAbs < 10 ^ 4300 ∧ R (.ok (.ret (.str (toString a) s.toks))) { s with toks := s.toks + 1 }) :=
  .of_wp fun prog w A R s h => by
    obtain ⟨hn, ha, h⟩ := h
    unfold Builtin.«int.__repr__»
    show wpAny _ _ (do let r ← Builtin.overDigitLimit? a; _) _ _ s
    refine wpAny_bind (digits_none hn ha ?_)
    exact wpAny_bind (wpAny_mkStr (wpAny_pure ⟨_, rfl, h⟩) (int_text_fits10 ha))
theorem pyReprObj_intZ {A : Around} {E : Value → Shared → Prop} {s : Shared} {a : Int} {t : Tok} {Q : Value → Shared → Prop} (hn : DigFree s.heap) (ha : a.natAbs < 10 ^ 4300) (h : Q (.str (toString a) s.toks) { s with toks := s.toks + 1 }) : wpAny (model prog w) A (pyReprObj (.int a t)) Q E s := by
  have hv : ([Value.int a t] : List Value).any Value.onHeap = false := rfl
  have hT := typeIs_int s a t
  unfold pyReprObj
  simp only [cRoomFor, hv, Bool.false_eq_true, if_false, pure_bind]
  refine wpAny_bind (wpAny_specialOf (name := Str.ofString "__repr__") hT F.slot_int_repr.lookup ?_)
  refine wpAny_bind (m := callSpecialIfBound? (.int a t) (Str.ofString "__repr__")) (wpAny_callSpecialIfBound?_slot (name := Str.ofString "__repr__") hT F.slot_int_repr (call_meets F.slot_int_repr hT F.entry_int_repr (F.args_int_repr_1 _) (meets_int_repr a t) ⟨hn, ha, ?_⟩))
  exact wpAny_bind (wpAny_isInstance (T := "str") (b := true) rfl isSubtype_str_str (wpAny_pure h))
theorem repr_int_big {a : Int} {t : Tok} (hn : DigFree h₀) (ha : a.natAbs < 10 ^ 4300) : ReprK prog w [] h₀ 0 (.int a t) (toString a) := by
  intro base hb A g E s Q hg hc hu hk hQ
  rw [pyReprUnder_leaf (v := .int a t) (by omega) (fun _ e => nomatch e)]
  unfold pyRepr
  exact wpAny_bind (pyReprObj_intZ (hn.keeps hk) ha (wpAny_pure (hQ s.heap _ fun _ _ e => e)))
mutual
theorem reprZ_of : ∀ {v : Value} {d : PyData} {as : List Addr}, Reads h₀ v d as → DigFree h₀ → showZ d = true → d.shown.length ≤ sizeLine → ∃ bs, ReadAtMost h₀ d.depth bs ∧ ReprK prog w bs h₀ d.depth v d.shown
  | _, _, _, .none, hn, _, _ => ⟨[], (fun _ h => nomatch h), by simp only [PyData.shown]; exact .of_is ReprIs.none _ _ _⟩
  | _, _, _, .bool b, hn, _, _ => ⟨[], (fun _ h => nomatch h), by simp only [PyData.shown]; exact .of_is (ReprIs.bool b) _ _ _⟩
  | _, _, _, .int i t, hn, hs, _ => ⟨[], (fun _ h => nomatch h), by simp only [PyData.shown, PyData.depth]; exact repr_int_big hn (by simpa only [showZ, decide_eq_true_eq] using hs)⟩
  | _, _, _, .str x t, hn, _, hz => ⟨[], (fun _ h => nomatch h), by simp only [PyData.shown]; exact .of_is (ReprIs.str x t (by simpa only [PyData.shown] using hz)) _ _ _⟩
  | _, _, _, .list (a := a) (vs := vs) (xs := xs) h1 h2 h3 h4, hn, hs, hz => by
    have hz' : (listText (PyData.shownAll xs)).length ≤ sizeLine := by simpa only [PyData.shown] using hz
    obtain ⟨bs, hb, hk⟩ := reprZ_all h4 hn (by simpa only [showZ] using hs) (fun t ht => Nat.le_trans (listText_mem_le ht) hz')
    have r : Reads h₀ (.ref a) (.list xs) _ := .list h1 h2 h3 h4
    have hna : a ∉ bs := not_mem_of_deeper r (by simp only [PyData.depth]; omega) hb
    refine ⟨a :: bs, ReadAtMost.cons r (by simp only [PyData.depth]; omega) hb, ?_⟩
    simp only [PyData.depth, PyData.shown]
    obtain ⟨l⟩ := vs
    cases l with
    | nil =>
      have h4' : ReadsAll h₀ [] xs _ := h4
      cases h4'
      simp only [PyData.shownAll, listText_nil]
      exact ReprK.listEmpty h1 h2 h3
    | cons x l => exact ReprK.list h1 h2 h3 hna (by simpa using hk.length_eq) (fun i y e => hk.item i y (by simpa using e))
  | _, _, _, .tuple (a := a) (xs := xs) h1 h2 h3 h4, hn, hs, hz => by
    have hz' : (tupleText (PyData.shownAll xs)).length ≤ sizeLine := by simpa only [PyData.shown] using hz
    obtain ⟨bs, hb, hk⟩ := reprZ_all h4 hn (by simpa only [showZ] using hs) (fun t ht => Nat.le_trans (tupleText_mem_le ht) hz')
    have r : Reads h₀ (.ref a) (.tuple xs) _ := .tuple h1 h2 h3 h4
    have hna : a ∉ bs := not_mem_of_deeper r (by simp only [PyData.depth]; omega) hb
    refine ⟨a :: bs, ReadAtMost.cons r (by simp only [PyData.depth]; omega) hb, ?_⟩
    simp only [PyData.depth, PyData.shown]
    exact ReprK.tuple h1 h2 h3 hna hk
  | _, _, _, .dict _ _ _ _ _, hn, hs, _ => by simp only [showZ] at hs; exact absurd hs Bool.false_ne_true
theorem reprZ_all : ∀ {vs : List Value} {ds : List PyData} {as : List Addr}, ReadsAll h₀ vs ds as → DigFree h₀ → showZs ds = true → (∀ t ∈ PyData.shownAll ds, t.length ≤ sizeLine) →
    ∃ bs, ReadAtMost h₀ (PyData.depthAll ds) bs ∧ ReprAllK prog w bs h₀ (PyData.depthAll ds) vs (PyData.shownAll ds)
  | _, _, _, .nil, hn, _, _ => ⟨[], (fun _ h => nomatch h), by simp only [PyData.shownAll]; exact .nil⟩
  | _, _, _, .cons (d := d) (ds := ds) r rs, hn, hs, hz => by
    have hs' : showZ d = true ∧ showZs ds = true := by simpa only [showZs, Bool.and_eq_true] using hs
    obtain ⟨b1, hb1, k1⟩ := reprZ_of r hn hs'.1 (hz _ (by simp only [PyData.shownAll]; exact List.mem_cons_self ..))
    obtain ⟨b2, hb2, k2⟩ := reprZ_all rs hn hs'.2 (fun t ht => hz t (by simp only [PyData.shownAll]; exact List.mem_cons_of_mem _ ht))
    refine ⟨b1 ++ b2, ?_, ?_⟩
    · intro b hm
      simp only [PyData.depthAll]
      rcases List.mem_append.mp hm with hm | hm
      · obtain ⟨d', as', r', hd'⟩ := hb1 b hm
        exact ⟨d', as', r', Nat.le_trans hd' (Nat.le_max_left _ _)⟩
      · obtain ⟨d', as', r', hd'⟩ := hb2 b hm
        exact ⟨d', as', r', Nat.le_trans hd' (Nat.le_max_right _ _)⟩
    · simp only [PyData.depthAll, PyData.shownAll]
      exact .cons ((k1.more fun b hb => List.mem_append_left _ hb).level_le (Nat.le_max_left _ _)) (k2.more_le (fun b hb => List.mem_append_right _ hb) (Nat.le_max_right _ _))
end
variable {a : Addr} {d : PyData} {as : List Addr}
theorem showsBy_Z (r : Reads h₀ (.ref a) d as) (hn : DigFree h₀) (hs : showZ d = true) (hsz : d.shown.length ≤ sizeLine) : ∃ T idr, ShowsBy prog w h₀ a d T idr := by
  cases r with
  | list h1 h2 h3 h4 =>
    rename_i o vs n xs bs₀
    have hz' : (listText (PyData.shownAll xs)).length ≤ sizeLine := by simpa only [PyData.shown] using hsz
    obtain ⟨bs, hb, hk⟩ := reprZ_all (prog := prog) (w := w) h4 hn (by simpa only [showZ] using hs) (fun t ht => Nat.le_trans (listText_mem_le ht) hz')
    have hna : a ∉ bs := not_mem_of_deeper (.list h1 h2 h3 h4) (by simp only [PyData.depth]; omega) hb
    refine ⟨"list", "list.__repr__", F.slot_list_repr.toG, F.slot_list_str, F.slot_list_format, fun s hk0 => ⟨o, hk0 _ _ h1, h2⟩, fun A E s Q hg hu hk0 hQ => ?_⟩
    simp only [PyData.depth] at hu
    simp only [PyData.shown] at hQ
    obtain ⟨l⟩ := vs
    cases l with
    | nil =>
      have h4' : ReadsAll h₀ [] xs _ := h4
      cases h4'
      simp only [PyData.shownAll, listText_nil] at hQ
      exact call_list_repr_empty ⟨o, hk0 _ _ h1, h2⟩ (hk0 _ _ h1) h3 (hQ s.heap _ _ fun _ _ e => e)
    | cons x l =>
      exact call_list_reprK h1 h2 h3 hna (by simpa using hk.length_eq) (fun i y e => hk.item i y (by simpa using e)) hg (fun b _ => Clear.nil b) hu hk0 hQ hz'
  | tuple h1 h2 h3 h4 =>
    rename_i o vs n xs
    have hz' : (tupleText (PyData.shownAll xs)).length ≤ sizeLine := by simpa only [PyData.shown] using hsz
    obtain ⟨bs, hb, hk⟩ := reprZ_all (prog := prog) (w := w) h4 hn (by simpa only [showZ] using hs) (fun t ht => Nat.le_trans (tupleText_mem_le ht) hz')
    have hna : a ∉ bs := not_mem_of_deeper (.tuple h1 h2 h3 h4) (by simp only [PyData.depth]; omega) hb
    refine ⟨"tuple", "tuple.__repr__", F.slot_tuple_repr, F.slot_tuple_str, F.slot_tuple_format, fun s hk0 => ⟨o, hk0 _ _ h1, h2⟩, fun A E s Q hg hu hk0 hQ => ?_⟩
    simp only [PyData.depth] at hu
    simp only [PyData.shown] at hQ
    exact call_tuple_reprK h1 h2 h3 hna hk hg (fun b _ => Clear.nil b) hu hk0 hQ hz'
  | dict _ _ _ _ _ => simp only [showZ] at hs; exact absurd hs Bool.false_ne_true
end
def rReprZ (K : PySem.W.Frag) : List V → Hp → VK → Prop := fun vs H Q => ∃ a d, vs = [.ref a] ∧ Dp K H (.ref a) d ∧ showZ d = true ∧ d.depth ≤ 60 ∧ d.shown.length ≤ sizeLine ∧ Q (.str d.shown) H
theorem call_reprZ {X : Cx} (hg : X.A.guards = some []) (hu : X.A.units + 64 < cLine) (e2 : PySem.W.nsIn X.K cStatics "sys.int_max_str_digits" = some none) : CallR X (.builtin "repr") (rReprZ X.K) := by
  intro pins s σ H xs us Q I r h
  obtain ⟨a, d, rfl, hd, hs, hdp, hz, q⟩ := h
  obtain ⟨u, rfl, ru⟩ := vals1 r
  obtain ⟨as, rd⟩ := Dp.reads I d (.ref a) u hd ru
  cases ru
  have hn : DigFree s.heap := fun M => PySem.W.looks_nsIn I.kIn e2
  obtain ⟨T, idr, S⟩ := showsBy_Z (prog := _) (w := _) rd hn hs hz
  exact call_repr_slot (by omega) (S.typeIs s fun _ _ e => e) S.slotRepr (S.call X.A.in1 _ s _ hg (by show X.A.units + 1 + d.depth < cLine; omega) (fun _ _ e => e) fun h' u tk k => ⟨_, _, rfl, .str d.shown, H, I.kept k, ⟨_, rfl⟩, q⟩)
/-! ### data with great integers: n bounds its text -/
structure SmZ (n k : Nat) (d : D) : Prop where
  show_ : showZ d = true
  deep : d.depth ≤ k
  long : d.shown.length ≤ n
theorem SmZ.mono {n k n' k' : Nat} {d : D} (h : SmZ n k d) (h1 : n ≤ n') (h2 : k ≤ k') : SmZ n' k' d := ⟨h.show_, Nat.le_trans h.deep h2, Nat.le_trans h.long h1⟩
theorem smz_int {i : Int} {k : Nat} (h : i.natAbs < 10 ^ k) (hk : 0 < k) (h2 : k ≤ 4300) : SmZ (k + 1) 0 (.int i : D) := by
  refine ⟨?_, by simp only [PyData.depth]; exact Nat.le_refl 0, ?_⟩
  · simp only [showZ, decide_eq_true_eq]
    exact Nat.lt_of_lt_of_le h (Nat.pow_le_pow_right (by decide) h2)
  · simp only [PyData.shown]
    exact int_text h hk
theorem smz_str {x : Str} {n : Nat} (h : (reprText x).length ≤ n) : SmZ n 0 (.str x : D) := ⟨by simp only [showZ], by simp only [PyData.depth]; exact Nat.le_refl 0, by simp only [PyData.shown]; exact h⟩
theorem smzs_sum {n k : Nat} : ∀ {ds : List D}, (∀ d ∈ ds, SmZ n k d) → showZs ds = true ∧ PyData.depthAll ds ≤ k ∧ ((PyData.shownAll ds).map (·.length)).sum ≤ ds.length * n ∧ (PyData.shownAll ds).length = ds.length
  | [], _ => ⟨by simp only [showZs], by simp only [PyData.depthAll]; exact Nat.zero_le _, by simp [PyData.shownAll], by simp [PyData.shownAll]⟩
  | d :: ds, h => by
    have h1 := h d (List.mem_cons_self ..)
    obtain ⟨a, b, c, f⟩ := smzs_sum fun x hx => h x (List.mem_cons_of_mem _ hx)
    have h1d := h1.deep
    have h1l := h1.long
    refine ⟨by simp only [showZs, h1.show_, a, Bool.and_self], by simp only [PyData.depthAll]; omega, ?_, by simp only [PyData.shownAll, List.length_cons, f]⟩
    simp only [PyData.shownAll, List.map_cons, List.sum_cons, List.length_cons, Nat.add_mul, Nat.one_mul]
    omega
theorem smz_list {n k : Nat} {ds : List D} (h : ∀ d ∈ ds, SmZ n k d) : SmZ (ds.length * (n + 2) + 3) (k + 1) (.list ds : D) := by
  obtain ⟨a, b, c, f⟩ := smzs_sum h
  refine ⟨by simp only [showZ, a], by simp only [PyData.depth]; omega, ?_⟩
  simp only [PyData.shown]
  refine Nat.le_trans (listText_len_le _) ?_
  rw [f, Nat.mul_add]
  omega
theorem smz_tuple {n k : Nat} {ds : List D} (h : ∀ d ∈ ds, SmZ n k d) : SmZ (ds.length * (n + 2) + 3) (k + 1) (.tuple ds : D) := by
  obtain ⟨a, b, c, f⟩ := smzs_sum h
  refine ⟨by simp only [showZ, a], by simp only [PyData.depth]; omega, ?_⟩
  simp only [PyData.shown]
  refine Nat.le_trans (tupleText_len_le _) ?_
  rw [f, Nat.mul_add]
  omega
section
variable {X : EC} {Γ : G} {Q : AV → G → Prop} {d : D}
theorem cb_reprZ {n m : Nat} (hd : Disp d) (sm : SmZ n m d) (hn : n ≤ 16000000) (hk : m ≤ 60) (q : Q (dS d.shown) Γ) : Cb X Γ (rReprZ X.K) [.dat d] Q := fun xs H Δ R sb hS rl k => by
  obtain ⟨_, rfl, r1⟩ := rl.one
  obtain ⟨a, rfl⟩ := Dv.isRef hS r1 hd
  exact ⟨a, d, rfl, hS.dp r1, sm.show_, Nat.le_trans sm.deep hk, Nat.le_trans sm.long (Nat.le_trans hn (by decide)), k _ _ _ _ Δ q .rfl' hS (Dv.str _)⟩
end
/-! ### a def that shows things, called by a def that shows things -/
structure FdG (P : Program) (w : World) (K : PySem.W.Frag) (mg : Str → Option Value) (base : Heap) (x : Str) (k : Nat) (ps : List Str) (sp : Sp) : Prop where
  ex : ∃ (f : Addr) (fd : FuncData), FnG P w K mg base k f fd ps sp ∧ mg x = some (.ref f) ∧ PySem.W.keepIn K (.ref f) = true ∧ Binds K fd ps []
theorem FdG.mk' {P : Program} {w : World} {K : PySem.W.Frag} {mg : Str → Option Value} {base : Heap} {x qual : Str} {st : Stmt} {f : Addr} {fd : FuncData} {k : Nat} {ps : List Str} {sp : Sp} (F : Fun K x qual st f fd) (G : FnG P w K mg base k f fd ps sp) (hm : mg x = some (.ref f)) (hb : Binds K fd ps []) : FdG P w K mg base x k ps sp :=
  ⟨f, fd, G, hm, F.kp, hb⟩
section
variable {X : Cx} {k : Nat} {ps : List Str} {sp : Sp} {x : Str} {p pos : Pos} {e : Expr} {es : List Expr} {t : TA}
theorem pe_fdG (F : FdG X.prog X.w X.K X.mg X.base x k ps sp) (hgd : X.A.guards = some []) (hr : Room k X.A) (hg : Gl X x) (ha : PA X (e :: es) t) (hx : Passes CX0 X E0 := by exact pass0) (hdb : (x == ("__debug__" : Str)) = false := by decide) (he : starEach (e :: es) X.env = (false, eval e X.env) :: starEach es X.env := by rfl)
    (hpl : (backTo pos (starEach es X.env)).any (·.1) = false := by rfl) : PE X (.Call (.Name x p) (e :: es) [] pos) (tCall sp [] E0 t) := by
  obtain ⟨f, fd, G, hm, hk, hb⟩ := F.ex
  refine ⟨fun pins s σ H Q I h => ?_⟩
  refine wpAny_Call_Name_kw (ld_glob I hg hm ?_ hdb)
  refine PySem.W.callWith_K (h₀ := X.base) I.ok.mod.kin hk (thn (ha.run pos pins s σ H _ I h) fun us s1 ⟨vs, H1, I1, r, q⟩ => ⟨I1.kIn, ?_⟩) he hpl
  have q : sp vs H1 Q E0 := by
    have := q
    dsimp only at this
    rwa [List.append_nil] at this
  refine wpAny_call (codeAny_mono (G.run X.A X.stack s1 H1 ⟨us, []⟩ us vs Q E0 hgd hr I1.env0 ?_ r q) fun r s' hq => ?_)
  · have := hb s1 us I1.kIn (by rw [List.append_nil, ← r.length]; exact G.len _ _ _ _ q)
    rwa [List.append_nil] at this
  · cases r with
    | error e => exact hx pins σ H1 s1 e s' I1 hq
    | ok fl =>
      cases fl with
      | ret u => exact I1.after hq
      | next => exact False.elim hq
      | brk => exact False.elim hq
      | cont => exact False.elim hq
end
end EE

/-! t[::-1] of a tuple -/
namespace L2
open PySem PySem.Spec PyProof.Rows HT
section
variable {prog : Program} {w : World} {A : Around} {E : Value → Shared → Prop} {s : Shared}
theorem sliceApplied_rev {sl : Addr} {vs : Value} {n : Nat} {Q : Int × Int × Nat → Shared → Prop} (hs : s.heap.IsSliceOf sl .none .none vs) (ps : IsPart vs (some (-1)))
    (h : Q ((n : Int) - 1, -1, n) s) : wpAny (model prog w) A (Builtin.Slice.sliceApplied (.ref sl) (pure (n : Int))) Q E s := by
  obtain ⟨os, hos, hcs, hds⟩ := id hs
  unfold Builtin.Slice.sliceApplied Builtin.Slice.sliceFields
  refine wpAny_bind (wpAny_bind (wpAny_field hos hds (x := .none) rfl (wpAny_bind (wpAny_field hos hds (x := .none) rfl (wpAny_bind (wpAny_field hos hds (x := vs) rfl (wpAny_pure ?_)))))))
  refine wpAny_bind (slicePart_ ps ?_)
  show wpAny _ _ (if ((-1 : Int) == 0) = true then _ else _) _ _ s
  rw [if_neg (by decide)]
  refine wpAny_bind (slicePart_none (wpAny_bind (slicePart_none (wpAny_bind (wpAny_pure ?_)))))
  show wpAny _ _ (match Builtin.Slice.sliceAdjust none none (-1) (n : Int) with | (lo, hi) => pure (lo, (-1 : Int), Builtin.Slice.slicePlaces lo hi (-1))) _ _ s
  have e1 : Builtin.Slice.sliceAdjust none none (-1) (n : Int) = ((n : Int) - 1, -1) := rfl
  rw [e1]
  show wpAny _ _ (pure ((n : Int) - 1, (-1 : Int), Builtin.Slice.slicePlaces ((n : Int) - 1) (-1) (-1))) _ _ s
  have e2 : Builtin.Slice.slicePlaces ((n : Int) - 1) (-1) (-1) = n := by
    unfold Builtin.Slice.slicePlaces
    have h1 : ¬ ((-1 : Int) > 0) := by decide
    simp only [h1, if_false]
    rw [show (- -1 : Int) = 1 by decide, Int.ediv_one]
    split <;> omega
  rw [e2]
  exact wpAny_pure h
theorem pick_rev (xs : Array Value) : ((List.range xs.size).filterMap fun (m : Nat) => xs[(((xs.size : Int) - 1) + (m : Int) * (-1)).toNat]?).toArray = xs.toList.reverse.toArray := by
  have e : (List.range xs.size).filterMap (fun (m : Nat) => xs[(((xs.size : Int) - 1) + (m : Int) * (-1)).toNat]?) = ((List.range xs.size).map fun k => xs.size - 1 - k).filterMap (xs[·]?) := by
    rw [List.filterMap_map]
    have g : ∀ L : List Nat, (∀ m ∈ L, m < xs.size) → L.filterMap (fun (m : Nat) => xs[(((xs.size : Int) - 1) + (m : Int) * (-1)).toNat]?) = L.filterMap ((fun x => xs[x]?) ∘ fun k => xs.size - 1 - k) := fun L => by
      induction L with
      | nil => intro _; rfl
      | cons m L ih =>
        intro hm
        have h1 := hm m (List.mem_cons_self ..)
        have e2 : (((xs.size : Int) - 1) + (m : Int) * (-1)).toNat = xs.size - 1 - m := by omega
        rw [List.filterMap_cons, List.filterMap_cons, ih fun k hk => hm k (List.mem_cons_of_mem _ hk), e2]
        rfl
    exact g _ fun m hm => List.mem_range.mp hm
  rw [e, PySem.W.krv_range, List.filterMap_reverse, PySem.W.krv_all]
theorem getItem_tuple_rev {t sl : Addr} {items : Array Value} {vs : Value} {Q : Value → Shared → Prop} (ht : IsTup s.heap t items) (hs : s.heap.IsSliceOf sl .none .none vs) (ps : IsPart vs (some (-1)))
    (h : Q (.ref s.heap.objs.size) { s with heap := s.heap.push { cls := .type "tuple", data := .seq items.toList.reverse.toArray } })
    (hsz : items.size ≤ sizeLine) : wpAny (model prog w) A (getItem (.ref t) (.ref sl)) Q E s := by
  have htake : sizeOk (.seq items.toList.reverse.toArray) := by
    show items.toList.reverse.toArray.size ≤ sizeLine
    rw [List.size_toArray, List.length_reverse, Array.length_toList]
    exact hsz
  obtain ⟨os, hos, hcs, hds⟩ := id hs
  have hTs : s.TypeIs (.ref sl) "slice" := ⟨os, hos, hcs⟩
  unfold getItem
  try with_reducible refine wpAny_holding ?_
  first | refine wpAny_bind (wpAny_pure ?_) | skip
  refine wpAny_bind (wpAny_sequenceKey ht.typeIs (by decide) ?_)
  refine wpAny_bind (wpAny_callSpecial?_slot (name := Str.ofString "__getitem__") ht.typeIs PyProof.Rows.slot_tuple_getitem
    (wpAny_call_entry PyProof.Rows.slot_tuple_getitem ht.typeIs entry_tuple_getitem ?_ (args_tuple_getitem _ _)))
  show wpAny _ _ (Builtin.Tuple.tupleItemsOf (.ref t) >>= _) _ _ s
  refine wpAny_bind (tupleItemsOf_ ht ?_)
  refine wpAny_bind (wpAny_typeOf hTs ?_)
  rw [if_pos (by decide)]
  refine wpAny_bind (sliceApplied_rev hs ps ?_)
  have hno : ¬ ((((items.size : Int) - 1) == 0 && (-1 : Int) == 1 && items.size == items.size) = true) := by
    intro q
    rw [Bool.and_eq_true, Bool.and_eq_true] at q
    exact absurd q.1.2 (by decide)
  show wpAny _ _ (if (((items.size : Int) - 1) == 0 && (-1 : Int) == 1 && items.size == items.size) = true then _ else _) _ _ s
  rw [if_neg hno, pick_rev]
  first
    | exact wpAny_bind (m := Builtin.Tuple.tupleExact _) (wpAny_newObj_type (wpAny_pure ⟨_, rfl, wpAny_pure h⟩) htake)
    | exact wpAny_bind (m := Builtin.Tuple.tupleExact _) (wpAny_newObj_type (wpAny_bind (wpAny_pure (wpAny_pure ⟨_, rfl, wpAny_pure h⟩))) htake)
    | exact wpAny_bind (wpAny_bind (m := Builtin.Tuple.tupleExact _) (wpAny_newObj_type (wpAny_pure (wpAny_pure ⟨_, rfl, wpAny_pure h⟩)) htake))
    | exact wpAny_bind (wpAny_bind (m := Builtin.Tuple.tupleExact _) (wpAny_newObj_type (wpAny_pure ⟨_, rfl, wpAny_pure h⟩) htake))
end
section
variable {X : Cx}
def tRevT (K : PySem.W.Frag) (te : TE) : TE := fun σ H Q => te σ H fun x H1 => ∃ a xs, x = .ref a ∧ SqT K H1 a xs ∧ ∀ p, H1 p = none → Q (.ref p) (upd H1 p (.tup xs.reverse))
theorem pe_revT {e : Expr} {te : TE} {k : Nat} {p1 p2 p3 pos : Pos} (he : PE X e te) : PE X (.Subscript e (.Slice none none (some (.UnaryOp .USub (.Constant (.int 1) k p1) p2)) p3) pos) (tRevT X.K te) := by
  refine ⟨fun pins s σ H Q I h => ?_⟩
  refine Subscript_ (thn (he.run pins s σ H _ I h) fun v s1 ⟨x, H1, I1, r1, q1⟩ => ?_)
  obtain ⟨a, xs, ex, hx, q⟩ := q1
  subst ex
  cases r1
  have hst : PO X (some (.UnaryOp .USub (.Constant (.int 1) k p1) p2)) (tPart (tUn (rU fun i => .int (-i)) (tC (.int 1)))) := po_some (pe_un un_neg pe_int)
  refine wpAny_Slice (thn (po_none.run pins s1 σ H1 (fun o H2 => o = none ∧ H2 = H1) I1 ⟨rfl, rfl⟩) fun vl s2 ⟨l, H2, I2, pl, el, e2⟩ => ?_)
  subst el e2
  refine thn (po_none.run pins s2 σ H2 (fun o H3 => o = none ∧ H3 = H2) I2 ⟨rfl, rfl⟩) fun vu s3 ⟨u, H3, I3, pu, eu, e3⟩ => ?_
  subst eu e3
  refine thn (hst.run pins s3 σ H3 (fun o H4 => o = some (-1) ∧ H4 = H3) I3 ⟨1, rfl, -1, rfl, rfl, rfl⟩) fun vs s4 ⟨o, H4, I4, ps, eo, e4⟩ => ?_
  subst eo e4
  cases pl
  cases pu
  have I5 : Inv X pins σ H4 { s4 with heap := s4.heap.push { cls := .type "slice", data := .fields #[.none, .none, vs] } } := I4.kept (t' := s4.toks) fun b ob q => Heap.get?_push_of_some _ q
  obtain ⟨its, r, ht, hz⟩ := I5.tuple hx
  have hlen := r.length
  show wpAny (model X.prog X.w) X.A (subscriptTail e (.Slice none none (some (.UnaryOp .USub (.Constant (.int 1) k p1) p2)) p3) (.ref a) (.ref s4.heap.objs.size)) (EP X pins σ Q) X.xe { s4 with heap := s4.heap.push { cls := .type "slice", data := .fields #[.none, .none, vs] } }
  refine tail_any (ops := [.ref a, .ref s4.heap.objs.size]) ht.typeIs PyProof.Rows.slot_tuple_getitem.lookup ?_ (by with_unfolding_all rfl)
  refine getItem_tuple_rev ht (Heap.IsSliceOf.new _ .none .none vs) ps ?_ (by rw [List.size_toArray]; omega)
  refine ⟨.ref _, _, I5.laid (t' := s4.toks) (o := .tup xs.reverse) (fun b ob q => Heap.get?_push_of_some _ q) (Nat.le_refl _) ?_, rfl, q _ (I5.hok.fresh (Nat.le_refl _))⟩
  exact ⟨by rw [List.length_reverse]; omega, _, r.reverse, IsTup.new _ _⟩
end
end L2
namespace EE
open PySem PySem.Spec PyProof.Rows L2
section
variable {X : EC} {A : AE} {Γ Γ' : G} {Q : AV → G → Prop} {te : TE} {ds : List D} {d : D} {p : Addr} {i : Int}
theorem ev_revT (h : Ev X A Γ te fun a Γ1 => ∃ ds, a = .dat (.tuple ds) ∧ Q (.dat (.tuple ds.reverse)) Γ1) : Ev X A Γ (tRevT X.K te) Q := fun σ H Δ R sb hS hE k =>
  h σ H Δ _ sb hS hE fun a Γ1 v H1 Δ1 q s hS1 ra => by
    obtain ⟨ds, rfl, q⟩ := q
    obtain ⟨b, rfl⟩ := Dv.isRef hS1 ra trivial
    obtain ⟨vs, hT, hl, Δ', rfl, hS', hv⟩ := (hS1.also ra).tupAt (List.mem_cons_self ..)
    exact ⟨b, vs, rfl, hT, fun t ht => k _ _ _ _ _ q (s.trans (fun x hx => List.mem_cons_of_mem _ (List.mem_append_right _ (List.mem_cons_of_mem _ hx)))) (hS'.tup ht (dvs_rev hv)) (Dv.of (List.mem_cons_self ..))⟩
/-- x = y = e -/
theorem do_set2 {i j : Nat} {tz : TS} {E : Ends} (h : Ev X A Γ te fun a Γ' => Do X ((A.set i (some a)).set j (some a)) Γ' tz E) : Do X A Γ (tSeq (tAsg2 te (gName i) (gName j)) tz) E := fun σ H Δ sb hS hE =>
  h σ H Δ _ sb hS hE fun a Γ' v H' Δ' q s hS' ra => q _ H' Δ' (sb.trans s) hS' (((hE.sub s).set ra).set ra)
/-- xs[i] = v -/
theorem do_setAt {tz : TS} {E : Ends} {to ti : TE} (h : Ev X A Γ te fun a Γ1 => Ev X A Γ1 to fun b Γ2 => Ev X A Γ2 ti fun c Γ3 => ∃ d p ds i j Γ4, a = .dat d ∧ b = .ref p ∧ c = dI i ∧ ixN ds.length i = some j ∧ Put Γ3 p ds (ds.set j d) Γ4 ∧ Do X A Γ4 tz E) :
    Do X A Γ (tSeq (tAsg te (gSub to ti rSetL)) tz) E := fun σ H Δ sb hS hE =>
  h σ H Δ _ sb hS hE fun a Γ1 v H1 Δ1 q1 s1 hS1 r1 => q1 σ H1 Δ1 _ (sb.trans s1) hS1 (hE.sub s1) fun b Γ2 u H2 Δ2 q2 s2 hS2 r2 => q2 σ H2 Δ2 _ (sb.trans (s1.trans s2)) hS2 (hE.sub (s1.trans s2)) fun c Γ3 w H3 Δ3 q3 s3 hS3 r3 => by
    obtain ⟨d, p, ds, i, j, Γ4, rfl, rfl, rfl, hj, hp, q⟩ := q3
    obtain rfl := r2
    obtain rfl := r3.isI hS3
    obtain ⟨vs, g1, g2, Δ4, s4, hS4, hv⟩ := hS3.lk hp.lk
    have s14 := s1.trans (s2.trans (s3.trans s4))
    exact ⟨p, vs, i, j, rfl, rfl, g1, by rw [g2]; exact hj, q σ _ Δ4 (sb.trans s14) (hS4.put2 hp (dvs_set (Dv.sub (s2.trans (s3.trans s4)) r1) hv _)) (hE.sub s14)⟩
theorem do_setAtL {E : Ends} {to ti : TE} (h : Ev X A Γ te fun a Γ1 => Ev X A Γ1 to fun b Γ2 => Ev X A Γ2 ti fun c Γ3 => ∃ d p ds i j Γ4, a = .dat d ∧ b = .ref p ∧ c = dI i ∧ ixN ds.length i = some j ∧ Put Γ3 p ds (ds.set j d) Γ4 ∧ Fin X A Γ4 E.nx) :
    Do X A Γ (tAsg te (gSub to ti rSetL)) E := fun σ H Δ sb hS hE =>
  h σ H Δ _ sb hS hE fun a Γ1 v H1 Δ1 q1 s1 hS1 r1 => q1 σ H1 Δ1 _ (sb.trans s1) hS1 (hE.sub s1) fun b Γ2 u H2 Δ2 q2 s2 hS2 r2 => q2 σ H2 Δ2 _ (sb.trans (s1.trans s2)) hS2 (hE.sub (s1.trans s2)) fun c Γ3 w H3 Δ3 q3 s3 hS3 r3 => by
    obtain ⟨d, p, ds, i, j, Γ4, rfl, rfl, rfl, hj, hp, q⟩ := q3
    obtain rfl := r2
    obtain rfl := r3.isI hS3
    obtain ⟨vs, g1, g2, Δ4, s4, hS4, hv⟩ := hS3.lk hp.lk
    have s14 := s1.trans (s2.trans (s3.trans s4))
    exact ⟨p, vs, i, j, rfl, rfl, g1, by rw [g2]; exact hj, q σ _ Δ4 (sb.trans s14) (hS4.put2 hp (dvs_set (Dv.sub (s2.trans (s3.trans s4)) r1) hv _)) (hE.sub s14)⟩
end
end EE

namespace EE
open PySem PySem.Spec PyProof.Rows L2
section
variable {X : EC} {Γ Γ1 : G} {Q : AV → G → Prop} {ds : List D} {p : Addr} {i : Int}
/-- [..] * n -/
theorem op_repDrop (h1 : Rem Γ p ds Γ1) (h0 : 0 ≤ i) (h2 : i ≤ 1000) (hl : ds.length ≤ 10) (q : Q (.dat (.list (List.replicate i.toNat ds).flatten)) Γ1) : Op X Γ rRep (.ref p) (dI i) Q := fun x y H Δ R sb hS r1 r2 k => by
  obtain rfl := r1
  obtain rfl := r2.isI hS
  obtain ⟨us, g1, e1, Δ1, s1, hS1, hv⟩ := hS.lk h1.lk
  have hS1' := hS1.drop2 h1
  refine ⟨p, i, us, rfl, rfl, g1, by omega, by omega, ?_, fun t ht => ?_⟩
  · rw [e1]
    have : ds.length * i.toNat ≤ 10 * 1000 := Nat.mul_le_mul hl (by omega)
    exact Nat.le_trans this (by decide)
  · have g : ∀ n : Nat, DvAll Δ1 (List.replicate n us).flatten (List.replicate n ds).flatten := fun n => by
      induction n with
      | zero => exact .nil
      | succ n ih =>
        rw [List.replicate_succ, List.flatten_cons, List.replicate_succ, List.flatten_cons]
        exact dvs_app hv ih
    exact k _ _ _ _ _ q (s1.trans (Sub.cons .rfl')) (hS1'.lst ht (g _)) (Dv.of (List.mem_cons_self ..))
end
theorem relE_len {Δ : List (V × D)} {σ : L2.St} {A : AE} (h : RelE Δ σ A) : σ.length = A.length := by
  induction h with
  | nil => rfl
  | cons _ _ ih => exact congrArg Nat.succ ih
/-! ### the deck -/
section
variable {X : EC} {A : AE} {Γ : G} {Q : AV → G → Prop} {te : TE} {i : Nat} {d l : Addr} {tz t : TS} {E : Ends} {c : TT}
theorem ev_deep (e : A[i]? = some (some (.ref d))) (hd : X.dk = some (d, l)) (q : Q (.ref l) Γ) : Ev X A Γ (tDGet (tVar i) (tC (.str "deep"))) Q := fun σ H Δ R sb hS hE k => by
  rw [hd] at hS k
  obtain ⟨_, e1, rfl⟩ := hE.get e
  obtain ⟨c, cs, st, ct, xs, h1, h2, h3, ncd, ncl, hcs, hcl, st0, st1, xs0, xs1, put⟩ := hS.deck4
  exact ⟨_, e1, d, _, rfl, deck_deep h1, k _ _ _ _ Δ q .rfl' hS rfl⟩
theorem ev_stamp (e : A[i]? = some (some (.ref d))) (hd : X.dk = some (d, l)) (q : ∀ s, 0 ≤ s → s < 4294967291 → Q (dI s) Γ) : Ev X A Γ (tDGet (tVar i) (tC (.str "stamp"))) Q := fun σ H Δ R sb hS hE k => by
  rw [hd] at hS k
  obtain ⟨_, e1, rfl⟩ := hE.get e
  obtain ⟨c, cs, st, ct, xs, h1, h2, h3, ncd, ncl, hcs, hcl, st0, st1, xs0, xs1, put⟩ := hS.deck4
  exact ⟨_, e1, d, _, rfl, deck_stamp h1, k _ _ _ _ Δ (q _ st0 st1) .rfl' hS (Dv.int _)⟩
theorem ev_count (e : A[i]? = some (some (.ref d))) (hd : X.dk = some (d, l)) (q : ∀ s, Q (dI s) Γ) : Ev X A Γ (tDGet (tVar i) (tC (.str "count"))) Q := fun σ H Δ R sb hS hE k => by
  rw [hd] at hS k
  obtain ⟨_, e1, rfl⟩ := hE.get e
  obtain ⟨c, cs, st, ct, xs, h1, h2, h3, ncd, ncl, hcs, hcl, st0, st1, xs0, xs1, put⟩ := hS.deck4
  exact ⟨_, e1, d, _, rfl, deck_count h1, k _ _ _ _ Δ (q _) .rfl' hS (Dv.int _)⟩
theorem ev_cells (e : A[i]? = some (some (.ref d))) (hd : X.dk = some (d, l)) (q : ∀ cs : List Int, cs ≠ [] → cs.length ≤ 64 → Q (.dat (.list (cs.map PyData.int))) Γ) : Ev X A Γ (tDGet (tVar i) (tC (.str "cells"))) Q := fun σ H Δ R sb hS hE k => by
  rw [hd] at hS k
  obtain ⟨_, e1, rfl⟩ := hE.get e
  obtain ⟨c, cs, st, ct, xs, h1, h2, h3, ncd, ncl, hcs, hcl, st0, st1, xs0, xs1, put⟩ := hS.deck4
  exact ⟨_, e1, d, _, rfl, deck_cells h1, k _ _ _ _ _ (q _ hcs hcl) (Sub.cons .rfl') (put H ct xs (fun _ _ _ => rfl) h1 h2 xs0 xs1) (Dv.of (List.mem_cons_self ..))⟩
theorem do_count (e : A[i]? = some (some (.ref d))) (hd : X.dk = some (d, l)) (h : Ev X A Γ te fun a Γ1 => ∃ n, a = dI n ∧ Do X A Γ1 tz E) : Do X A Γ (tSeq (sDPut (tVar i) (tC (.str "count")) te) tz) E := fun σ H Δ sb hS hE =>
  h σ H Δ _ sb hS hE fun a Γ1 v H1 Δ1 q s hS1 ra => by
    obtain ⟨n, rfl, q⟩ := q
    obtain rfl := ra.isI hS1
    obtain ⟨_, e1, rfl⟩ := hE.get e
    have hS2 := hS1
    rw [hd] at hS2
    obtain ⟨c, cs, st, ct, xs, h1, h2, h3, ncd, ncl, hcs, hcl, st0, st1, xs0, xs1, put⟩ := hS2.deck4
    have ndl : d ≠ l := dk_ne h1 h2
    have hS3 := (put (upd H1 d (dk4 l c st n)) n xs (fun b hb _ => upd_ne hb) upd_same ((upd_ne ndl.symm).trans h2) xs0 xs1).weaken (Δ' := Δ1) fun _ => List.mem_cons_of_mem _
    rw [← hd] at hS3
    exact ⟨_, e1, d, _, rfl, put_count h1, q σ _ Δ1 (sb.trans s) hS3 (hE.sub s)⟩
theorem ifF_raw {σ : L2.St} {H : Hp} {S : Hp → Prop} (hc : ∀ R : Bool → Hp → Prop, (∀ H1, S H1 → R false H1) → c σ H R) (k : ∀ H1, S H1 → tz E σ H1) : tSeq (tIfS c t tNext) tz E σ H := hc _ fun H1 h1 => k H1 h1
theorem ifT_raw {u : TS} {σ : L2.St} {H : Hp} {S : Hp → Prop} (hc : ∀ R : Bool → Hp → Prop, (∀ H1, S H1 → R true H1) → c σ H R) (k : ∀ H1, S H1 → t { E with nx := tz E } σ H1) : tSeq (tIfS c t u) tz E σ H := hc _ fun H1 h1 => k H1 h1
end
/-! ### powers -/
theorem pow_lt {b : Int} (h1 : 1 ≤ b) (h2 : b ≤ 1000) : ∀ n : Nat, (b ^ n).natAbs < 2 ^ (10 * n + 1)
  | 0 => by rw [Int.pow_zero]; decide
  | n + 1 => by
    have h := pow_lt h1 h2 n
    rw [Int.pow_succ, Int.natAbs_mul]
    have h3 : b.natAbs ≤ 1000 := by omega
    have h4 : (b ^ n).natAbs * b.natAbs ≤ (b ^ n).natAbs * 1000 := Nat.mul_le_mul_left _ h3
    have h5 : (2 : Nat) ^ (10 * (n + 1) + 1) = 2 ^ (10 * n + 1) * 1024 := by
      rw [show 10 * (n + 1) + 1 = (10 * n + 1) + 10 by omega, Nat.pow_add]
    omega
theorem pow_pos' {b : Int} (h1 : 1 ≤ b) (n : Nat) : 1 ≤ b ^ n := Int.add_one_le_of_lt (Int.pow_pos (by omega))
theorem pow_mulx {b z : Int} (h1 : 1 ≤ b) (h2 : b ≤ 1000) (n : Nat) (hn : n ≤ 1000) (hz : z.natAbs < 2 ^ 20000) : CMulX (b ^ n) z :=
  mulx_ok (a := 10 * n + 1) (b := 20000) (pow_lt h1 h2 n) hz (by omega)
def sppower (K : PySem.W.Frag) : Sp := SpA K fun _ Γ as k => ∃ (b : Int) (n : Nat), as = [dI b, dI (n : Int)] ∧ 1 ≤ b ∧ b ≤ 1000 ∧ n ≤ 1000 ∧ k (dI (b ^ n)) Γ
def sp_law_power (K : PySem.W.Frag) : Sp := SpA K fun _ Γ as k => ∃ (b : Int) (n : Nat), as = [dI b, dI (n : Int)] ∧ 1 ≤ b ∧ b ≤ 1000 ∧ n ≤ 1000 ∧ k (dI (b ^ n)) Γ
/-! ### noughts at the end -/
/-- r is what is left of n without noughts at its end -/
def Strip (b n r : Int) : Prop := (n = 0 ∧ r = 0) ∨ (n ≠ 0 ∧ r % b ≠ 0 ∧ ∃ k : Nat, n = r * b ^ k)
def Keep (b : Int) (f : Nat) (n : Int) : Prop := ∃ (m : Int) (k : Nat), n = m * b ^ k ∧ (m.natAbs : Int) < b ^ f
theorem strip_abs {b m r : Int} (hb : 2 ≤ b) (hr : r % b ≠ 0) : ∀ {j k : Nat}, m * b ^ k = r * b ^ j → r.natAbs ≤ m.natAbs
  | j, 0, h => by
    rw [Int.pow_zero, Int.mul_one] at h
    have hp := pow_pos' (b := b) (by omega) j
    rw [h, Int.natAbs_mul]
    exact Nat.le_mul_of_pos_right _ (by omega)
  | 0, k + 1, h => by
    rw [Int.pow_zero, Int.mul_one, Int.pow_succ, ← Int.mul_assoc] at h
    exact absurd (by rw [← h]; exact Int.mul_emod_left _ _) hr
  | j + 1, k + 1, h => by
    rw [Int.pow_succ, Int.pow_succ, ← Int.mul_assoc, ← Int.mul_assoc] at h
    exact strip_abs hb hr (Int.eq_of_mul_eq_mul_right (by omega) h)
theorem keep_strip {b n r : Int} {f : Nat} (hb : 2 ≤ b) (h : Strip b n r) : Keep b f n ↔ (r.natAbs : Int) < b ^ f := by
  rcases h with ⟨rfl, rfl⟩ | ⟨hn, hr, k, hk⟩
  · have := pow_pos' (b := b) (by omega) f
    refine ⟨fun _ => by show (0 : Int) < _; omega, fun _ => ⟨0, 0, by simp, by show (0 : Int) < _; omega⟩⟩
  · constructor
    · rintro ⟨m, j, h1, h2⟩
      have := strip_abs hb hr (h1.symm.trans hk)
      omega
    · intro h
      exact ⟨r, k, hk, h⟩
theorem keep_neg {b n : Int} {f : Nat} : Keep b f (-n) ↔ Keep b f n := by
  constructor
  · rintro ⟨m, k, h1, h2⟩
    exact ⟨-m, k, by rw [Int.neg_mul, ← h1, Int.neg_neg], by rw [Int.natAbs_neg]; exact h2⟩
  · rintro ⟨m, k, h1, h2⟩
    exact ⟨-m, k, by rw [Int.neg_mul, ← h1], by rw [Int.natAbs_neg]; exact h2⟩
theorem strip_ex {b : Int} (hb : 2 ≤ b) : ∀ (w : Nat) (n : Int), n.natAbs ≤ w → ∃ r, Strip b n r
  | 0, n, h => ⟨0, .inl ⟨by omega, rfl⟩⟩
  | w + 1, n, h => by
    by_cases h0 : n = 0
    · exact ⟨0, .inl ⟨h0, rfl⟩⟩
    by_cases h1 : n % b = 0
    · have e : n = n / b * b := (Int.ediv_mul_cancel (Int.dvd_of_emod_eq_zero h1)).symm
      have hq : n / b ≠ 0 := fun z => h0 (by rw [e, z, Int.zero_mul])
      have hlt : (n / b).natAbs < n.natAbs := by
        have : n.natAbs = (n / b).natAbs * b.natAbs := by rw [← Int.natAbs_mul, ← e]
        have h2 : (n / b).natAbs * 2 ≤ (n / b).natAbs * b.natAbs := Nat.mul_le_mul_left _ (by omega)
        omega
      obtain ⟨r, hr⟩ := strip_ex hb w (n / b) (by omega)
      rcases hr with ⟨z, _⟩ | ⟨_, hr, k, hk⟩
      · exact absurd z hq
      · exact ⟨r, .inr ⟨h0, hr, k + 1, by rw [Int.pow_succ, ← Int.mul_assoc, ← hk]; exact e⟩⟩
    · exact ⟨n, .inr ⟨h0, h1, 0, by simp⟩⟩
theorem keep_mul {b n : Int} {f : Nat} (hb : 2 ≤ b) : Keep b f (n * b) ↔ Keep b f n := by
  obtain ⟨r, hr⟩ := strip_ex hb _ n (Nat.le_refl _)
  rw [keep_strip hb hr, keep_strip hb (r := r)]
  rcases hr with ⟨rfl, rfl⟩ | ⟨hn, hr, k, hk⟩
  · exact .inl ⟨by simp, rfl⟩
  · refine .inr ⟨Int.mul_ne_zero hn (by omega), hr, k + 1, ?_⟩
    rw [Int.pow_succ, ← Int.mul_assoc, ← hk]
theorem keep_succ {b n : Int} {f : Nat} (hb : 2 ≤ b) (h : Keep b f n) : Keep b (f + 1) n := by
  obtain ⟨m, k, h1, h2⟩ := h
  refine ⟨m, k, h1, ?_⟩
  have := pow_pos' (b := b) (by omega) f
  rw [Int.pow_succ]
  have : b ^ f * 1 ≤ b ^ f * b := Int.mul_le_mul_of_nonneg_left (by omega) (by omega)
  omega
def spstripped (K : PySem.W.Frag) : Sp := SpA K fun _ Γ as k => ∃ b n, as = [dI b, dI n] ∧ 2 ≤ b ∧ b ≤ 1000 ∧ ∀ r, Strip b n r → k (dI r) Γ
def sp_law_whole (K : PySem.W.Frag) : Sp := SpA K fun _ Γ as k => ∃ b n, as = [dI b, dI n] ∧ 2 ≤ b ∧ b ≤ 1000 ∧ n ≠ 0 ∧ ∀ (r : Int) (t : Nat), 0 < r → r % b ≠ 0 → ((n.natAbs : Nat) : Int) = r * b ^ t → k (.dat (.tuple [.int r, .int (t : Int)])) Γ
def sp_law_great (K : PySem.W.Frag) : Sp := SpA K fun dk Γ as k => ∃ d l m, as = [.ref d, dI m] ∧ dk = some (d, l) ∧ 1 ≤ m ∧ ∀ r, 0 ≤ r → r < m → k (dI r) Γ
/-- one step of taking base out -/
theorem out_step {b x y : Int} {t : Nat} (hb : 2 ≤ b) (h : x % b = 0) (e : y = x * b ^ t) : y = x / b * b ^ (t + 1) := by
  rw [Int.pow_succ, Int.mul_comm (b ^ t) b, ← Int.mul_assoc, Int.ediv_mul_cancel (Int.dvd_of_emod_eq_zero h), e]
theorem out_less {b x : Int} (hb : 2 ≤ b) (h0 : 0 < x) (h : x % b = 0) : 0 < x / b ∧ x / b < x := by
  have e : x = x / b * b := (Int.ediv_mul_cancel (Int.dvd_of_emod_eq_zero h)).symm
  have h1 : 0 < x / b := by
    have := Int.ediv_nonneg (a := x) (b := b) (by omega) (by omega)
    have : x / b ≠ 0 := fun z => by rw [z, Int.zero_mul] at e; omega
    omega
  have h2 : x / b * 2 ≤ x / b * b := Int.mul_le_mul_of_nonneg_left hb (by omega)
  exact ⟨h1, by omega⟩
end EE

namespace EE
open PySem PySem.Spec PyProof.Rows L2
/-! ### primes -/
def Pr (p : Nat) : Prop := 2 ≤ p ∧ ∀ d, d ∣ p → d = 1 ∨ d = p
theorem Pr.least {n p : Nat} (h2 : 2 ≤ p) (hp : p ∣ n) (hl : ∀ d, 2 ≤ d → d < p → ¬ d ∣ n) : Pr p := by
  refine ⟨h2, fun d hd => ?_⟩
  have h1 : d ≤ p := Nat.le_of_dvd (by omega) hd
  have h0 : d ≠ 0 := fun z => by
    rw [z] at hd
    have := Nat.eq_zero_of_zero_dvd hd
    omega
  by_cases e : d = 1
  · exact .inl e
  · by_cases e2 : d = p
    · exact .inr e2
    · exact absurd (Nat.dvd_trans hd hp) (hl d (by omega) (by omega))
theorem Pr.mul {p a b : Nat} (h : Pr p) (hd : p ∣ a * b) : p ∣ a ∨ p ∣ b := by
  by_cases ha : p ∣ a
  · exact .inl ha
  · have hc : Nat.Coprime p a := by
      rcases h.2 _ (Nat.gcd_dvd_left p a) with e | e
      · exact e
      · exact absurd (e ▸ Nat.gcd_dvd_right p a) ha
    exact .inr (hc.dvd_of_dvd_mul_left hd)
theorem Pr.eq {p q : Nat} (hp : Pr p) (hq : Pr q) (h : p ∣ q) : p = q := by
  rcases hq.2 p h with e | e
  · have := hp.1
    omega
  · exact e
theorem Pr.pos {p : Nat} (h : Pr p) : 0 < p := by have := h.1; omega
def prodN : List Nat → Nat
  | [] => 1
  | x :: xs => x * prodN xs
theorem prodN_app : ∀ (xs ys : List Nat), prodN (xs ++ ys) = prodN xs * prodN ys
  | [], ys => (Nat.one_mul _).symm
  | x :: xs, ys => by
    show x * prodN (xs ++ ys) = x * prodN xs * prodN ys
    rw [prodN_app xs ys, Nat.mul_assoc]
theorem prodN_snoc {xs : List Nat} {x : Nat} : prodN (xs ++ [x]) = prodN xs * x := by
  rw [prodN_app]
  show prodN xs * (x * 1) = _
  rw [Nat.mul_one]
theorem prodN_pos : ∀ {xs : List Nat}, (∀ x ∈ xs, 0 < x) → 0 < prodN xs
  | [], _ => Nat.one_pos
  | x :: xs, h => Nat.mul_pos (h x (List.mem_cons_self ..)) (prodN_pos fun y hy => h y (List.mem_cons_of_mem _ hy))
theorem prodN_perm {xs ys : List Nat} (h : xs.Perm ys) : prodN xs = prodN ys := by
  induction h with
  | nil => rfl
  | cons x _ ih => show x * _ = x * _; rw [ih]
  | swap x y l => show y * (x * _) = x * (y * _); rw [← Nat.mul_assoc, ← Nat.mul_assoc, Nat.mul_comm y x]
  | trans _ _ h1 h2 => exact h1.trans h2
theorem Pr.inProd {p : Nat} (h : Pr p) : ∀ {xs : List Nat}, p ∣ prodN xs → ∃ x ∈ xs, p ∣ x
  | [], hd => by
    have := Nat.le_of_dvd Nat.one_pos hd
    have := h.1
    omega
  | x :: xs, hd => by
    rcases h.mul hd with h1 | h1
    · exact ⟨x, List.mem_cons_self .., h1⟩
    · obtain ⟨y, hy, h2⟩ := h.inProd h1
      exact ⟨y, List.mem_cons_of_mem _ hy, h2⟩
theorem dvd_prodN {x : Nat} : ∀ {xs : List Nat}, x ∈ xs → x ∣ prodN xs
  | y :: ys, h => by
    rcases List.mem_cons.mp h with rfl | h
    · exact Nat.dvd_mul_right ..
    · exact Nat.dvd_trans (dvd_prodN h) (Nat.dvd_mul_left ..)
theorem ex_prime : ∀ (w n : Nat), n ≤ w → 2 ≤ n → ∃ q, Pr q ∧ q ∣ n
  | 0, n, h, h2 => by omega
  | w + 1, n, h, h2 => by
    by_cases hd : ∃ d, 2 ≤ d ∧ d < n ∧ d ∣ n
    · obtain ⟨d, d2, dn, dd⟩ := hd
      obtain ⟨q, h1, h3⟩ := ex_prime w d (by omega) d2
      exact ⟨q, h1, Nat.dvd_trans h3 dd⟩
    · exact ⟨n, Pr.least h2 (Nat.dvd_refl n) fun d d2 dn dd => hd ⟨d, d2, dn, dd⟩, Nat.dvd_refl n⟩
def PL (n : Nat) (ps : List Nat) : Prop := ps.Pairwise (· < ·) ∧ (∀ p ∈ ps, Pr p) ∧ (∀ q, Pr q → (q ∣ n ↔ q ∈ ps)) ∧ prodN ps ∣ n
theorem asc_uniq : ∀ {xs ys : List Nat}, xs.Pairwise (· < ·) → ys.Pairwise (· < ·) → (∀ z, z ∈ xs ↔ z ∈ ys) → xs = ys
  | [], [], _, _, _ => rfl
  | [], y :: ys, _, _, h => nomatch (h y).mpr (List.mem_cons_self ..)
  | x :: xs, [], _, _, h => nomatch (h x).mp (List.mem_cons_self ..)
  | x :: xs, y :: ys, hx, hy, h => by
    rw [List.pairwise_cons] at hx hy
    have e : x = y := by
      rcases List.mem_cons.mp ((h x).mp (List.mem_cons_self ..)) with e | e
      · exact e
      · rcases List.mem_cons.mp ((h y).mpr (List.mem_cons_self ..)) with e2 | e2
        · exact e2.symm
        · have := hy.1 x e
          have := hx.1 y e2
          omega
    subst e
    rw [asc_uniq hx.2 hy.2 fun z => ?_]
    constructor
    · intro hz
      rcases List.mem_cons.mp ((h z).mp (List.mem_cons_of_mem _ hz)) with e | e
      · have := hx.1 z hz
        omega
      · exact e
    · intro hz
      rcases List.mem_cons.mp ((h z).mpr (List.mem_cons_of_mem _ hz)) with e | e
      · have := hy.1 z hz
        omega
      · exact e
theorem PL.uniq {n : Nat} {ps qs : List Nat} (h : PL n ps) (k : PL n qs) : ps = qs :=
  asc_uniq h.1 k.1 fun z => ⟨fun hz => (k.2.2.1 z (h.2.1 z hz)).mp ((h.2.2.1 z (h.2.1 z hz)).mpr hz), fun hz => (h.2.2.1 z (k.2.1 z hz)).mp ((k.2.2.1 z (k.2.1 z hz)).mpr hz)⟩
def Plain (b : Nat) (ps : List Nat) : Prop := ps.Pairwise (· < ·) ∧ (∀ p ∈ ps, Pr p) ∧ b = prodN ps
theorem Plain.pl {b : Nat} {ps : List Nat} (h : Plain b ps) : PL b ps := by
  obtain ⟨h1, h2, rfl⟩ := h
  refine ⟨h1, h2, fun q hq => ⟨fun hd => ?_, dvd_prodN⟩, Nat.dvd_refl _⟩
  obtain ⟨x, hx, hd⟩ := hq.inProd hd
  rw [hq.eq (h2 x hx) hd]
  exact hx
theorem sqf_prod {q : Nat} (hq : Pr q) : ∀ {ps : List Nat}, ps.Pairwise (· < ·) → (∀ p ∈ ps, Pr p) → ¬ q * q ∣ prodN ps
  | [], _, _, h => by
    have := Nat.le_of_dvd Nat.one_pos h
    have := hq.1
    have := Nat.mul_le_mul hq.1 hq.1
    omega
  | x :: xs, h1, h2, h => by
    rw [List.pairwise_cons] at h1
    have hx := h2 x (List.mem_cons_self ..)
    have hxs : ∀ p ∈ xs, Pr p := fun p hp => h2 p (List.mem_cons_of_mem _ hp)
    have h : q * q ∣ x * prodN xs := h
    by_cases e : q = x
    · subst e
      have h3 := Nat.dvd_of_mul_dvd_mul_left hq.pos h
      obtain ⟨y, hy, hd⟩ := hq.inProd h3
      have := h1.1 y hy
      have := hq.eq (hxs y hy) hd
      omega
    · have hnx : ¬ q ∣ x := fun z => e (hq.eq hx z)
      have h3 : q ∣ prodN xs := (hq.mul (Nat.dvd_trans (Nat.dvd_mul_right q q) h)).resolve_left hnx
      obtain ⟨c, hc⟩ := h3
      rw [hc, ← Nat.mul_assoc, Nat.mul_comm x q, Nat.mul_assoc] at h
      have h4 := Nat.dvd_of_mul_dvd_mul_left hq.pos h
      have h5 := (hq.mul h4).resolve_left hnx
      exact sqf_prod hq h1.2 hxs (by rw [hc]; exact Nat.mul_dvd_mul_left q h5)
theorem Plain.sqf {b q : Nat} {ps : List Nat} (h : Plain b ps) (hq : Pr q) : ¬ q * q ∣ b := by
  rw [h.2.2]
  exact sqf_prod hq h.1 h.2.1
theorem len_le {ps : List Nat} (h : ∀ p ∈ ps, 2 ≤ p) : 2 ^ ps.length ≤ prodN ps := by
  induction ps with
  | nil => exact Nat.le_refl _
  | cons p ps ih =>
    rw [List.length_cons, Nat.pow_succ, Nat.mul_comm]
    exact Nat.mul_le_mul (h p (List.mem_cons_self ..)) (ih fun q hq => h q (List.mem_cons_of_mem _ hq))
/-! ### how often a number goes -/
def Val (p n v : Nat) : Prop := ∃ x, n = x * p ^ v ∧ ¬ p ∣ x
theorem val_uniq {p n : Nat} (hp : 2 ≤ p) : ∀ {v w : Nat}, Val p n v → Val p n w → v = w
  | 0, 0, _, _ => rfl
  | 0, w + 1, ⟨x, h1, h2⟩, ⟨y, h3, h4⟩ => by
    rw [Nat.pow_zero, Nat.mul_one] at h1
    exact absurd (by rw [← h1, h3, Nat.pow_succ, ← Nat.mul_assoc]; exact Nat.dvd_mul_left ..) h2
  | v + 1, 0, ⟨x, h1, h2⟩, ⟨y, h3, h4⟩ => by
    rw [Nat.pow_zero, Nat.mul_one] at h3
    exact absurd (by rw [← h3, h1, Nat.pow_succ, ← Nat.mul_assoc]; exact Nat.dvd_mul_left ..) h4
  | v + 1, w + 1, ⟨x, h1, h2⟩, ⟨y, h3, h4⟩ => by
    have e : x * p ^ v = y * p ^ w := by
      have : x * p ^ v * p = y * p ^ w * p := by
        rw [Nat.mul_assoc, Nat.mul_assoc, ← Nat.pow_succ, ← Nat.pow_succ, ← h1, ← h3]
      exact Nat.eq_of_mul_eq_mul_right (by omega) this
    rw [val_uniq hp (n := x * p ^ v) ⟨x, rfl, h2⟩ ⟨y, e, h4⟩]
open Classical in
noncomputable def vl (p n : Nat) : Nat := if h : ∃ v, Val p n v then h.choose else 0
theorem vl_eq {p n v : Nat} (hp : 2 ≤ p) (h : Val p n v) : vl p n = v := by
  have hx : ∃ v, Val p n v := ⟨v, h⟩
  unfold vl
  rw [dif_pos hx]
  exact val_uniq hp hx.choose_spec h
theorem val_ex {p : Nat} (hp : 2 ≤ p) : ∀ (w n : Nat), n ≤ w → 0 < n → ∃ v, Val p n v
  | 0, n, h, h0 => by omega
  | w + 1, n, h, h0 => by
    by_cases hd : p ∣ n
    · obtain ⟨m, rfl⟩ := hd
      have hm : 0 < m := Nat.pos_of_ne_zero fun z => by rw [z] at h0; omega
      have : m < p * m := by
        have := Nat.mul_le_mul_right m hp
        omega
      obtain ⟨v, x, h1, h2⟩ := val_ex hp w m (by omega) hm
      exact ⟨v + 1, x, by rw [Nat.pow_succ, ← Nat.mul_assoc, ← h1, Nat.mul_comm], h2⟩
    · exact ⟨0, n, by simp, hd⟩
theorem vl_val {p n : Nat} (hp : 2 ≤ p) (h0 : 0 < n) : Val p n (vl p n) := by
  obtain ⟨v, h⟩ := val_ex hp n n (Nat.le_refl _) h0
  rw [vl_eq hp h]
  exact h
theorem vals_lt {p n v : Nat} {k : Nat} (hp : 2 ≤ p) (h0 : 0 < n) (hn : n < 2 ^ k) (h : Val p n v) : v < k := by
  obtain ⟨x, h1, h2⟩ := h
  have hx : 0 < x := Nat.pos_of_ne_zero fun z => by rw [z] at h2; exact h2 (Nat.dvd_zero p)
  have h3 : 2 ^ v ≤ p ^ v := Nat.pow_le_pow_left hp v
  have h4 : p ^ v ≤ x * p ^ v := Nat.le_mul_of_pos_left _ hx
  exact (Nat.pow_lt_pow_iff_right (by decide : 1 < 2)).mp (show 2 ^ v < 2 ^ k by omega)
/-- base, of which p stands in it once, makes it one more -/
theorem val_mul {p b n v : Nat} (hp : Pr p) (hb : p ∣ b) (hs : ¬ p * p ∣ b) (h : Val p n v) : Val p (n * b) (v + 1) := by
  obtain ⟨x, h1, h2⟩ := h
  obtain ⟨c, rfl⟩ := hb
  refine ⟨x * c, ?_, fun z => ?_⟩
  · rw [h1, Nat.pow_succ, Nat.mul_assoc, Nat.mul_assoc, Nat.mul_comm p c, ← Nat.mul_assoc (p ^ v), Nat.mul_comm (p ^ v) c, Nat.mul_assoc]
  · rcases hp.mul z with z | z
    · exact h2 z
    · exact hs (Nat.mul_dvd_mul_left p z)
/-! ### shares -/
noncomputable def hv (b p n : Nat) : Bool := decide (b ^ vl p n < n)
noncomputable def abv (b p : Nat) (ns : List Nat) : Nat := prodN (ns.filter (hv b p))
noncomputable def blw (b p : Nat) (ns : List Nat) : Nat := prodN ((ns.filter (hv b p)).map fun n => b ^ vl p n)
def red (a b : Nat) : Nat × Nat := (a / Nat.gcd a b, b / Nat.gcd a b)
theorem red_eq {a b c d : Nat} (ha : 0 < a) (hb : 0 < b) (hc : 0 < c) (hd : 0 < d) (h : a * d = c * b) : red a b = red c d := by
  have g1 : 0 < Nat.gcd a b := Nat.gcd_pos_of_pos_left _ ha
  have g2 : 0 < Nat.gcd c d := Nat.gcd_pos_of_pos_left _ hc
  have c1 := Nat.coprime_div_gcd_div_gcd g1
  have c2 := Nat.coprime_div_gcd_div_gcd g2
  have ea := Nat.div_mul_cancel (Nat.gcd_dvd_left a b)
  have eb := Nat.div_mul_cancel (Nat.gcd_dvd_right a b)
  have ec := Nat.div_mul_cancel (Nat.gcd_dvd_left c d)
  have ed := Nat.div_mul_cancel (Nat.gcd_dvd_right c d)
  unfold red
  generalize Nat.gcd a b = g at g1 c1 ea eb
  generalize Nat.gcd c d = k at g2 c2 ec ed
  generalize hx : a / g = x at c1 ea
  generalize hy : b / g = y at c1 eb
  generalize hu : c / k = u at c2 ec
  generalize hw : d / k = w at c2 ed
  have e : x * w = u * y := by
    have e1 : x * w * (g * k) = u * y * (g * k) := by
      calc x * w * (g * k) = (x * g) * (w * k) := Nat.mul_mul_mul_comm ..
        _ = (u * k) * (y * g) := by rw [ea, ed, ec, eb]; exact h
        _ = u * y * (g * k) := by rw [Nat.mul_comm g k]; exact Nat.mul_mul_mul_comm ..
    exact Nat.eq_of_mul_eq_mul_right (Nat.mul_pos g1 g2) e1
  have d1 : x ∣ u := c1.dvd_of_dvd_mul_right (by rw [← e]; exact Nat.dvd_mul_right ..)
  have d2 : u ∣ x := c2.dvd_of_dvd_mul_right (by rw [e]; exact Nat.dvd_mul_right ..)
  have exu := Nat.dvd_antisymm d1 d2
  subst exu
  have hx0 : 0 < x := Nat.pos_of_ne_zero fun z => by rw [z] at ea; omega
  rw [Nat.eq_of_mul_eq_mul_left hx0 e]
theorem red_lt {a b : Nat} (ha : 0 < a) : (red a b).1 ≤ a ∧ (red a b).2 ≤ b ∧ 0 < (red a b).1 := ⟨Nat.div_le_self .., Nat.div_le_self .., Nat.div_pos (Nat.le_of_dvd ha (Nat.gcd_dvd_left ..)) (Nat.gcd_pos_of_pos_left _ ha)⟩
theorem abv_pos {b p : Nat} {ns : List Nat} (h : ∀ n ∈ ns, 0 < n) : 0 < abv b p ns := prodN_pos fun x hx => h x (List.mem_filter.mp hx).1
theorem blw_pos {b p : Nat} {ns : List Nat} (hb : 0 < b) : 0 < blw b p ns := prodN_pos fun x hx => by
  obtain ⟨y, _, rfl⟩ := List.mem_map.mp hx
  exact Nat.pow_pos hb
theorem abv_snoc {b p n : Nat} {ns : List Nat} : abv b p (ns ++ [n]) = abv b p ns * if hv b p n then n else 1 := by
  unfold abv
  rw [List.filter_append, prodN_app]
  congr 1
  cases h : hv b p n with
  | true => rw [List.filter_cons, if_pos h]; exact Nat.mul_one n
  | false => rw [List.filter_cons, if_neg (by rw [h]; decide)]; rfl
theorem blw_snoc {b p n : Nat} {ns : List Nat} : blw b p (ns ++ [n]) = blw b p ns * if hv b p n then b ^ vl p n else 1 := by
  unfold blw
  rw [List.filter_append, List.map_append, prodN_app]
  congr 1
  cases h : hv b p n with
  | true => rw [List.filter_cons, if_pos h]; exact Nat.mul_one _
  | false => rw [List.filter_cons, if_neg (by rw [h]; decide)]; rfl
theorem prod_le {B : Nat} : ∀ {xs : List Nat}, (∀ x ∈ xs, x < 2 ^ B) → prodN xs < 2 ^ (B * xs.length + 1)
  | [], _ => by show 1 < 2 ^ (B * 0 + 1); rw [Nat.mul_zero]; decide
  | x :: xs, h => by
    have h1 := h x (List.mem_cons_self ..)
    have h2 := prod_le (xs := xs) fun y hy => h y (List.mem_cons_of_mem _ hy)
    show x * prodN xs < _
    have e : (2 : Nat) ^ (B * (x :: xs).length + 1) = 2 ^ B * 2 ^ (B * xs.length + 1) := by
      rw [← Nat.pow_add, List.length_cons, Nat.mul_succ]
      congr 1
      omega
    rw [e]
    exact Nat.lt_of_le_of_lt (Nat.mul_le_mul_right _ (Nat.le_of_lt h1)) ((Nat.mul_lt_mul_left (Nat.pow_pos (by decide))).mpr h2)
theorem abv_lt {b p B : Nat} {ns : List Nat} (h : ∀ n ∈ ns, n < 2 ^ B) : abv b p ns < 2 ^ (B * ns.length + 1) := by
  refine Nat.lt_of_lt_of_le (prod_le (B := B) fun x hx => h x (List.mem_filter.mp hx).1) (Nat.pow_le_pow_right (by decide) ?_)
  have := List.length_filter_le (hv b p) ns
  have := Nat.mul_le_mul_left B this
  omega
theorem blw_le {b p : Nat} {ns : List Nat} : blw b p ns ≤ abv b p ns := by
  unfold blw abv
  have g : ∀ xs : List Nat, (∀ x ∈ xs, hv b p x = true) → prodN (xs.map fun n => b ^ vl p n) ≤ prodN xs := fun xs => by
    induction xs with
    | nil => intro _; exact Nat.le_refl _
    | cons x xs ih =>
      intro h
      exact Nat.mul_le_mul (Nat.le_of_lt (of_decide_eq_true (h x (List.mem_cons_self ..)))) (ih fun y hy => h y (List.mem_cons_of_mem _ hy))
  exact g _ fun x hx => (List.mem_filter.mp hx).2
/-! ### what the products' defs promise -/
abbrev intsT (ns : List Int) : D := .tuple (ns.map PyData.int)
def OkN (ns : List Int) : Prop := ns.length ≤ 40 ∧ ∀ n ∈ ns, n ≠ 0 ∧ n.natAbs ≤ 10 ^ 60
def natsOf (ns : List Int) : List Nat := ns.map Int.natAbs
noncomputable def redOf (b p : Nat) (ns : List Int) : Nat × Nat := red (abv b p (natsOf ns)) (blw b p (natsOf ns))
noncomputable def shareD (b : Nat) (ns : List Int) (p : Nat) : D := .tuple [.int (p : Int), .int ((redOf b p ns).1 : Int), .int ((redOf b p ns).2 : Int)]
noncomputable def heavyL (b p : Nat) (ns : List Int) : List (Int × Nat) := ns.zipIdx.filter fun x => hv b p x.1.natAbs
def spgoes (K : PySem.W.Frag) : Sp := SpA K fun _ Γ as k => ∃ (b : Nat) (n : Int), as = [dI (b : Int), dI n] ∧ 2 ≤ b ∧ b ≤ 1000 ∧ n ≠ 0 ∧ k (dI (vl b n.natAbs : Nat)) Γ
def spdivisor (K : PySem.W.Frag) : Sp := SpA K fun _ Γ as k => ∃ (b p : Nat) (n : Int), as = [dI (b : Int), dI (p : Int), dI n] ∧ 2 ≤ b ∧ b ≤ 1000 ∧ 2 ≤ p ∧ p ≤ 1000 ∧ n ≠ 0 ∧ n.natAbs ≤ 10 ^ 60 ∧ k (dI (b ^ vl p n.natAbs : Nat)) Γ
def spheavy_places (K : PySem.W.Frag) : Sp := SpA K fun _ Γ as k => ∃ (b p : Nat) (ns : List Int), as = [dI (b : Int), dI (p : Int), .dat (intsT ns)] ∧ 2 ≤ b ∧ b ≤ 1000 ∧ 2 ≤ p ∧ p ≤ 1000 ∧ OkN ns ∧ k (.dat (.tuple ((heavyL b p ns).map fun x => .int (x.2 : Int)))) Γ
def spshare (K : PySem.W.Frag) : Sp := SpA K fun _ Γ as k => ∃ (b p : Nat) (ns : List Int), as = [dI (b : Int), dI (p : Int), .dat (intsT ns)] ∧ 2 ≤ b ∧ b ≤ 1000 ∧ 2 ≤ p ∧ p ≤ 1000 ∧ OkN ns ∧ k (.dat (shareD b ns p)) Γ
def spprimes_of (K : PySem.W.Frag) : Sp := SpA K fun _ Γ as k => ∃ (b : Nat) (ps : List Nat), as = [dI (b : Int)] ∧ Plain b ps ∧ 2 ≤ b ∧ b ≤ 1000 ∧ k (.dat (.list (ps.map fun p : Nat => PyData.int (p : Int)))) Γ
def spshares (K : PySem.W.Frag) : Sp := SpA K fun _ Γ as k => ∃ (b : Nat) (ps : List Nat) (ns : List Int), as = [dI (b : Int), .dat (intsT ns)] ∧ Plain b ps ∧ 2 ≤ b ∧ b ≤ 1000 ∧ OkN ns ∧ k (.dat (.tuple (ps.map (shareD b ns)))) Γ
theorem n60 {n : Int} (h : n.natAbs ≤ 10 ^ 60) : n.natAbs < 2 ^ 200 := Nat.lt_of_le_of_lt h (by decide +kernel)
theorem okn_nat {ns : List Int} (h : OkN ns) : (∀ n ∈ natsOf ns, 0 < n) ∧ ∀ n ∈ natsOf ns, n < 2 ^ 200 := by
  refine ⟨fun n hn => ?_, fun n hn => ?_⟩
  · obtain ⟨x, hx, rfl⟩ := List.mem_map.mp hn
    have := (h.2 x hx).1
    omega
  · obtain ⟨x, hx, rfl⟩ := List.mem_map.mp hn
    exact n60 (h.2 x hx).2
theorem heavy_fst {b p : Nat} {ns : List Int} : (heavyL b p ns).map (fun x => x.1.natAbs) = (natsOf ns).filter (hv b p) := by
  have g : ∀ (ns : List Int) (k : Nat), ((ns.zipIdx k).filter fun x => hv b p x.1.natAbs).map (fun x => x.1.natAbs) = (natsOf ns).filter (hv b p) := fun ns => by
    induction ns with
    | nil => intro k; rfl
    | cons n ns ih =>
      intro k
      rw [List.zipIdx_cons, List.filter_cons]
      show _ = List.filter (hv b p) (n.natAbs :: natsOf ns)
      rw [List.filter_cons]
      cases h : hv b p n.natAbs with
      | true => rw [if_pos rfl, if_pos rfl, List.map_cons, ih]
      | false => rw [if_neg (by decide), if_neg (by decide), ih]
  exact g ns 0
theorem heavy_at {b p : Nat} {ns : List Int} {x : Int × Nat} (h : x ∈ heavyL b p ns) : ns[x.2]? = some x.1 := by
  have := List.mem_zipIdx_iff_getElem?.mp (List.mem_filter.mp h).1
  exact this
theorem heavy_len {b p : Nat} {ns : List Int} : (heavyL b p ns).length ≤ ns.length := by
  refine Nat.le_trans (List.length_filter_le _ _) ?_
  rw [List.length_zipIdx]
  exact Nat.le_refl _
theorem red_small {b p : Nat} {ns : List Int} (hb : 0 < b) (h : OkN ns) : (redOf b p ns).1 < 2 ^ 8001 ∧ (redOf b p ns).2 < 2 ^ 8001 ∧ 0 < (redOf b p ns).1 ∧ 0 < (redOf b p ns).2 := by
  obtain ⟨h1, h2⟩ := okn_nat h
  have ha := abv_pos (b := b) (p := p) h1
  have hl := blw_pos (b := b) (p := p) (ns := natsOf ns) hb
  obtain ⟨r1, r2, r3⟩ := red_lt (b := blw b p (natsOf ns)) ha
  have hlt := abv_lt (b := b) (p := p) h2
  have hle := blw_le (b := b) (p := p) (ns := natsOf ns)
  have hlen : (natsOf ns).length ≤ 40 := by unfold natsOf; rw [List.length_map]; exact h.1
  have hp : (2 : Nat) ^ (200 * (natsOf ns).length + 1) ≤ 2 ^ 8001 := Nat.pow_le_pow_right (by decide) (by omega)
  refine ⟨Nat.lt_of_le_of_lt r1 (Nat.lt_of_lt_of_le hlt hp), Nat.lt_of_le_of_lt r2 (Nat.lt_of_le_of_lt hle (Nat.lt_of_lt_of_le hlt hp)), r3, ?_⟩
  exact Nat.div_pos (Nat.le_of_dvd hl (Nat.gcd_dvd_right ..)) (Nat.gcd_pos_of_pos_left _ ha)
theorem smz_share {b p : Nat} {ns : List Int} (hb : 0 < b) (hp : p ≤ 1000) (h : OkN ns) : SmZ 10000 1 (shareD b ns p) := by
  obtain ⟨r1, r2, _, _⟩ := red_small (p := p) hb h
  have e : (2 : Nat) ^ 8001 < 10 ^ 2500 := by decide +kernel
  refine (smz_tuple (n := 2501) (k := 0) (ds := [.int (p : Int), .int ((redOf b p ns).1 : Int), .int ((redOf b p ns).2 : Int)]) fun d hd => ?_).mono (by show 3 * (2501 + 2) + 3 ≤ 10000; decide) (Nat.le_refl _)
  simp only [List.mem_cons, List.not_mem_nil, or_false] at hd
  rcases hd with rfl | rfl | rfl
  · exact smz_int (Nat.lt_of_le_of_lt (show ((p : Nat) : Int).natAbs ≤ 1000 by omega) (by decide +kernel)) (by decide) (by decide)
  · exact smz_int (show (((redOf b p ns).1 : Nat) : Int).natAbs < _ by rw [Int.natAbs_natCast]; omega) (by decide) (by decide)
  · exact smz_int (show (((redOf b p ns).2 : Nat) : Int).natAbs < _ by rw [Int.natAbs_natCast]; omega) (by decide) (by decide)
/-! ### what changes no share -/
theorem hv_mul {b p n : Nat} (hp : Pr p) (hb : p ∣ b) (hs : ¬ p * p ∣ b) (hb0 : 0 < b) (hn : 0 < n) : vl p (n * b) = vl p n + 1 ∧ hv b p (n * b) = hv b p n := by
  have h := vl_eq hp.1 (val_mul hp hb hs (vl_val hp.1 hn))
  refine ⟨h, ?_⟩
  unfold hv
  rw [h, Nat.pow_succ]
  exact decide_eq_decide.mpr ⟨fun h => Nat.lt_of_mul_lt_mul_right h, fun h => (Nat.mul_lt_mul_right hb0).mpr h⟩
inductive Like (b : Nat) : List Nat → List Nat → Prop
  | nil : Like b [] []
  | same {x : Nat} {xs ys : List Nat} : Like b xs ys → Like b (x :: xs) (x :: ys)
  | times {x : Nat} {xs ys : List Nat} : Like b xs ys → Like b (x :: xs) (x * b :: ys)
theorem abv_cons {b p n : Nat} {ns : List Nat} : abv b p (n :: ns) = (if hv b p n then n else 1) * abv b p ns := by
  unfold abv
  rw [List.filter_cons]
  cases hv b p n with
  | true => rfl
  | false => exact (Nat.one_mul _).symm
theorem blw_cons {b p n : Nat} {ns : List Nat} : blw b p (n :: ns) = (if hv b p n then b ^ vl p n else 1) * blw b p ns := by
  unfold blw
  rw [List.filter_cons]
  cases hv b p n with
  | true => rfl
  | false => exact (Nat.one_mul _).symm
theorem like_abv {b p : Nat} (hp : Pr p) (hb : p ∣ b) (hs : ¬ p * p ∣ b) (hb0 : 0 < b) {xs ys : List Nat} (h : Like b xs ys) (h0 : ∀ x ∈ xs, 0 < x) : ∃ k, abv b p ys = abv b p xs * b ^ k ∧ blw b p ys = blw b p xs * b ^ k := by
  induction h with
  | nil => exact ⟨0, rfl, rfl⟩
  | @same x xs ys _ ih =>
    obtain ⟨k, h1, h2⟩ := ih fun y hy => h0 y (List.mem_cons_of_mem _ hy)
    exact ⟨k, by rw [abv_cons, abv_cons, h1, Nat.mul_assoc], by rw [blw_cons, blw_cons, h2, Nat.mul_assoc]⟩
  | @times x xs ys _ ih =>
    obtain ⟨k, h1, h2⟩ := ih fun y hy => h0 y (List.mem_cons_of_mem _ hy)
    obtain ⟨g1, g2⟩ := hv_mul hp hb hs hb0 (h0 x (List.mem_cons_self ..))
    rw [abv_cons, abv_cons, blw_cons, blw_cons, h1, h2, g1, g2]
    cases hv b p x with
    | true => exact ⟨k + 1, by rw [Nat.pow_succ]; simp only [if_true, Nat.mul_assoc, Nat.mul_comm, Nat.mul_left_comm], by rw [Nat.pow_succ, Nat.pow_succ]; simp only [if_true, Nat.mul_assoc, Nat.mul_comm, Nat.mul_left_comm]⟩
    | false => exact ⟨k, by simp, by simp⟩
theorem abv_perm {b p : Nat} {xs ys : List Nat} (h : xs.Perm ys) : abv b p xs = abv b p ys ∧ blw b p xs = blw b p ys := ⟨prodN_perm (h.filter _), prodN_perm ((h.filter _).map _)⟩
theorem hv_one {b p : Nat} (hp : 2 ≤ p) : hv b p 1 = false := by
  have h : vl p 1 = 0 := vl_eq hp ⟨1, by simp, fun z => by have := Nat.le_of_dvd Nat.one_pos z; omega⟩
  unfold hv
  rw [h]
  rfl
theorem abv_ones {b p : Nat} (hp : 2 ≤ p) {xs : List Nat} : abv b p (1 :: xs ++ [1]) = abv b p xs ∧ blw b p (1 :: xs ++ [1]) = blw b p xs := by
  have h := hv_one (b := b) hp
  rw [abv_snoc, abv_cons, blw_snoc, blw_cons, h]
  simp
theorem red_like {b p : Nat} {xs ys zs : List Nat} (hp : Pr p) (hb : p ∣ b) (hs : ¬ p * p ∣ b) (hb0 : 0 < b) (h0 : ∀ x ∈ xs, 0 < x) (h1 : xs.Perm ys) (h2 : Like b ys zs) : red (abv b p zs) (blw b p zs) = red (abv b p xs) (blw b p xs) := by
  obtain ⟨k, e1, e2⟩ := like_abv hp hb hs hb0 h2 fun x hx => h0 x (h1.mem_iff.mpr hx)
  obtain ⟨g1, g2⟩ := abv_perm (b := b) (p := p) h1
  rw [e1, e2, ← g1, ← g2]
  have a0 := abv_pos (b := b) (p := p) h0
  have l0 := blw_pos (b := b) (p := p) (ns := xs) hb0
  exact red_eq (Nat.mul_pos a0 (Nat.pow_pos hb0)) (Nat.mul_pos l0 (Nat.pow_pos hb0)) a0 l0 (by simp only [Nat.mul_assoc, Nat.mul_comm, Nat.mul_left_comm])
/-- with a number more no share gets less -/
theorem red_more {b p n : Nat} {xs : List Nat} (hb0 : 0 < b) (h0 : ∀ x ∈ xs, 0 < x) (hn : 0 < n) :
    (red (abv b p xs) (blw b p xs)).1 * (red (abv b p (xs ++ [n])) (blw b p (xs ++ [n]))).2 ≤ (red (abv b p (xs ++ [n])) (blw b p (xs ++ [n]))).1 * (red (abv b p xs) (blw b p xs)).2 := by
  have a0 := abv_pos (b := b) (p := p) h0
  have l0 := blw_pos (b := b) (p := p) (ns := xs) hb0
  have a1 := abv_pos (b := b) (p := p) (ns := xs ++ [n]) fun x hx => by
    rcases List.mem_append.mp hx with hx | hx
    · exact h0 x hx
    · rw [List.mem_singleton.mp hx]; exact hn
  have key : abv b p xs * blw b p (xs ++ [n]) ≤ abv b p (xs ++ [n]) * blw b p xs := by
    rw [abv_snoc, blw_snoc]
    cases h : hv b p n with
    | true =>
      simp only [if_true]
      have h := Nat.le_of_lt (of_decide_eq_true h)
      calc abv b p xs * (blw b p xs * b ^ vl p n) = abv b p xs * blw b p xs * b ^ vl p n := (Nat.mul_assoc ..).symm
        _ ≤ abv b p xs * blw b p xs * n := Nat.mul_le_mul_left _ h
        _ = abv b p xs * n * blw b p xs := by simp only [Nat.mul_assoc, Nat.mul_comm, Nat.mul_left_comm]
    | false => simp
  have g1 : 0 < Nat.gcd (abv b p xs) (blw b p xs) := Nat.gcd_pos_of_pos_left _ a0
  have g2 : 0 < Nat.gcd (abv b p (xs ++ [n])) (blw b p (xs ++ [n])) := Nat.gcd_pos_of_pos_left _ a1
  generalize abv b p xs = A at key g1
  generalize blw b p xs = B at key g1
  generalize abv b p (xs ++ [n]) = A' at key g2
  generalize blw b p (xs ++ [n]) = B' at key g2
  have ea := Nat.div_mul_cancel (Nat.gcd_dvd_left A B)
  have eb := Nat.div_mul_cancel (Nat.gcd_dvd_right A B)
  have ec := Nat.div_mul_cancel (Nat.gcd_dvd_left A' B')
  have ed := Nat.div_mul_cancel (Nat.gcd_dvd_right A' B')
  show A / Nat.gcd A B * (B' / Nat.gcd A' B') ≤ A' / Nat.gcd A' B' * (B / Nat.gcd A B)
  generalize Nat.gcd A B = g at *
  generalize Nat.gcd A' B' = k at *
  refine Nat.le_of_mul_le_mul_right (c := g * k) ?_ (Nat.mul_pos g1 g2)
  rw [Nat.mul_mul_mul_comm, ea, ed, Nat.mul_comm g k, Nat.mul_mul_mul_comm, ec, eb]
  exact key
theorem plain_mem {b p : Nat} {ps : List Nat} (h : Plain b ps) (hb : 0 < b) (hp : p ∈ ps) : Pr p ∧ p ∣ b ∧ (¬ p * p ∣ b) ∧ p ≤ b := ⟨h.2.1 p hp, by rw [h.2.2]; exact dvd_prodN hp, h.sqf (h.2.1 p hp), Nat.le_of_dvd hb (by rw [h.2.2]; exact dvd_prodN hp)⟩
theorem plain_len {b : Nat} {ps : List Nat} (h : Plain b ps) (hb : b ≤ 1000) : ps.length ≤ 10 := by
  have h1 := len_le fun p hp => (h.2.1 p hp).1
  rw [← h.2.2] at h1
  rcases Nat.lt_or_ge 10 ps.length with h2 | h2
  · have : (2 : Nat) ^ 11 ≤ 2 ^ ps.length := Nat.pow_le_pow_right (by decide) h2
    omega
  · exact h2
theorem smz_shares {b : Nat} {ps : List Nat} {ns : List Int} (hp : Plain b ps) (hb : 0 < b) (hb2 : b ≤ 1000) (h : OkN ns) : SmZ 110000 2 (.tuple (ps.map (shareD b ns)) : D) := by
  refine (smz_tuple (n := 10000) (k := 1) fun d hd => ?_).mono ?_ (Nat.le_refl _)
  · obtain ⟨p, hm, rfl⟩ := List.mem_map.mp hd
    exact smz_share hb (by have := (plain_mem hp hb hm).2.2.2; omega) h
  · rw [List.length_map]
    have := plain_len hp hb2
    have := Nat.mul_le_mul_right (10000 + 2) this
    omega
theorem smz_nums {ns : List Int} (h : OkN ns) : SmZ 3000 1 (intsT ns) := by
  refine (smz_tuple (n := 62) (k := 0) fun d hd => ?_).mono ?_ (Nat.le_refl _)
  · obtain ⟨n, hn, rfl⟩ := List.mem_map.mp hd
    exact smz_int (Nat.lt_of_le_of_lt (h.2 n hn).2 (by decide +kernel)) (by decide) (by decide)
  · rw [List.length_map]
    have := Nat.mul_le_mul_right (62 + 2) h.1
    omega
theorem like_app {b : Nat} {xs ys us vs : List Nat} (h : Like b xs ys) (k : Like b us vs) : Like b (xs ++ us) (ys ++ vs) := by
  induction h with
  | nil => exact k
  | same _ ih => exact .same ih
  | times _ ih => exact .times ih
theorem ixN_nat {n i : Nat} (h : i < n) : ixN n (i : Int) = some i := by
  rw [ixN_of (by omega) (by omega), Int.toNat_natCast]
end EE

namespace EE
open PySem PySem.Spec PyProof.Rows L2
/-! ### sums of some numbers -/
inductive LotS : List Int → Int → Prop
  | nil : LotS [] 0
  | skip {x s : Int} {xs : List Int} : LotS xs s → LotS (x :: xs) s
  | take {x s : Int} {xs : List Int} : LotS xs s → LotS (x :: xs) (x + s)
theorem lot_zero : ∀ {xs : List Int}, LotS xs 0
  | [] => .nil
  | _ :: _ => .skip lot_zero
theorem lot_snoc {x : Int} : ∀ {xs : List Int} {s : Int}, LotS (xs ++ [x]) s ↔ LotS xs s ∨ LotS xs (s - x)
  | [], s => by
    constructor
    · intro h
      cases h with
      | skip h => exact .inl h
      | @take x0 s xs0 h =>
        cases h
        exact .inr (by rw [Int.add_zero, Int.sub_self]; exact .nil)
    · rintro (h | h)
      · exact .skip h
      · have := LotS.take (x := x) h
        rwa [show x + (s - x) = s by omega] at this
  | y :: ys, s => by
    constructor
    · intro h
      cases h with
      | skip h => exact (lot_snoc.mp h).imp .skip .skip
      | @take x0 s xs0 h =>
        rcases lot_snoc.mp h with h | h
        · exact .inl (.take h)
        · exact .inr (by rw [show y + s - x = y + (s - x) by omega]; exact .take h)
    · rintro (h | h)
      · cases h with
        | skip h => exact .skip (lot_snoc.mpr (.inl h))
        | take h => exact .take (lot_snoc.mpr (.inl h))
      · generalize hz : s - x = z at h
        cases h with
        | skip h => exact .skip (lot_snoc.mpr (.inr (by rw [hz]; exact h)))
        | @take x0 t xs0 h =>
          obtain rfl : s = y + (t + x) := by omega
          exact .take (lot_snoc.mpr (.inr (by rw [show t + x - x = t by omega]; exact h)))
theorem lot_neg : ∀ {xs : List Int} {s : Int}, LotS xs s → LotS (xs.map (- ·)) (-s)
  | _, _, .nil => .nil
  | _ :: _, _, .skip h => .skip (lot_neg h)
  | x :: xs, _, @LotS.take _ s _ h => by
    rw [Int.neg_add]
    exact .take (lot_neg h)
theorem lot_bd {B : Int} (hB : 0 ≤ B) : ∀ {xs : List Int} {s : Int}, (∀ x ∈ xs, -B ≤ x ∧ x ≤ B) → LotS xs s → -(B * xs.length) ≤ s ∧ s ≤ B * xs.length
  | _, _, _, .nil => by simp
  | x :: xs, s, h, .skip k => by
    have := lot_bd hB (fun y hy => h y (List.mem_cons_of_mem _ hy)) k
    rw [List.length_cons, Int.natCast_add, Int.mul_add]
    omega
  | x :: xs, _, h, @LotS.take _ s _ k => by
    have := lot_bd hB (fun y hy => h y (List.mem_cons_of_mem _ hy)) k
    have := h x (List.mem_cons_self ..)
    rw [List.length_cons, Int.natCast_add, Int.mul_add]
    omega
def upI (ns : List Int) : Int := (ns.filter fun n => decide (n > 0)).sum
def dnI (ns : List Int) : Int := -(ns.filter fun n => decide (n < 0)).sum
theorem up_cons {x : Int} {xs : List Int} : upI (x :: xs) = (if x > 0 then x else 0) + upI xs := by
  unfold upI
  rw [List.filter_cons]
  by_cases h : x > 0
  · rw [if_pos (decide_eq_true h), if_pos h, List.sum_cons]
  · rw [if_neg (by rw [decide_eq_false h]; decide), if_neg h, Int.zero_add]
theorem dn_neg : ∀ {xs : List Int}, dnI xs = upI (xs.map (- ·))
  | [] => rfl
  | x :: xs => by
    rw [List.map_cons, up_cons, ← dn_neg]
    unfold dnI
    rw [List.filter_cons]
    by_cases h : x < 0
    · rw [if_pos (decide_eq_true h), if_pos (by omega), List.sum_cons, Int.neg_add]
    · rw [if_neg (by rw [decide_eq_false h]; decide), if_neg (by omega), Int.zero_add]
theorem up_neg {xs : List Int} : upI xs = dnI (xs.map (- ·)) := by
  rw [dn_neg, List.map_map, show ((- ·) ∘ (- ·) : Int → Int) = id from funext fun x => Int.neg_neg x, List.map_id]
theorem lot_up : ∀ {xs : List Int}, LotS xs (upI xs)
  | [] => .nil
  | x :: xs => by
    rw [up_cons]
    by_cases h : x > 0
    · rw [if_pos h]; exact .take lot_up
    · rw [if_neg h, Int.zero_add]; exact .skip lot_up
theorem lot_up_less {n : Int} : ∀ {xs : List Int}, n ∈ xs → LotS xs (upI xs - (n.natAbs : Int))
  | x :: xs, hm => by
    rw [up_cons]
    rcases List.mem_cons.mp hm with rfl | hm
    · by_cases h : n > 0
      · rw [if_pos h, show n + upI xs - (n.natAbs : Int) = upI xs by omega]; exact .skip lot_up
      · rw [if_neg h, show 0 + upI xs - (n.natAbs : Int) = n + upI xs by omega]; exact .take lot_up
    · by_cases h : x > 0
      · rw [if_pos h, show x + upI xs - (n.natAbs : Int) = x + (upI xs - (n.natAbs : Int)) by omega]; exact .take (lot_up_less hm)
      · rw [if_neg h, Int.zero_add]; exact .skip (lot_up_less hm)
theorem lot_one {n : Int} : ∀ {xs : List Int}, n ∈ xs → LotS xs n
  | x :: xs, hm => by
    rcases List.mem_cons.mp hm with rfl | hm
    · have := LotS.take (x := n) (lot_zero (xs := xs))
      rwa [Int.add_zero] at this
    · exact .skip (lot_one hm)
theorem up_nonneg : ∀ {xs : List Int}, 0 ≤ upI xs
  | [] => Int.le_refl 0
  | x :: xs => by
    rw [up_cons]
    have := up_nonneg (xs := xs)
    split <;> omega
theorem gap_add {m c x y : Int} (hx : 0 ≤ x ∧ (m ∣ x ∨ c ≤ x)) (hy : 0 ≤ y ∧ (m ∣ y ∨ c ≤ y)) : 0 ≤ x + y ∧ (m ∣ x + y ∨ c ≤ x + y) := by
  refine ⟨by omega, ?_⟩
  rcases hx.2 with h1 | h1
  · rcases hy.2 with h2 | h2
    · exact .inl (Int.dvd_add h1 h2)
    · exact .inr (by omega)
  · exact .inr (by omega)
theorem lot_gap {m c : Int} : ∀ {xs : List Int} {s : Int}, (∀ x ∈ xs, m ∣ x ∨ c ≤ (x.natAbs : Int)) → LotS xs s → 0 ≤ upI xs - s ∧ (m ∣ upI xs - s ∨ c ≤ upI xs - s)
  | _, _, _, .nil => ⟨Int.le_refl 0, .inl ⟨0, by show (0 : Int) - 0 = _; omega⟩⟩
  | x :: xs, s, h, .skip k => by
    have g := lot_gap (fun y hy => h y (List.mem_cons_of_mem _ hy)) k
    have hx := h x (List.mem_cons_self ..)
    rw [up_cons]
    by_cases hp : x > 0
    · rw [if_pos hp, show x + upI xs - s = x + (upI xs - s) by omega]
      refine gap_add ⟨by omega, hx.imp id fun h => by omega⟩ g
    · rw [if_neg hp, Int.zero_add]
      exact g
  | x :: xs, _, h, @LotS.take _ s _ k => by
    have g := lot_gap (fun y hy => h y (List.mem_cons_of_mem _ hy)) k
    have hx := h x (List.mem_cons_self ..)
    rw [up_cons]
    by_cases hp : x > 0
    · rw [if_pos hp, show x + upI xs - (x + s) = upI xs - s by omega]
      exact g
    · rw [if_neg hp, show 0 + upI xs - (x + s) = -x + (upI xs - s) by omega]
      refine gap_add ⟨by omega, hx.imp (fun h => (Int.dvd_neg).mpr h) fun h => by omega⟩ g
/-! ### the mark -/
def wfI (b : Int) (e : Nat) (t c : Int) : Int := if t / b ^ e % b = 0 then t - c else t
structure MKf (b e : Nat) (c : Int) (ns : List Int) : Prop where
  lo : ∀ n ∈ ns, n ≠ 0 → e ≤ vl b n.natAbs
  at_ : ∃ n ∈ ns, n ≠ 0 ∧ vl b n.natAbs = e ∧ (n.natAbs : Int) = c
  least : ∀ n ∈ ns, n ≠ 0 → vl b n.natAbs = e → c ≤ (n.natAbs : Int)
theorem MKf.uniq {b e e' : Nat} {c c' : Int} {ns : List Int} (h : MKf b e c ns) (k : MKf b e' c' ns) : e = e' ∧ c = c' := by
  obtain ⟨n, h1, h2, h3, h4⟩ := h.at_
  obtain ⟨m, k1, k2, k3, k4⟩ := k.at_
  have a1 := h.lo m k1 k2
  have a2 := k.lo n h1 h2
  obtain rfl : e = e' := by omega
  have b1 := h.least m k1 k2 k3
  have b2 := k.least n h1 h2 h3
  exact ⟨rfl, by omega⟩
theorem val_dvd {b v : Nat} {n : Int} (hb : 2 ≤ b) (h0 : n ≠ 0) (e : vl b n.natAbs = v) : (b : Int) ^ v ∣ n ∧ ¬ (b : Int) ^ (v + 1) ∣ n := by
  obtain ⟨x, h1, h2⟩ := vl_val hb (n := n.natAbs) (by omega)
  rw [e] at h1
  constructor
  · refine Int.natAbs_dvd_natAbs.mp ?_
    rw [Int.natAbs_pow, Int.natAbs_natCast, h1]
    exact Nat.dvd_mul_left ..
  · intro z
    have z := Int.natAbs_dvd_natAbs.mpr z
    rw [Int.natAbs_pow, Int.natAbs_natCast, h1, Nat.pow_succ, Nat.mul_comm x] at z
    exact h2 (Nat.dvd_of_mul_dvd_mul_left (Nat.pow_pos (by omega)) z)
theorem fig_dvd {b : Int} {e : Nat} {t : Int} (hb : 2 ≤ b) (h : b ^ e ∣ t) : t / b ^ e % b = 0 ↔ b ^ (e + 1) ∣ t := by
  obtain ⟨x, rfl⟩ := h
  have hp := pow_pos' (b := b) (by omega) e
  rw [Int.mul_ediv_cancel_left _ (by omega), Int.pow_succ]
  constructor
  · intro z
    exact Int.mul_dvd_mul_left _ (Int.dvd_of_emod_eq_zero z)
  · intro z
    exact Int.emod_eq_zero_of_dvd (Int.dvd_of_mul_dvd_mul_left (by omega) z)
theorem keep_fig {b : Int} {e p : Nat} {t : Int} (hb : 2 ≤ b) (h1 : b ^ e ∣ t) (h2 : ¬ b ^ (e + 1) ∣ t) (h0 : 0 < t) : Keep b p t ↔ t < b ^ (p + e) := by
  have hp := pow_pos' (b := b) (by omega) e
  obtain ⟨x, rfl⟩ := h1
  have hx : x % b ≠ 0 := fun z => h2 (by rw [Int.pow_succ]; exact Int.mul_dvd_mul_left _ (Int.dvd_of_emod_eq_zero z))
  have x0 : 0 < x := by
    rcases Int.lt_or_le 0 x with h | h
    · exact h
    · have := Int.mul_nonpos_of_nonneg_of_nonpos (show 0 ≤ b ^ e by omega) h
      omega
  rw [keep_strip hb (.inr ⟨by omega, hx, e, Int.mul_comm ..⟩), Int.pow_add, Int.mul_comm (b ^ e) x]
  rw [show ((x.natAbs : Nat) : Int) = x by omega]
  exact ⟨fun h => Int.mul_lt_mul_of_pos_right h (by omega), fun h => Int.lt_of_mul_lt_mul_right h (by omega)⟩
section
variable {b e : Nat} {c : Int} {ns : List Int} {p : Nat}
theorem MKf.dvd (hb : 2 ≤ b) (h : MKf b e c ns) {n : Int} (hn : n ∈ ns) : (b : Int) ^ e ∣ n := by
  by_cases h0 : n = 0
  · rw [h0]; exact Int.dvd_zero _
  · have h1 := (val_dvd hb h0 rfl).1
    exact Int.dvd_trans (by
      have := h.lo n hn h0
      obtain ⟨d, hd⟩ : ∃ d, vl b n.natAbs = e + d := ⟨vl b n.natAbs - e, by omega⟩
      rw [hd, Int.pow_add]
      exact Int.dvd_mul_right ..) h1
theorem lot_dvd {m : Int} : ∀ {xs : List Int} {s : Int}, (∀ x ∈ xs, m ∣ x) → LotS xs s → m ∣ s
  | _, _, _, .nil => Int.dvd_zero _
  | _ :: _, _, h, .skip k => lot_dvd (fun y hy => h y (List.mem_cons_of_mem _ hy)) k
  | _ :: _, _, h, .take k => Int.dvd_add (h _ (List.mem_cons_self ..)) (lot_dvd (fun y hy => h y (List.mem_cons_of_mem _ hy)) k)
theorem MKf.gap (hb : 2 ≤ b) (h : MKf b e c ns) {n : Int} (hn : n ∈ ns) : (b : Int) ^ (e + 1) ∣ n ∨ c ≤ (n.natAbs : Int) := by
  by_cases h0 : n = 0
  · exact .inl (by rw [h0]; exact Int.dvd_zero _)
  · have h1 := h.lo n hn h0
    rcases Nat.lt_or_eq_of_le h1 with h2 | h2
    · refine .inl (Int.dvd_trans ?_ (val_dvd hb h0 rfl).1)
      obtain ⟨d, hd⟩ : ∃ d, vl b n.natAbs = (e + 1) + d := ⟨vl b n.natAbs - (e + 1), by omega⟩
      rw [hd]
      exact ⟨_, Int.pow_add ..⟩
    · exact .inr (h.least n hn h0 h2.symm)
/-- from sums to the mark -/
theorem MKf.need (hb : 2 ≤ b) (h : MKf b e c ns) (hk : ∀ s, LotS ns s → Keep b p s) : wfI b e (upI ns) c < (b : Int) ^ (p + e) := by
  have hb2 : (2 : Int) ≤ (b : Int) := by omega
  have hp := pow_pos' (b := (b : Int)) (by omega) (p + e)
  have hup := lot_dvd (fun x hx => h.dvd hb hx) (lot_up (xs := ns))
  obtain ⟨n, n1, n2, n3, n4⟩ := h.at_
  obtain ⟨v1, v2⟩ := val_dvd hb n2 n3
  unfold wfI
  by_cases hf : upI ns / (b : Int) ^ e % b = 0
  · rw [if_pos hf]
    have hd := (fig_dvd hb2 hup).mp hf
    have hl := lot_up_less n1
    rw [n4] at hl
    have hc : ¬ (b : Int) ^ (e + 1) ∣ upI ns - c := fun z => by
      have : (b : Int) ^ (e + 1) ∣ c := by
        have := Int.dvd_sub hd z
        rwa [show upI ns - (upI ns - c) = c by omega] at this
      rw [← n4] at this
      exact v2 (Int.dvd_natAbs.mp this)
    rcases Int.lt_or_le 0 (upI ns - c) with h0 | h0
    · exact (keep_fig hb2 (lot_dvd (fun x hx => h.dvd hb hx) hl) hc h0).mp (hk _ hl)
    · omega
  · rw [if_neg hf]
    have hd : ¬ (b : Int) ^ (e + 1) ∣ upI ns := fun z => hf ((fig_dvd hb2 hup).mpr z)
    have h0 : 0 < upI ns := by
      have := up_nonneg (xs := ns)
      rcases Int.lt_or_eq_of_le this with h | h
      · exact h
      · rw [← h] at hd
        exact absurd (Int.dvd_zero _) hd
    exact (keep_fig hb2 hup hd h0).mp (hk _ lot_up)
theorem MKf.le (hb : 2 ≤ b) (h : MKf b e c ns) {s : Int} (hs : LotS ns s) (hd : ¬ (b : Int) ^ (e + 1) ∣ s) : s ≤ wfI b e (upI ns) c := by
  have hb2 : (2 : Int) ≤ (b : Int) := by omega
  have hup := lot_dvd (fun x hx => h.dvd hb hx) (lot_up (xs := ns))
  obtain ⟨g1, g2⟩ := lot_gap (fun x hx => h.gap hb hx) hs
  unfold wfI
  by_cases hf : upI ns / (b : Int) ^ e % b = 0
  · rw [if_pos hf]
    have hu := (fig_dvd hb2 hup).mp hf
    rcases g2 with g2 | g2
    · have := Int.dvd_sub hu g2
      rw [show upI ns - (upI ns - s) = s by omega] at this
      exact absurd this hd
    · omega
  · rw [if_neg hf]
    omega
/-- from the mark to sums above 0 -/
theorem MKf.enough (hb : 2 ≤ b) (hp1 : 1 ≤ p) (h : MKf b e c ns) (hA : wfI b e (upI ns) c < (b : Int) ^ (p + e)) (hc : c < (b : Int) ^ (p + e)) {s : Int} (hs : LotS ns s) (h0 : 0 < s) : Keep b p s := by
  have hb2 : (2 : Int) ≤ (b : Int) := by omega
  have hds := lot_dvd (fun x hx => h.dvd hb hx) hs
  by_cases hd : (b : Int) ^ (e + 1) ∣ s
  · obtain ⟨g1, _⟩ := lot_gap (fun x hx => h.gap hb hx) hs
    have hw : upI ns ≤ wfI b e (upI ns) c + c := by
      obtain ⟨n, _, _, _, n4⟩ := h.at_
      unfold wfI
      split <;> omega
    obtain ⟨x, hx⟩ := hd
    have hpe := pow_pos' (b := (b : Int)) (by omega) (e + 1)
    have hpp := pow_pos' (b := (b : Int)) (by omega) (p + e)
    have hx0 : 0 < x := by
      rcases Int.lt_or_le 0 x with h | h
      · exact h
      · have := Int.mul_nonpos_of_nonneg_of_nonpos (show 0 ≤ (b : Int) ^ (e + 1) by omega) h
        omega
    refine ⟨x, e + 1, by rw [hx, Int.mul_comm], ?_⟩
    rw [show ((x.natAbs : Nat) : Int) = x by omega]
    have e1 : (b : Int) ^ p * (b : Int) ^ (e + 1) = (b : Int) ^ (p + e) * b := by rw [← Int.pow_add, ← Nat.add_assoc, Int.pow_succ]
    have e2 : (b : Int) ^ (p + e) * 2 ≤ (b : Int) ^ (p + e) * b := Int.mul_le_mul_of_nonneg_left hb2 (by omega)
    refine Int.lt_of_mul_lt_mul_right (a := (b : Int) ^ (e + 1)) ?_ (by omega)
    rw [e1, Int.mul_comm x, ← hx]
    omega
  · exact (keep_fig hb2 hds hd h0).mpr (by have := h.le hb hs hd; omega)
theorem MKf.neg (h : MKf b e c ns) : MKf b e c (ns.map (- ·)) := by
  refine ⟨fun n hn h0 => ?_, ?_, fun n hn h0 hv => ?_⟩
  · obtain ⟨m, hm, rfl⟩ := List.mem_map.mp hn
    rw [Int.natAbs_neg]
    exact h.lo m hm (by omega)
  · obtain ⟨n, h1, h2, h3, h4⟩ := h.at_
    exact ⟨-n, List.mem_map.mpr ⟨n, h1, rfl⟩, by omega, by rw [Int.natAbs_neg]; exact h3, by rw [Int.natAbs_neg]; exact h4⟩
  · obtain ⟨m, hm, rfl⟩ := List.mem_map.mp hn
    rw [Int.natAbs_neg] at hv ⊢
    exact h.least m hm (by omega) hv
theorem MKf.perm {ms : List Int} (h : MKf b e c ns) (q : ns.Perm ms) : MKf b e c ms := by
  refine ⟨fun n hn => h.lo n (q.mem_iff.mpr hn), ?_, fun n hn => h.least n (q.mem_iff.mpr hn)⟩
  obtain ⟨n, h1, h2⟩ := h.at_
  exact ⟨n, q.mem_iff.mp h1, h2⟩
theorem map_neg2 {xs : List Int} : (xs.map (- ·)).map (- ·) = xs := by
  rw [List.map_map, show ((- ·) ∘ (- ·) : Int → Int) = id from funext fun x => Int.neg_neg x, List.map_id]
/-- [K6] -/
theorem MKf.both (hb : 2 ≤ b) (hp1 : 1 ≤ p) (h : MKf b e c ns) : (∀ s, LotS ns s → Keep b p s) ↔ (wfI b e (upI ns) c < (b : Int) ^ (p + e) ∧ wfI b e (dnI ns) c < (b : Int) ^ (p + e)) := by
  have kneg : (∀ s, LotS ns s → Keep b p s) → ∀ s, LotS (ns.map (- ·)) s → Keep b p s := fun hk s hs => by
    have := lot_neg hs
    rw [map_neg2] at this
    exact keep_neg.mp (hk _ this)
  constructor
  · intro hk
    exact ⟨h.need hb hk, by rw [dn_neg]; exact h.neg.need hb (kneg hk)⟩
  · rintro ⟨hA, hB⟩ s hs
    rw [dn_neg] at hB
    obtain ⟨n, n1, n2, n3, n4⟩ := h.at_
    obtain ⟨v1, v2⟩ := val_dvd hb n2 n3
    have hc : c < (b : Int) ^ (p + e) := by
      rcases Int.lt_or_le 0 n with h0 | h0
      · have := h.le hb (lot_one n1) v2
        omega
      · have := h.neg.le hb (lot_one (List.mem_map.mpr ⟨n, n1, rfl⟩)) (s := -n) fun z => v2 (Int.dvd_neg.mp z)
        omega
    rcases Int.lt_trichotomy s 0 with h0 | h0 | h0
    · have := h.neg.enough hb hp1 hB hc (lot_neg hs) (by omega)
      exact keep_neg.mp this
    · rw [h0]
      exact ⟨0, 0, by simp, by have := pow_pos' (b := (b : Int)) (by omega) p; show (0 : Int) < _; omega⟩
    · exact h.enough hb hp1 hA hc hs h0
theorem MKf.times (hb : 2 ≤ b) (h : MKf b e c ns) : MKf b (e + 1) (c * b) (ns.map (· * (b : Int))) := by
  have hv : ∀ n : Int, n ≠ 0 → vl b (n * (b : Int)).natAbs = vl b n.natAbs + 1 := fun n h0 => by
    obtain ⟨x, h1, h2⟩ := vl_val hb (n := n.natAbs) (by omega)
    refine vl_eq hb ⟨x, ?_, h2⟩
    rw [Int.natAbs_mul, Int.natAbs_natCast, Nat.pow_succ, ← Nat.mul_assoc, ← h1]
  refine ⟨fun n hn h0 => ?_, ?_, fun n hn h0 he => ?_⟩
  · obtain ⟨m, hm, rfl⟩ := List.mem_map.mp hn
    have m0 : m ≠ 0 := fun z => h0 (by rw [z, Int.zero_mul])
    rw [hv m m0]
    have := h.lo m hm m0
    omega
  · obtain ⟨n, h1, h2, h3, h4⟩ := h.at_
    exact ⟨n * b, List.mem_map.mpr ⟨n, h1, rfl⟩, Int.mul_ne_zero h2 (by omega), by rw [hv n h2, h3], by rw [Int.natAbs_mul, Int.natAbs_natCast, Int.natCast_mul, h4]⟩
  · obtain ⟨m, hm, rfl⟩ := List.mem_map.mp hn
    have m0 : m ≠ 0 := fun z => h0 (by rw [z, Int.zero_mul])
    rw [hv m m0] at he
    rw [Int.natAbs_mul, Int.natAbs_natCast, Int.natCast_mul]
    exact Int.mul_le_mul_of_nonneg_right (h.least m hm m0 (by omega)) (by omega)
theorem up_times {b : Int} (hb : 1 ≤ b) : ∀ {xs : List Int}, upI (xs.map (· * b)) = upI xs * b
  | [] => (Int.zero_mul b).symm
  | x :: xs => by
    rw [List.map_cons, up_cons, up_cons, up_times hb, Int.add_mul]
    congr 1
    by_cases h : x > 0
    · rw [if_pos h, if_pos (Int.mul_pos h (by omega))]
    · rw [if_neg h, if_neg fun z => ?_, Int.zero_mul]
      have := Int.mul_nonpos_of_nonpos_of_nonneg (show x ≤ 0 by omega) (show 0 ≤ b by omega)
      omega
theorem dn_times {b : Int} (hb : 1 ≤ b) {xs : List Int} : dnI (xs.map (· * b)) = dnI xs * b := by
  rw [dn_neg, dn_neg, ← up_times hb, List.map_map, List.map_map]
  congr 1
  exact List.map_congr_left fun x _ => (Int.neg_mul x b).symm
theorem wf_times {b : Int} {e : Nat} {t c : Int} (hb : 2 ≤ b) : wfI b (e + 1) (t * b) (c * b) = wfI b e t c * b := by
  unfold wfI
  rw [Int.pow_succ, Int.mul_ediv_mul_of_pos_left _ _ (by omega)]
  split
  · exact (Int.sub_mul ..).symm
  · rfl
theorem up_perm {xs ys : List Int} (h : xs.Perm ys) : upI xs = upI ys := by
  induction h with
  | nil => rfl
  | cons x _ ih => rw [up_cons, up_cons, ih]
  | swap x y l => rw [up_cons, up_cons, up_cons, up_cons]; omega
  | trans _ _ h1 h2 => exact h1.trans h2
theorem dn_perm {xs ys : List Int} (h : xs.Perm ys) : dnI xs = dnI ys := by
  rw [dn_neg, dn_neg]
  exact up_perm (h.map _)
end
/-! ### comprehensions of ints -/
theorem fmI {α : Type} {f : α → Bool} {g : α → Int} : ∀ {xs : List α}, xs.filterMap (fun x => if f x then some (PyData.int (g x)) else none) = ((xs.filter f).map g).map PyData.int
  | [] => rfl
  | x :: xs => by
    rw [List.filter_cons]
    cases h : f x with
    | true =>
      rw [List.filterMap_cons_some (b := PyData.int (g x)) (by rw [if_pos h]), if_pos rfl, List.map_cons, List.map_cons, fmI]
    | false =>
      rw [List.filterMap_cons_none (by rw [if_neg (by rw [h]; decide)]), if_neg (by decide), fmI]
theorem fmA {α : Type} {g : α → Int} {xs : List α} : xs.filterMap (fun x => some (PyData.int (g x))) = (xs.map g).map PyData.int := by
  induction xs with
  | nil => rfl
  | cons x xs ih => show PyData.int (g x) :: List.filterMap _ xs = _; rw [ih]; rfl
theorem sumsel {s : Int} : ∀ {ns : List Int}, ((ns.filter fun n => !decide (n = 0)).filter fun n => decide (0 < n * s)).map (· * s) = (ns.map (· * s)).filter fun n => decide (n > 0)
  | [] => rfl
  | n :: ns => by
    rw [List.filter_cons, List.map_cons, List.filter_cons (x := n * s)]
    by_cases h0 : n = 0
    · rw [if_neg (by rw [decide_eq_true h0]; decide), if_neg (by rw [h0, Int.zero_mul]; decide), sumsel]
    · rw [if_pos (by rw [decide_eq_false h0]; rfl), List.filter_cons]
      by_cases h1 : 0 < n * s
      · rw [if_pos (decide_eq_true h1), if_pos (decide_eq_true h1), List.map_cons, sumsel]
      · rw [if_neg (by rw [decide_eq_false h1]; decide), if_neg (by rw [show decide (n * s > 0) = false from decide_eq_false h1]; decide), sumsel]
theorem keep_mono {b : Int} {p q : Nat} {n : Int} (hb : 2 ≤ b) (h : p ≤ q) (k : Keep b p n) : Keep b q n := by
  obtain ⟨d, rfl⟩ : ∃ d, q = p + d := ⟨q - p, by omega⟩
  clear h
  induction d with
  | zero => exact k
  | succ d ih => exact keep_succ hb ih
/-! ### a dict of own, its keys ints -/
def kvI (ks : List Int) : List (Key × V) := ks.map fun k => ((Sum.inl k : Key), V.int 1)
def insI (ks : List Int) (z : Int) : List Int := if z ∈ ks then ks else ks ++ [z]
theorem insI_mem {ks : List Int} {z s : Int} : s ∈ insI ks z ↔ s ∈ ks ∨ s = z := by
  unfold insI
  split
  · rename_i h
    exact ⟨.inl, fun h2 => h2.elim id fun e => by rw [e]; exact h⟩
  · rw [List.mem_append, List.mem_singleton]
theorem insI_len {ks : List Int} {z : Int} : (insI ks z).length ≤ ks.length + 1 := by
  unfold insI
  split
  · omega
  · rw [List.length_append]; exact Nat.le_refl _
theorem putK_int {ks : List Int} {z : Int} : putK (kvI ks) (.inl z) (.int 1) = kvI (insI ks z) := by
  unfold putK insI kvI
  have hk : ∀ k : Int, ((Sum.inl k : Key) = Sum.inl z) ↔ k = z := fun k => ⟨fun h => Sum.inl.inj h, fun h => by rw [h]⟩
  by_cases h : z ∈ ks
  · rw [if_pos h, if_pos, List.map_map]
    · refine List.map_congr_left fun k _ => ?_
      show (if (Sum.inl k : Key) = Sum.inl z then ((Sum.inl k : Key), V.int 1) else (Sum.inl k, .int 1)) = _
      split <;> rfl
    · rw [List.any_map, List.any_eq_true]
      exact ⟨z, h, decide_eq_true rfl⟩
  · rw [if_neg h, if_neg, List.map_append]
    · rfl
    · rw [List.any_map, List.any_eq_true]
      rintro ⟨k, hk1, hk2⟩
      have := (hk k).mp (of_decide_eq_true hk2)
      rw [this] at hk1
      exact h hk1
theorem kvI_keys {ks : List Int} : (kvI ks).map (fun kv => kV kv.1) = ks.map V.int := by
  unfold kvI
  rw [List.map_map]
  rfl
structure StX (K : PySem.W.Frag) (H : Hp) (dk : Dk) (Γ : G) (Δ : List (V × D)) (d : Addr) (ks : List Int) : Prop where
  st : ∀ o, St K (upd H d o) dk Γ Δ
  at_ : H d = some (.dK (kvI ks))
theorem upd_id {H : Hp} {d : Addr} {o : HO} (h : H d = some o) : upd H d o = H := by
  funext b
  by_cases e : b = d
  · rw [e, h]; exact upd_same
  · exact upd_ne e
theorem upd_comm {H : Hp} {d p : Addr} {o u : HO} (h : d ≠ p) : upd (upd H d o) p u = upd (upd H p u) d o := by
  funext b
  by_cases e : b = d
  · subst e
    rw [upd_ne h, upd_same, upd_same]
  · rw [upd_ne e]
    by_cases e2 : b = p
    · subst e2
      rw [upd_same, upd_same]
    · rw [upd_ne e2, upd_ne e2, upd_ne e]
section
variable {K : PySem.W.Frag} {H : Hp} {dk : Dk} {Γ : G} {Δ Δ' : List (V × D)} {d p : Addr} {ks : List Int} {vs : List V} {ds : List D}
theorem StX.now (h : StX K H dk Γ Δ d ks) : St K H dk Γ Δ := by
  have := h.st (.dK (kvI ks))
  rwa [upd_id h.at_] at this
theorem StX.weaken (h : StX K H dk Γ Δ d ks) (s : ∀ x ∈ Δ', x ∈ Δ) : StX K H dk Γ Δ' d ks := ⟨fun o => (h.st o).weaken s, h.at_⟩
theorem StX.lst (h : StX K H dk Γ Δ d ks) (hp : H p = none) (k : DvAll Δ vs ds) : StX K (upd H p (.lst vs)) dk Γ ((.ref p, .list ds) :: Δ) d ks := by
  have hne : d ≠ p := ne_of_none h.at_ hp
  refine ⟨fun o => ?_, (upd_ne hne).trans h.at_⟩
  rw [← upd_comm hne]
  exact (h.st o).lst ((upd_ne hne.symm).trans hp) k
theorem StX.put (h : StX K H dk Γ Δ d ks) {ks' : List Int} : StX K (upd H d (.dK (kvI ks'))) dk Γ Δ d ks' := ⟨fun o => by rw [upd_upd]; exact h.st o, upd_same⟩
theorem StX.also {v : V} {x : D} (h : StX K H dk Γ Δ d ks) (k : Dv Δ v x) : StX K H dk Γ ((v, x) :: Δ) d ks := ⟨fun o => (h.st o).also k, h.at_⟩
end
theorem dva_ints {Δ : List (V × D)} : ∀ {ks : List Int}, DvAll Δ (ks.map V.int) (ks.map PyData.int)
  | [] => .nil
  | k :: ks => .cons (.int k) dva_ints
theorem smz_intsB {ns : List Int} (hl : ns.length ≤ 41) (h : ∀ n ∈ ns, n.natAbs ≤ 10 ^ 60) : SmZ 3000 1 (intsT ns) := by
  refine (smz_tuple (n := 62) (k := 0) fun d hd => ?_).mono ?_ (Nat.le_refl _)
  · obtain ⟨n, hn, rfl⟩ := List.mem_map.mp hd
    exact smz_int (Nat.lt_of_le_of_lt (h n hn) (by decide +kernel)) (by decide) (by decide)
  · rw [List.length_map]
    have := Nat.mul_le_mul_right (62 + 2) hl
    omega
theorem smz_three {x y z : Int} (hx : x.natAbs ≤ 10 ^ 80) (hy : y.natAbs ≤ 10 ^ 80) (hz : z.natAbs ≤ 10 ^ 80) : SmZ 300 1 (.tuple [.int x, .int y, .int z] : D) := by
  have e : (10 : Nat) ^ 80 < 10 ^ 82 := by decide +kernel
  refine (smz_tuple (n := 83) (k := 0) fun d hd => ?_).mono (by show 3 * (83 + 2) + 3 ≤ 300; decide) (Nat.le_refl _)
  simp only [List.mem_cons, List.not_mem_nil, or_false] at hd
  rcases hd with rfl | rfl | rfl <;> exact smz_int (by omega) (by decide) (by decide)
end EE

namespace EE
open PySem PySem.Spec PyProof.Rows L2
/-! ### the products of all lots, and the shares -/
noncomputable def vsum (p : Nat) (L : List Nat) : Nat := (L.map (vl p)).sum
def KeepN (b f n : Nat) : Prop := ∃ m k, n = m * b ^ k ∧ m < b ^ f
theorem val_times {p m n v w : Nat} (hp : Pr p) (h : Val p m v) (k : Val p n w) : Val p (m * n) (v + w) := by
  obtain ⟨x, h1, h2⟩ := h
  obtain ⟨y, k1, k2⟩ := k
  refine ⟨x * y, ?_, fun z => (hp.mul z).elim h2 k2⟩
  rw [h1, k1, Nat.pow_add]
  ac_rfl
theorem val_prod {p : Nat} (hp : Pr p) : ∀ {L : List Nat}, (∀ n ∈ L, 0 < n) → Val p (prodN L) (vsum p L)
  | [], _ => ⟨1, rfl, fun z => by have := Nat.le_of_dvd (by decide) z; have := hp.1; omega⟩
  | n :: L, h => val_times hp (vl_val hp.1 (h n (List.mem_cons_self ..))) (val_prod hp fun x hx => h x (List.mem_cons_of_mem _ hx))
theorem valp_dvd {p n v k : Nat} (hp : Pr p) (h : Val p n v) : p ^ k ∣ n ↔ k ≤ v := by
  obtain ⟨x, h1, h2⟩ := h
  constructor
  · intro hd
    refine Nat.le_of_not_lt fun hk => h2 ?_
    have e : p ^ (v + 1) ∣ n := Nat.dvd_trans (Nat.pow_dvd_pow p hk) hd
    rw [h1, Nat.pow_succ, Nat.mul_comm x] at e
    exact Nat.dvd_of_mul_dvd_mul_left (Nat.pow_pos hp.pos) e
  · intro hk
    rw [h1]
    exact Nat.dvd_trans (Nat.pow_dvd_pow p hk) (Nat.dvd_mul_left ..)
/-- powers of unlike primes that each divide, divide together -/
theorem pows_dvd {m P : Nat} : ∀ {ps : List Nat}, ps.Pairwise (· < ·) → (∀ p ∈ ps, Pr p) → (∀ p ∈ ps, p ^ m ∣ P) → 0 < P → prodN ps ^ m ∣ P
  | [], _, _, _, _ => by
    show 1 ^ m ∣ P
    rw [Nat.one_pow]
    exact Nat.one_dvd _
  | p :: ps, ha, hp, hd, h0 => by
    have ha' := List.pairwise_cons.mp ha
    obtain ⟨Q, rfl⟩ := pows_dvd ha'.2 (fun q hq => hp q (List.mem_cons_of_mem _ hq)) (fun q hq => hd q (List.mem_cons_of_mem _ hq)) h0
    have hpp := hp p (List.mem_cons_self ..)
    have hn : ¬ p ∣ prodN ps := fun z => by
      obtain ⟨q, hq, hpq⟩ := hpp.inProd z
      have := hpp.eq (hp q (List.mem_cons_of_mem _ hq)) hpq
      have := ha'.1 q hq
      omega
    have v0 : Val p (prodN ps) 0 := ⟨prodN ps, by rw [Nat.pow_zero, Nat.mul_one], hn⟩
    have vm : ∀ k, Val p (prodN ps ^ k) 0 := fun k => by
      induction k with
      | zero => exact ⟨1, rfl, fun z => by have := Nat.le_of_dvd (by decide) z; have := hpp.1; omega⟩
      | succ k ih =>
        rw [Nat.pow_succ]
        exact val_times hpp ih v0
    have hQ : 0 < Q := Nat.pos_of_ne_zero fun z => by rw [z, Nat.mul_zero] at h0; omega
    have e := (valp_dvd hpp (val_times hpp (vm m) (vl_val hpp.1 hQ))).mp (hd p (List.mem_cons_self ..))
    rw [Nat.zero_add] at e
    obtain ⟨R, hR⟩ := (valp_dvd hpp (vl_val hpp.1 hQ)).mpr e
    refine ⟨R, ?_⟩
    show prodN ps ^ m * Q = (p * prodN ps) ^ m * R
    rw [hR, Nat.mul_pow]
    ac_rfl
/-- no lot is heavier than the heavy numbers -/
theorem lot_le {b p : Nat} : ∀ {L ns : List Nat}, L.Sublist ns → prodN L * blw b p ns ≤ abv b p ns * b ^ vsum p L
  | _, _, .slnil => Nat.le_refl _
  | L, n :: ns, .cons _ h => by
    have ih := lot_le (b := b) (p := p) h
    rw [abv_cons, blw_cons]
    by_cases hh : hv b p n = true
    · rw [if_pos hh, if_pos hh]
      have hle : b ^ vl p n ≤ n := Nat.le_of_lt (of_decide_eq_true hh)
      calc prodN L * (b ^ vl p n * blw b p ns) = b ^ vl p n * (prodN L * blw b p ns) := by ac_rfl
        _ ≤ n * (abv b p ns * b ^ vsum p L) := Nat.mul_le_mul hle ih
        _ = n * abv b p ns * b ^ vsum p L := by ac_rfl
    · rw [if_neg hh, if_neg hh, Nat.one_mul, Nat.one_mul]
      exact ih
  | n :: L, _ :: ns, .cons₂ _ h => by
    have ih := lot_le (b := b) (p := p) h
    rw [abv_cons, blw_cons]
    have e : b ^ vsum p (n :: L) = b ^ vl p n * b ^ vsum p L := by
      unfold vsum
      rw [List.map_cons, List.sum_cons, Nat.pow_add]
    rw [e]
    show n * prodN L * _ ≤ _
    by_cases hh : hv b p n = true
    · rw [if_pos hh, if_pos hh]
      calc n * prodN L * (b ^ vl p n * blw b p ns) = n * b ^ vl p n * (prodN L * blw b p ns) := by ac_rfl
        _ ≤ n * b ^ vl p n * (abv b p ns * b ^ vsum p L) := Nat.mul_le_mul_left _ ih
        _ = n * abv b p ns * (b ^ vl p n * b ^ vsum p L) := by ac_rfl
    · rw [if_neg hh, if_neg hh, Nat.one_mul, Nat.one_mul]
      have hle : n ≤ b ^ vl p n := Nat.le_of_not_lt fun z => hh (decide_eq_true z)
      calc n * prodN L * blw b p ns = n * (prodN L * blw b p ns) := by ac_rfl
        _ ≤ b ^ vl p n * (abv b p ns * b ^ vsum p L) := Nat.mul_le_mul hle ih
        _ = abv b p ns * (b ^ vl p n * b ^ vsum p L) := by ac_rfl
theorem heavy_pow {b p : Nat} : ∀ {ns : List Nat}, blw b p ns = b ^ vsum p (ns.filter (hv b p)) := fun {ns} => by
  unfold blw vsum
  induction ns.filter (hv b p) with
  | nil => rfl
  | cons n L ih =>
    rw [List.map_cons, List.map_cons, List.sum_cons, Nat.pow_add, ← ih]
    rfl
theorem ex_least {α : Type} (g : α → Nat) : ∀ {xs : List α}, xs ≠ [] → ∃ x ∈ xs, ∀ y ∈ xs, g x ≤ g y
  | [], h => absurd rfl h
  | [x], _ => ⟨x, List.mem_cons_self .., fun y hy => by rw [List.mem_singleton.mp hy]; exact Nat.le_refl _⟩
  | x :: z :: xs, _ => by
    obtain ⟨w, hw, hl⟩ := ex_least g (xs := z :: xs) (by simp)
    by_cases h : g x ≤ g w
    · exact ⟨x, List.mem_cons_self .., fun y hy => by rcases List.mem_cons.mp hy with rfl | hy; exact Nat.le_refl _; exact Nat.le_trans h (hl y hy)⟩
    · exact ⟨w, List.mem_cons_of_mem _ hw, fun y hy => by rcases List.mem_cons.mp hy with rfl | hy; omega; exact hl y hy⟩
/-- one lot that cannot be kept: the heavy numbers of a prime whose share is too great -/
theorem heavy_bad {b f p : Nat} {ps ns : List Nat} (hP : Plain b ps) (hb : 2 ≤ b) (h0 : ∀ n ∈ ns, 0 < n) (hp : p ∈ ps) (hk : KeepN b f (abv b p ns)) : abv b p ns < blw b p ns * b ^ f := by
  obtain ⟨hpp, hpb, _, _⟩ := plain_mem hP (by omega) hp
  obtain ⟨m, k, e, hm⟩ := hk
  have hv0 := val_prod hpp (L := ns.filter (hv b p)) fun n hn => h0 n (List.mem_filter.mp hn).1
  have hkV : k ≤ vsum p (ns.filter (hv b p)) := (valp_dvd hpp hv0).mp (by
    show p ^ k ∣ abv b p ns
    rw [e]
    exact Nat.dvd_trans (show p ^ k ∣ b ^ k by obtain ⟨c, hc⟩ := hpb; rw [hc, Nat.mul_pow]; exact Nat.dvd_mul_right ..) (Nat.dvd_mul_left ..))
  rw [e, heavy_pow, Nat.mul_comm _ (b ^ f)]
  exact Nat.lt_of_lt_of_le (Nat.mul_lt_mul_of_pos_right hm (Nat.pow_pos (by omega))) (Nat.mul_le_mul_left _ (Nat.pow_le_pow_right (by omega) hkV))
theorem lots_good {b f : Nat} {ps ns L : List Nat} (hP : Plain b ps) (hb : 2 ≤ b) (h0 : ∀ n ∈ ns, 0 < n) (h : ∀ p ∈ ps, abv b p ns < blw b p ns * b ^ f) (hL : L.Sublist ns) : KeepN b f (prodN L) := by
  have hne : ps ≠ [] := fun z => by
    have := hP.2.2
    rw [z] at this
    have e : prodN [] = 1 := rfl
    omega
  obtain ⟨p, hp, hl⟩ := ex_least (fun p => vsum p L) hne
  have hL0 : ∀ n ∈ L, 0 < n := fun n hn => h0 n (hL.subset hn)
  have hd : prodN ps ^ vsum p L ∣ prodN L := pows_dvd hP.1 hP.2.1 (fun q hq => (valp_dvd (hP.2.1 q hq) (val_prod (hP.2.1 q hq) hL0)).mpr (hl q hq)) (prodN_pos hL0)
  rw [← hP.2.2] at hd
  obtain ⟨m, e⟩ := hd
  refine ⟨m, vsum p L, by rw [e, Nat.mul_comm], ?_⟩
  have h1 := lot_le (b := b) (p := p) hL
  have h2 := h p hp
  have hB : 0 < b ^ vsum p L := Nat.pow_pos (by omega)
  have h3 : b ^ vsum p L * m * blw b p ns < blw b p ns * b ^ f * b ^ vsum p L := by
    rw [← e]
    exact Nat.lt_of_le_of_lt h1 (Nat.mul_lt_mul_of_pos_right h2 hB)
  have h4 : (b ^ vsum p L * blw b p ns) * m < (b ^ vsum p L * blw b p ns) * b ^ f := by
    calc (b ^ vsum p L * blw b p ns) * m = b ^ vsum p L * m * blw b p ns := by ac_rfl
      _ < blw b p ns * b ^ f * b ^ vsum p L := h3
      _ = (b ^ vsum p L * blw b p ns) * b ^ f := by ac_rfl
  exact Nat.lt_of_mul_lt_mul_left h4
/-- all lots can be kept just where each share is below base ** figures -/
theorem lots_keep {b f : Nat} {ps ns : List Nat} (hP : Plain b ps) (hb : 2 ≤ b) (h0 : ∀ n ∈ ns, 0 < n) : (∀ L, L.Sublist ns → KeepN b f (prodN L)) ↔ ∀ p ∈ ps, abv b p ns < blw b p ns * b ^ f :=
  ⟨fun h p hp => heavy_bad hP hb h0 hp (h _ List.filter_sublist), fun h L hL => lots_good hP hb h0 h hL⟩
end EE

/-! dict(zip(xs, ys)) of a list of ints and a list -/
namespace L2
open PySem PySem.Spec PyProof.Rows
def keyed (ns : List Int) (ys : List V) : List (Key × V) := (ns.map fun n => (.inl n : Key)).zip ys
def tDictZ (K : PySem.W.Frag) (ta : TA) : TE := fun σ H Q => ta σ H fun vs H1 => ∃ (a b : Addr) (ns : List Int) (ys : List V), vs = [.ref a, .ref b] ∧ SqL K H1 a (ns.map V.int) ∧ SqL K H1 b ys ∧ ns.length = ys.length ∧
  ∀ p, H1 p = none → Q (.ref p) (upd H1 p (.dK (mergeK [] (keyed ns ys))))
theorem kv_keyed : ∀ {ns : List Int} {ys : List V} {us vs : List Value}, Vals (ns.map V.int) us → Vals ys vs → ns.length = ys.length → ∃ prs : List (Key × Value), KV (keyed ns ys) prs ∧ prs.length = ns.length ∧ ∀ (i : Nat) (k v : Value), us[i]? = some k → vs[i]? = some v → ∃ q, prs[i]? = some (q, v) ∧ keyIs q k = true
  | [], [], _, _, .nil, .nil, _ => ⟨[], .nil, rfl, fun i k v e _ => by simp at e⟩
  | n :: ns, y :: ys, _, _, .cons r t, .cons r2 t2, hl => by
    obtain ⟨prs, h1, h2, h3⟩ := kv_keyed t t2 (Nat.succ.inj hl)
    rename_i u us u2 vs
    refine ⟨(.inl n, u2) :: prs, .cons ⟨rfl, r2⟩ h1, congrArg (· + 1) h2, fun i k v e1 e2 => ?_⟩
    cases i with
    | zero =>
      obtain rfl := Option.some.inj e1
      obtain rfl := Option.some.inj e2
      exact ⟨.inl n, rfl, by obtain ⟨t, rfl⟩ := r; simp [keyIs, Value.isInt]⟩
    | succ i => exact h3 i k v e1 e2
theorem pe_dictZ {X : Cx} {e e2 : Expr} {ta : TA} {p p2 pos pos2 : Pos} (hg : Gl X "dict") (hm : X.mg "dict" = none) (hg2 : Gl X "zip") (hm2 : X.mg "zip" = none) (ha : PA X [e, e2] ta) (hc : X.calm = true := by rfl)
    (hs : starEach [e, e2] X.env = (false, eval e X.env) :: starEach [e2] X.env := by rfl) (hpl : (backTo pos2 (starEach [e2] X.env)).any (·.1) = false := by rfl)
    (na : starEach [Expr.Call (.Name "zip" p2) [e, e2] [] pos2] X.env = (false, eval (Expr.Call (.Name "zip" p2) [e, e2] [] pos2) X.env) :: starEach [] X.env := by rfl) :
    PE X (.Call (.Name "dict" p) [.Call (.Name "zip" p2) [e, e2] [] pos2] [] pos) (tDictZ X.K ta) := by
  refine ⟨fun pins s σ H Q I h => ?_⟩
  refine Call_ (ld_blt I hg hm PyProof.Rows.boot_dict ?_)
  refine PyProof.Rows.callWith_type1 (PyProof.Rows.args_cons ?_ na) na rfl
  refine Call_ (ld_blt I hg2 hm2 PyProof.Rows.boot_zip (PyProof.Rows.callWith_type1 (thn (ha.run pos2 pins s σ H _ I h) fun us s1 ⟨vs, H1, I1, r1, q1⟩ => ?_) hs hpl))
  obtain ⟨a, b, ns, ys, rfl, hqx, hqy, hl, q⟩ := q1
  obtain ⟨v, us, rfl, r, r'⟩ : ∃ v us', us = v :: us' ∧ RelV (.ref a) v ∧ Vals [.ref b] us' := by cases r1 with | cons r rr => exact ⟨_, _, rfl, r, rr⟩
  obtain ⟨v2, rfl, r2⟩ := vals1 r'
  cases r
  cases r2
  obtain ⟨its, rv, p1, hz1⟩ := I1.list hqx
  obtain ⟨its2, rv2, p2', _⟩ := I1.list hqy
  refine call_zip_2 p1.isList p2'.isList fun h' hz hTI hTO h1 h2 hsz hk => ?_
  refine PyProof.Rows.args_nil ?_
  obtain ⟨prs, hkv, hpl2, hat⟩ := kv_keyed rv rv2 hl
  have hszL : min its.toArray.size its2.toArray.size = ns.length := by
    have l1 := rv.length
    have l2 := rv2.length
    rw [List.length_map] at l1
    simp
    omega
  have hn : ns.length ≤ sizeLine := by
    have l1 := rv.length
    rw [List.length_map] at l1 hz1
    exact hz1
  refine PySem.call_dict_pairs (knd := mixKind X.prog X.w) (kvs := prs) (PairArg.zip _ _ _ _ _ a b (PySem.W.ktu_apart s1.heap.objs.size a b p1.lt p2'.lt) its.toArray its2.toArray) (I1.ok.hd hc)
    ⟨hz, hTI, ⟨_, _, hTO⟩, h1, h2, p1.isList.at fun o e => hk a o e, p2'.isList.at fun o e => hk b o e⟩ ⟨by rw [hpl2, hszL], fun i k v e => ?_⟩ (by rw [hszL]; exact hn) fun h'' tk hd' hk2 => ?_
  · obtain ⟨q, e1, e2⟩ := hat i k v (by simpa using e.1) (by simpa using e.2)
    exact ⟨q, e1, e2⟩
  · have keep : ∀ c o, s1.heap.get? c = some o → h''.get? c = some o := fun c o e => hk2 c o (fun hm => by
      have hlt := Heap.lt_size e
      simp only [List.mem_cons, List.not_mem_nil, or_false] at hm
      rcases hm with rfl | rfl | rfl | rfl
      · exact absurd hlt (Nat.not_lt_of_le (Nat.le_add_right _ _))
      · exact absurd hlt (Nat.not_lt_of_le (Nat.le_add_right _ _))
      · exact absurd hlt (Nat.lt_irrefl _)
      · exact absurd hlt (Nat.not_lt_of_le (Nat.le_add_right _ _))) (hk c o e)
    have hle : s1.heap.objs.size ≤ h'.objs.size := by rw [hsz]; exact Nat.le_add_right _ _
    have hm : (h'.objs.size == sysModules) = false := beq_eq_false_iff_ne.mpr (Nat.ne_of_gt (Nat.lt_of_lt_of_le I1.big hle))
    have hlen : (mergeK [] (keyed ns ys)).length ≤ sizeLine := by
      refine Nat.le_trans (length_mergeK (keyed ns ys) []) ?_
      rw [List.length_nil, Nat.zero_add, hkv.length, hpl2]
      exact hn
    exact ⟨.ref h'.objs.size, upd H1 h'.objs.size (.dK (mergeK [] (keyed ns ys))), I1.laid (t' := tk) keep hle (show ObjOk X.prog X.w _ _ _ (.dK (mergeK [] (keyed ns ys))) from ⟨hlen, hm, merged [] prs, KV.merge hkv .nil, hd'⟩), rfl, q _ (I1.hok.fresh hle)⟩
end L2

namespace EE
open PySem PySem.Spec PyProof.Rows L2
/-! ### list(dict(zip(xs, xs))): each int once -/
theorem putK_keys {acc : List (Key × V)} {ks : List Int} {n : Int} {y : V} (h : acc.map (·.1) = ks.map fun k => (Sum.inl k : Key)) : (putK acc (.inl n) y).map (·.1) = (insI ks n).map fun k => (Sum.inl k : Key) := by
  have hm : (acc.any fun kv => decide (kv.1 = (Sum.inl n : Key))) = decide (n ∈ ks) := by
    have e : (acc.any fun kv => decide (kv.1 = (Sum.inl n : Key))) = (acc.map (·.1)).any fun k => decide (k = (Sum.inl n : Key)) := by
      rw [List.any_map]
      rfl
    rw [e, h, List.any_map]
    rw [Bool.eq_iff_iff]
    simp [List.any_eq_true]
  unfold putK insI
  by_cases hn : n ∈ ks
  · rw [if_pos hn, ← h]
    simp only [hm, hn, decide_true, if_true, List.map_map]
    refine List.map_congr_left fun kv _ => ?_
    show (if kv.1 = Sum.inl n then (kv.1, y) else kv).1 = kv.1
    split <;> rfl
  · rw [if_neg hn]
    simp only [hm, hn, decide_false]
    rw [List.map_append, ← h]
    simp
theorem mergeK_keys : ∀ {ns : List Int} {ys : List V} {acc : List (Key × V)} {ks : List Int}, ns.length = ys.length → acc.map (·.1) = ks.map (fun k => (Sum.inl k : Key)) → (mergeK acc (keyed ns ys)).map (·.1) = (ns.foldl insI ks).map fun k => (Sum.inl k : Key)
  | [], [], acc, ks, _, h => h
  | n :: ns, y :: ys, acc, ks, hl, h => by
    show (mergeK (putK acc (.inl n) y) (keyed ns ys)).map (·.1) = _
    exact mergeK_keys (Nat.succ.inj hl) (putK_keys h)
theorem insI_all : ∀ {ns ks : List Int} {x : Int}, x ∈ ns.foldl insI ks ↔ x ∈ ks ∨ x ∈ ns
  | [], ks, x => by simp
  | n :: ns, ks, x => by
    show x ∈ ns.foldl insI (insI ks n) ↔ _
    rw [insI_all, insI_mem, List.mem_cons]
    constructor
    · rintro ((h | h) | h)
      · exact .inl h
      · exact .inr (.inl h)
      · exact .inr (.inr h)
    · rintro (h | h | h)
      · exact .inl (.inl h)
      · exact .inl (.inr h)
      · exact .inr h
theorem insI_lens : ∀ {ns ks : List Int}, (ns.foldl insI ks).length ≤ ks.length + ns.length
  | [], ks => Nat.le_refl _
  | n :: ns, ks => by
    have := insI_lens (ns := ns) (ks := insI ks n)
    have := insI_len (ks := ks) (z := n)
    show (ns.foldl insI (insI ks n)).length ≤ _
    rw [List.length_cons]
    omega
theorem ev_keys {X : EC} {A : AE} {Γ : G} {tr : TA} {Q : AV → G → Prop} (h : EvA X A Γ tr fun as Γ1 => ∃ (a b : AV) (ns : List Int), as = [a, b] ∧ AsL Γ1 a (ns.map PyData.int) ∧ AsL Γ1 b (ns.map PyData.int) ∧
      ∀ ms : List Int, (∀ x, x ∈ ms ↔ x ∈ ns) → ms.length ≤ ns.length → Q (.dat (.list (ms.map PyData.int))) Γ1) :
    Ev X A Γ (tCB (fun xs H Q => ∃ (a : Addr) (kvs : List (Key × V)), xs = [.ref a] ∧ Rd H a (.dK kvs) ∧ ∀ p, H p = none → Q (.ref p) (upd H p (.lst (kvs.map fun kv => kV kv.1)))) (tCons (tDictZ X.K tr) tNil)) Q := fun σ H Δ R sb hS hE k =>
  h σ H Δ _ sb hS hE fun as Γ1 vs H1 Δ1 q s hS1 ra => by
    obtain ⟨a, b, ns, rfl, h1, h2, q⟩ := q
    obtain ⟨v, w, rfl, r1, r2⟩ := ra.two
    obtain ⟨p1, rfl, e1⟩ := asl_ints hS1 h1 r1
    obtain ⟨p2, rfl, e2⟩ := asl_ints hS1 h2 r2
    have ek := mergeK_keys (ns := ns) (ys := ns.map V.int) (acc := []) (ks := []) (by rw [List.length_map]) rfl
    have ek2 : (mergeK [] (keyed ns (ns.map V.int))).map (fun kv => kV kv.1) = (ns.foldl insI []).map V.int := by
      have : (mergeK [] (keyed ns (ns.map V.int))).map (fun kv => kV kv.1) = ((mergeK [] (keyed ns (ns.map V.int))).map (·.1)).map kV := by rw [List.map_map]; rfl
      rw [this, ek, List.map_map]
      rfl
    refine ⟨p1, p2, ns, ns.map V.int, rfl, e1, e2, by rw [List.length_map], fun p hp => ⟨p, _, rfl, .inl upd_same, fun l hl => ?_⟩⟩
    rw [ek2]
    have hv : DvAll Δ1 ((ns.foldl insI []).map V.int) ((ns.foldl insI []).map PyData.int) := by
      generalize ns.foldl insI [] = ms
      induction ms with
      | nil => exact .nil
      | cons m ms ih => exact .cons (Dv.int m) ih
    exact k _ _ _ _ _ (q (ns.foldl insI []) (fun x => by rw [insI_all]; simp) (by have := insI_lens (ns := ns) (ks := []); simpa using this)) (s.trans (Sub.cons .rfl')) ((hS1.junk hp).lst hl hv) (Dv.of (List.mem_cons_self ..))
end EE

namespace EE
open PySem PySem.Spec PyProof.Rows L2
/-! ### isinstance of data -/
def sortD : D → Option String
  | .none => some "NoneType"
  | .bool _ => some "bool"
  | .int _ => some "int"
  | .str _ => some "str"
  | .tuple _ => some "tuple"
  | _ => none
theorem tyx_data {K : PySem.W.Frag} {H : Hp} {dk : Dk} {Γ : List (Addr × List D)} {Δ : List (V × D)} {v : V} {d : D} {s : String} (hS : St K H dk Γ Δ) (r : Dv Δ v d) (hs : sortD d = some s) : TyX K H v (.type s) := by
  cases d with
  | none => obtain rfl := Dv.isNon hS r; cases hs; exact .base .non
  | bool b => obtain rfl := Dv.isBl hS r; cases hs; exact .base (.bl b)
  | int i => obtain rfl := Dv.isInt hS r; cases hs; exact .base (.int i)
  | str x => obtain rfl := Dv.isStr hS r; cases hs; exact .base (.str x)
  | tuple ds =>
    cases hs
    obtain ⟨a, rfl⟩ := Dv.isRef hS r trivial
    obtain ⟨xs, h1, _⟩ := (hS.also r).lenT (List.mem_cons_self ..)
    rcases h1 with (e | ⟨o, e⟩) | h1
    · exact .base (.tup e)
    · exact .fTuple e
    · obtain ⟨o, _, _, e, c, _⟩ := h1
      exact .kTuple e c
  | list ds => cases hs
  | dict kvs => cases hs
theorem ev_isi {X : EC} {A : AE} {Γ : G} {ta : TE} {T : String} {Q : AV → G → Prop} (h : Ev X A Γ ta fun a Γ1 => ∃ d s b, a = .dat d ∧ sortD d = some s ∧ PySem.W.kitOne X.K (.type s) (.type T) = some b ∧ Q (dB b) Γ1) :
    Ev X A Γ (tCB (rIsi X.K) (tCons ta (tCons (tC (V.ty T)) tNil))) Q := fun σ H Δ R sb hS hE k =>
  h σ H Δ _ sb hS hE fun a Γ1 v H1 Δ1 q s1 hS1 r1 => by
    obtain ⟨d, s, b, rfl, hs, hk, q⟩ := q
    exact ⟨v, .ty T, _, _, b, rfl, .ty T, tyx_data hS1 r1 hs, hk, k _ _ _ _ Δ1 q s1 hS1 (Dv.bl b)⟩
theorem kit_same {K : PySem.W.Frag} {s : String} : PySem.W.kitOne K (.type s) (.type s) = some true := if_pos (beq_self_eq_true _)
theorem kit_int_bool {K : PySem.W.Frag} : PySem.W.kitOne K (.type "int") (.type "bool") = some false := by
  unfold PySem.W.kitOne
  rw [if_neg (by decide)]
  rfl
/-! ### calls by keyword in any order -/
theorem relL_app {Δ : List (V × D)} : ∀ {vs ws : List V} {as bs : List AV}, RelL Δ vs as → RelL Δ ws bs → RelL Δ (vs ++ ws) (as ++ bs)
  | _, _, _, _, .nil, h => h
  | _, _, _, _, .cons r t, h => .cons r (relL_app t h)
theorem relL_take {Δ : List (V × D)} : ∀ (n : Nat) {vs : List V} {as : List AV}, RelL Δ vs as → RelL Δ (vs.take n) (as.take n)
  | 0, _, _, _ => by rw [List.take_zero, List.take_zero]; exact .nil
  | n + 1, _, _, .nil => .nil
  | n + 1, _, _, .cons r t => .cons r (relL_take n t)
theorem relL_drop {Δ : List (V × D)} : ∀ (n : Nat) {vs : List V} {as : List AV}, RelL Δ vs as → RelL Δ (vs.drop n) (as.drop n)
  | 0, _, _, h => h
  | n + 1, _, _, .nil => .nil
  | n + 1, _, _, .cons _ t => relL_drop n t
/-- called by names, the first n last -/
theorem ev_callR (n : Nat) {X : EC} {A : AE} {Γ : G} {tr : TA} {Q : AV → G → Prop} {T : Dk → G → List AV → (AV → G → Prop) → Prop} {E : XK} (h : EvA X A Γ tr fun as Γ1 => ∀ R : AV → G → Prop, (∀ a Γ', Q a Γ' → R a Γ') → T X.dk Γ1 (as.drop n ++ as.take n) R) :
    Ev X A Γ (tCallK0 (SpA X.K T) (fun zs => zs.drop n ++ zs.take n) E tr) Q := fun σ H Δ R sb hS hE k =>
  h σ H Δ _ sb hS hE fun as Γ1 vs H1 Δ1 q s1 hS1 hL => ⟨X.dk, Γ1, Δ1, as.drop n ++ as.take n, hS1, relL_app (relL_drop n hL) (relL_take n hL), q _ fun a Γ' hq v H' Δ' s2 hS' ra => k a Γ' v H' Δ' hq (s1.trans s2) hS' ra⟩
/-! ### repr of None or of an object -/
def rReprN (K : PySem.W.Frag) : List V → Hp → VK → Prop := fun xs H Q => (xs = [.non] ∧ Q (.str (PyData.none).shown) H) ∨ rReprZ K xs H Q
theorem call_reprN {X : Cx} (hg : X.A.guards = some []) (hu : X.A.units + 64 < cLine) (e2 : PySem.W.nsIn X.K cStatics "sys.int_max_str_digits" = some none) : CallR X (.builtin "repr") (rReprN X.K) := by
  intro pins s σ H xs us Q I r h
  rcases h with ⟨rfl, q⟩ | h
  · obtain ⟨u, rfl, r1⟩ := vals1 r
    cases (show u = Value.none from r1)
    refine PySem.P.repr_of_none ⟨.str _, H, I.tok _, ⟨_, rfl⟩, ?_⟩
    rw [PyData.shown_none] at q
    exact q
  · exact call_reprZ hg hu e2 pins s σ H xs us Q I r h
theorem cb_reprN0 {X : EC} {Γ : G} {Q : AV → G → Prop} (q : Q (dS (PyData.none).shown) Γ) : Cb X Γ (rReprN X.K) [.dat .none] Q := fun xs H Δ R sb hS rl k => by
  obtain ⟨_, rfl, r1⟩ := rl.one
  obtain rfl := Dv.isNon hS r1
  exact .inl ⟨rfl, k _ _ _ _ Δ q .rfl' hS (Dv.str _)⟩
theorem cb_reprNZ {X : EC} {Γ : G} {Q : AV → G → Prop} {d : D} {n m : Nat} (hd : Disp d) (sm : SmZ n m d) (hn : n ≤ 16000000) (hk : m ≤ 60) (q : Q (dS d.shown) Γ) : Cb X Γ (rReprN X.K) [.dat d] Q := fun xs H Δ R sb hS rl k => .inr (cb_reprZ hd sm hn hk q xs H Δ R sb hS rl k)
/-- the arguments by names, the first n last -/
theorem rel_rot {us : List Value} {vs : List V} (n : Nat) (r : Vals vs us) : Vals (vs.drop n ++ vs.take n) (us.drop n ++ us.take n) := by
  have dr : ∀ (n : Nat) {vs : List V} {us : List Value}, Vals vs us → Vals (vs.drop n) (us.drop n) := fun n => by
    induction n with
    | zero => exact fun h => h
    | succ n ih => intro vs us h; cases h with
      | nil => exact .nil
      | cons _ t => exact ih t
  have tk : ∀ (n : Nat) {vs : List V} {us : List Value}, Vals vs us → Vals (vs.take n) (us.take n) := fun n => by
    induction n with
    | zero => intro vs us _; rw [List.take_zero, List.take_zero]; exact .nil
    | succ n ih => intro vs us h; cases h with
      | nil => exact .nil
      | cons r t => exact .cons r (ih t)
  have ap : ∀ {as bs : List V} {cs ds : List Value}, Vals as cs → Vals bs ds → Vals (as ++ bs) (cs ++ ds) := fun {as bs cs ds} h k => by
    induction h with
    | nil => exact k
    | cons r _ ih => exact .cons r ih
  exact ap (dr n r) (tk n r)
theorem _root_.L2.Fun.kbR {K : PySem.W.Frag} {x qual : Str} {st : Stmt} {f : Addr} {fd : FuncData} {ps ks : List Str} (n : Nat) (F : Fun K x qual st f fd)
    (h : ∀ (kV doc pm : Value) (an : Option Addr) (cdv ct : Value) (us : List Value), us.length = ps.length → bindArgs (PySem.W.fnOf x qual (defArgs st) (defBody st) (defScope st) .none kV doc pm an cdv ct) ⟨[], ks.zip us⟩ = pure (ps.zip (us.drop n ++ us.take n))) :
    KB fd K ps ks (fun ws => ws.drop n ++ ws.take n) (fun zs => zs.drop n ++ zs.take n) := by
  obtain ⟨oc, od, kV, doc, pm, an, cdv, ct, osl, rfl, lk, hcd⟩ := F.ex
  refine ⟨fun s ws _ hl => .of_eq (h kV doc pm an cdv ct ws ?_), fun r => rel_rot n r⟩
  rw [List.length_append, List.length_drop, List.length_take] at hl
  omega
end EE

namespace EE
open PySem PySem.Spec PyProof.Rows L2
/-! ### promises of defs that may raise an own error -/
def SpX (K : PySem.W.Frag) (T : Dk → G → List AV → (AV → G → Prop) → (Value → G → Prop) → Prop) : Sp := fun vs H Q E => ∃ dk Γ Δ as, St K H dk Γ Δ ∧ RelL Δ vs as ∧
  T dk Γ as (fun a Γ' => ∀ v H' Δ', Sub Δ Δ' → St K H' dk Γ' Δ' → RelA Δ' v a → Q v H') fun c Γ' => ∀ H' Δ', Sub Δ Δ' → St K H' dk Γ' Δ' → E c none H'
/-- behind a raise: the error of class c goes on to F -/
def Xc (X : EC) (A : AE) (Γ : G) (c : Value) (F : L2.St → XK) : Prop := ∀ (σ : L2.St) (H : Hp) (Δ : List (V × D)), Sub X.B Δ → St X.K H X.dk Γ Δ → RelE Δ σ A → F σ c none H
theorem passes_no {X : Cx} (σ : L2.St) : PassesAt (L2.CX X.prog X.w) X σ ((fun _ _ _ _ => False : L2.St → XK) σ) := fun _ _ _ _ _ _ ⟨_, _, _, _, _, _, _, _, _, _, _, _, z⟩ => z.elim
section
variable {X : EC} {A : AE} {Γ : G} {Q : AV → G → Prop} {tr : TA} {T : Dk → G → List AV → (AV → G → Prop) → (Value → G → Prop) → Prop} {F : L2.St → XK}
theorem ev_callX (h : EvA X A Γ tr fun as Γ1 => ∀ (R : AV → G → Prop) (S : Value → G → Prop), (∀ a Γ', Q a Γ' → R a Γ') → (∀ c Γ', Xc X A Γ' c F → S c Γ') → T X.dk Γ1 as R S) : Ev X A Γ (tCallS (SpX X.K T) F tr) Q := fun σ H Δ R sb hS hE k =>
  h σ H Δ _ sb hS hE fun as Γ1 vs H1 Δ1 q s hS1 hL => ⟨X.dk, Γ1, Δ1, as, hS1, hL, q _ _ (fun a Γ' hq v H' Δ' s2 hS' ra => k a Γ' v H' Δ' hq (s.trans s2) hS' ra) fun c Γ' hx H' Δ' s2 hS' => hx σ H' Δ' (sb.trans (s.trans s2)) hS' (hE.sub (s.trans s2))⟩
theorem ev_callXR (n : Nat) (h : EvA X A Γ tr fun as Γ1 => ∀ (R : AV → G → Prop) (S : Value → G → Prop), (∀ a Γ', Q a Γ' → R a Γ') → (∀ c Γ', Xc X A Γ' c F → S c Γ') → T X.dk Γ1 (as.drop n ++ as.take n) R S) :
    Ev X A Γ (tCallKS (SpX X.K T) (fun zs => zs.drop n ++ zs.take n) F tr) Q := fun σ H Δ R sb hS hE k =>
  h σ H Δ _ sb hS hE fun as Γ1 vs H1 Δ1 q s hS1 hL => ⟨X.dk, Γ1, Δ1, _, hS1, relL_app (relL_drop n hL) (relL_take n hL), q _ _ (fun a Γ' hq v H' Δ' s2 hS' ra => k a Γ' v H' Δ' hq (s.trans s2) hS' ra) fun c Γ' hx H' Δ' s2 hS' => hx σ H' Δ' (sb.trans (s.trans s2)) hS' (hE.sub (s.trans s2))⟩
theorem ev_callXV (h : EvA X A Γ tr fun as Γ1 => ∀ (R : AV → G → Prop) (S : Value → G → Prop), (∀ a Γ', Q a Γ' → R a Γ') → (∀ c Γ', Xc X A Γ' c F → S c Γ') → T X.dk Γ1 as.reverse R S) :
    Ev X A Γ (tCallKS (SpX X.K T) (fun zs => zs.reverse) F tr) Q := fun σ H Δ R sb hS hE k =>
  h σ H Δ _ sb hS hE fun as Γ1 vs H1 Δ1 q s hS1 hL => ⟨X.dk, Γ1, Δ1, _, hS1, hL.reverse, q _ _ (fun a Γ' hq v H' Δ' s2 hS' ra => k a Γ' v H' Δ' hq (s.trans s2) hS' ra) fun c Γ' hx H' Δ' s2 hS' => hx σ H' Δ' (sb.trans (s.trans s2)) hS' (hE.sub (s.trans s2))⟩
end
section
variable {X : EC} {A : AE} {Γ : G} {E : Ends} {t : TS} {c : Value} {C : Addr} {F : XK} {ts : Addr → Value → Option Addr → TS} {Wout : WX}
/-- raise C() -/
def Rx (X : EC) (Γ : G) (c : Value) (F : XK) : Prop := ∀ (H : Hp) (Δ : List (V × D)), Sub X.B Δ → St X.K H X.dk Γ Δ → F c none H
theorem do_raise (h : Rx X Γ (.ref C) F) : Do X A Γ (fun _ _ H => F (.ref C) none H) E := fun σ H Δ sb hS hE => h H Δ sb hS
theorem Rx.mono {B : List (V × D)} (s : Sub X.B B) (h : Rx X Γ c F) : Rx (X.on B) Γ c F := fun H Δ sb hS => h H Δ (s.trans sb) hS
/-- what is raised by a call goes out of the def -/
theorem xc_out (h : Rx X Γ c F) : Xc X A Γ c (fun σ => WE (fun cls d _ H => F cls d H) σ) := fun σ H Δ sb hS hE => h H Δ sb hS
theorem do_at (h : Do X A Γ (fun _ σ H => t E σ H) E) : Do X A Γ t E := h
theorem do_un (h : Do X A Γ t E) : Do X A Γ (fun _ σ H => t E σ H) E := h
/-- what is raised by a call is taken by the clause 'except S' -/
theorem xc_only {S : Addr} (he : PySem.W.exmOne X.K (.ref S) c = some true) (h : ∀ a, Do X A Γ (ts a (.ref S) none) E) : Xc X A Γ (.ref S) (fun σ => WE (wOnly X.K c ts Wout E) σ) := fun σ H Δ sb hS hE =>
  ⟨true, he, fun _ a _ => h a σ H Δ sb hS hE, fun z => Bool.noConfusion z⟩
end
/-! ### what is told of the class Unfit -/
structure UnfitC (K : PySem.W.Frag) (mg : Str → Option Value) (CU : Addr) : Prop where
  g : mg "Unfit" = some (.ref CU)
  x : PySem.W.excIn K CU [.type "ValueError", .type "Exception", .type "BaseException", .type "object"] "ValueError.__new__" = true
  k : PySem.W.keepIn K (.ref CU) = true
  b : PySem.W.subIn K (.ref CU) (.type "BaseException") = some true
  t : PySem.W.typeIn K (.ref CU) = some (.type "type")
  e : PySem.W.exmOne K (.ref CU) (.ref CU) = some true
section
variable {X : EC} {Γ : G} {Q : AV → G → Prop} {a b : Bool}
theorem op_isB2 (q : Q (dB (decide (a = b))) Γ) : Op X Γ rIsB (dB a) (dB b) Q := fun u v H Δ R sb hS r1 r2 k => by
  obtain rfl := r1.isB hS
  obtain rfl := r2.isB hS
  exact ⟨a, b, rfl, rfl, k _ _ _ _ Δ q .rfl' hS (Dv.bl _)⟩
theorem op_notB2 (q : Q (dB (!decide (a = b))) Γ) : Op X Γ rNotB (dB a) (dB b) Q := fun u v H Δ R sb hS r1 r2 k => by
  obtain rfl := r1.isB hS
  obtain rfl := r2.isB hS
  exact ⟨a, b, rfl, rfl, k _ _ _ _ Δ q .rfl' hS (Dv.bl _)⟩
end
end EE

namespace K49
open PySem PySem.Spec PyProof.Rows L2 EE
def topS (i : Nat) : Stmt := PySem.Challenge.pw_everyexact_k49_whole_products_exactly_by.main.body.getD i (.Pass ⟨0, 0, 0, 0⟩)
abbrev spower : Stmt := topS 5
theorem scpower : FnScope ["base", "exponent", "result", "_"] ["base", "exponent"] (defScope spower) := ⟨rfl, rfl, rfl, by decide +kernel, rfl, by decide +kernel, by decide +kernel⟩
abbrev sgoes : Stmt := topS 6
theorem scgoes : FnScope ["base", "number", "many", "rest"] ["base", "number"] (defScope sgoes) := ⟨rfl, rfl, rfl, by decide +kernel, rfl, by decide +kernel, by decide +kernel⟩
abbrev sstripped : Stmt := topS 7
theorem scstripped : FnScope ["base", "number", "rest"] ["base", "number"] (defScope sstripped) := ⟨rfl, rfl, rfl, by decide +kernel, rfl, by decide +kernel, by decide +kernel⟩
abbrev skeepable : Stmt := topS 9
theorem sckeepable : FnScope ["base", "figures", "number"] ["base", "figures", "number"] (defScope skeepable) := ⟨rfl, rfl, rfl, by decide +kernel, rfl, by decide +kernel, by decide +kernel⟩
abbrev sprimes_of : Stmt := topS 13
theorem scprimes_of : FnScope ["base", "primes", "rest", "prime"] ["base"] (defScope sprimes_of) := ⟨rfl, rfl, rfl, by decide +kernel, rfl, by decide +kernel, by decide +kernel⟩
abbrev sdivisor : Stmt := topS 16
theorem scdivisor : FnScope ["base", "prime", "number"] ["base", "prime", "number"] (defScope sdivisor) := ⟨rfl, rfl, rfl, by decide +kernel, rfl, by decide +kernel, by decide +kernel⟩
abbrev sheavy_places : Stmt := topS 15
theorem scheavy_places : FnScope ["base", "prime", "numbers", "place", "number"] ["base", "prime", "numbers"] (defScope sheavy_places) := ⟨rfl, rfl, rfl, by decide +kernel, rfl, by decide +kernel, by decide +kernel⟩
abbrev sshare : Stmt := topS 14
theorem scshare : FnScope ["base", "prime", "numbers", "above", "below", "place", "common"] ["base", "prime", "numbers"] (defScope sshare) := ⟨rfl, rfl, rfl, by decide +kernel, rfl, by decide +kernel, by decide +kernel⟩
abbrev sshares : Stmt := topS 11
theorem scshares : FnScope ["base", "numbers", "prime"] ["base", "numbers"] (defScope sshares) := ⟨rfl, rfl, rfl, by decide +kernel, rfl, by decide +kernel, by decide +kernel⟩
abbrev sbad_lot : Stmt := topS 12
theorem scbad_lot : FnScope ["base", "figures", "numbers", "end", "prime", "above", "below"] ["base", "figures", "numbers"] (defScope sbad_lot) := ⟨rfl, rfl, rfl, by decide +kernel, rfl, by decide +kernel, by decide +kernel⟩
abbrev sproducts_exact : Stmt := topS 10
theorem scproducts_exact : FnScope ["base", "figures", "numbers"] ["base", "figures", "numbers"] (defScope sproducts_exact) := ⟨rfl, rfl, rfl, by decide +kernel, rfl, by decide +kernel, by decide +kernel⟩
abbrev s_law_deck : Stmt := topS 18
theorem sc_law_deck : FnScope ["script", "cells", "own", "stamp"] ["script"] (defScope s_law_deck) := ⟨rfl, rfl, rfl, by decide +kernel, rfl, by decide +kernel, by decide +kernel⟩
abbrev s_law_draw : Stmt := topS 19
theorem sc_law_draw : FnScope ["deck", "many", "deep", "own", "count", "cells", "mixed", "turn"] ["deck", "many"] (defScope s_law_draw) := ⟨rfl, rfl, rfl, by decide +kernel, rfl, by decide +kernel, by decide +kernel⟩
abbrev s_law_pick : Stmt := topS 20
theorem sc_law_pick : FnScope ["deck", "things"] ["deck", "things"] (defScope s_law_pick) := ⟨rfl, rfl, rfl, by decide +kernel, rfl, by decide +kernel, by decide +kernel⟩
abbrev s_law_great : Stmt := topS 21
theorem sc_law_great : FnScope ["deck", "many", "found", "turn"] ["deck", "many"] (defScope s_law_great) := ⟨rfl, rfl, rfl, by decide +kernel, rfl, by decide +kernel, by decide +kernel⟩
abbrev s_law_power : Stmt := topS 22
theorem sc_law_power : FnScope ["base", "times", "found", "turn"] ["base", "times"] (defScope s_law_power) := ⟨rfl, rfl, rfl, by decide +kernel, rfl, by decide +kernel, by decide +kernel⟩
abbrev s_law_whole : Stmt := topS 23
theorem sc_law_whole : FnScope ["base", "number", "left", "times"] ["base", "number"] (defScope s_law_whole) := ⟨rfl, rfl, rfl, by decide +kernel, rfl, by decide +kernel, by decide +kernel⟩
abbrev s_law_primes : Stmt := topS 24
theorem sc_law_primes : FnScope ["number", "found", "left", "prime"] ["number"] (defScope s_law_primes) := ⟨rfl, rfl, rfl, by decide +kernel, rfl, by decide +kernel, by decide +kernel⟩
abbrev s_law_plain : Stmt := topS 25
theorem sc_law_plain : FnScope ["deck", "found", "prime"] ["deck"] (defScope s_law_plain) := ⟨rfl, rfl, rfl, by decide +kernel, rfl, by decide +kernel, by decide +kernel⟩
abbrev s_law_factor : Stmt := topS 26
theorem sc_law_factor : FnScope ["deck", "base", "found", "prime", "turn"] ["deck", "base"] (defScope s_law_factor) := ⟨rfl, rfl, rfl, by decide +kernel, rfl, by decide +kernel, by decide +kernel⟩
abbrev s_law_weight : Stmt := topS 27
theorem sc_law_weight : FnScope ["base", "prime", "number", "left", "noughts"] ["base", "prime", "number"] (defScope s_law_weight) := ⟨rfl, rfl, rfl, by decide +kernel, rfl, by decide +kernel, by decide +kernel⟩
abbrev s_law_share : Stmt := topS 28
theorem sc_law_share : FnScope ["base", "prime", "numbers", "above", "below", "number", "value", "noughts"] ["base", "prime", "numbers"] (defScope s_law_share) := ⟨rfl, rfl, rfl, by decide +kernel, rfl, by decide +kernel, by decide +kernel⟩
abbrev s_law_is_due : Stmt := topS 29
theorem sc_law_is_due : FnScope ["base", "figures", "numbers", "top", "prime", "above", "below"] ["base", "figures", "numbers"] (defScope s_law_is_due) := ⟨rfl, rfl, rfl, by decide +kernel, rfl, by decide +kernel, by decide +kernel⟩
abbrev s_law_coprime : Stmt := topS 30
theorem sc_law_coprime : FnScope ["base", "number", "found", "prime"] ["base", "number"] (defScope s_law_coprime) := ⟨rfl, rfl, rfl, by decide +kernel, rfl, by decide +kernel, by decide +kernel⟩
abbrev s_law_numbers : Stmt := topS 31
theorem sc_law_numbers : FnScope ["deck", "base", "top", "prime", "goal", "found", "turn", "rest", "own"] ["deck", "base", "top"] (defScope s_law_numbers) := ⟨rfl, rfl, rfl, by decide +kernel, rfl, by decide +kernel, by decide +kernel⟩
abbrev s_law_many : Stmt := topS 32
theorem sc_law_many : FnScope ["deck", "base", "top", "found", "product", "turn", "own"] ["deck", "base", "top"] (defScope s_law_many) := ⟨rfl, rfl, rfl, by decide +kernel, rfl, by decide +kernel, by decide +kernel⟩
abbrev s_law_is_bad : Stmt := topS 33
theorem sc_law_is_bad : FnScope ["base", "figures", "numbers", "told", "product", "last", "place"] ["base", "figures", "numbers", "told"] (defScope s_law_is_bad) := ⟨rfl, rfl, rfl, by decide +kernel, rfl, by decide +kernel, by decide +kernel⟩
abbrev s_law_is_told : Stmt := topS 34
theorem sc_law_is_told : FnScope ["base", "figures", "numbers", "due", "told", "lot", "prime", "above", "below", "own", "product", "number"] ["base", "figures", "numbers"] (defScope s_law_is_told) := ⟨rfl, rfl, rfl, by decide +kernel, rfl, by decide +kernel, by decide +kernel⟩
abbrev s_law_refused : Stmt := topS 35
theorem sc_law_refused : FnScope ["base", "figures", "numbers", "way"] ["base", "figures", "numbers", "way"] (defScope s_law_refused) := ⟨rfl, rfl, rfl, by decide +kernel, rfl, by decide +kernel, by decide +kernel⟩
abbrev s_law_are_refused : Stmt := topS 36
theorem sc_law_are_refused : FnScope ["deck", "base", "prime", "numbers", "told", "way"] ["deck"] (defScope s_law_are_refused) := ⟨rfl, rfl, rfl, by decide +kernel, rfl, by decide +kernel, by decide +kernel⟩
abbrev slaw : Stmt := topS 37
theorem sclaw : FnScope ["script", "deck", "turn", "base", "figures", "numbers", "known", "some", "number"] ["script"] (defScope slaw) := ⟨rfl, rfl, rfl, by decide +kernel, rfl, by decide +kernel, by decide +kernel⟩
def splaw (K : PySem.W.Frag) : Sp := fun vs H Q _ => ∃ (a : Addr) (ns : List Int), vs = [.ref a] ∧ SqL K H a (ns.map V.int) ∧ ns.length ≤ 63 ∧ ∀ H', Q (.bl true) H'
abbrev psD (ps : List Nat) : D := .list (ps.map fun p : Nat => PyData.int (p : Int))
def sp_law_primes (K : PySem.W.Frag) : Sp := SpA K fun _ Γ as k => ∃ n : Nat, as = [dI (n : Int)] ∧ 2 ≤ n ∧ n ≤ 1000 ∧ ∀ ps, PL n ps → k (.dat (psD ps)) Γ
def sp_law_plain (K : PySem.W.Frag) : Sp := SpA K fun dk Γ as k => ∃ d l, as = [.ref d] ∧ dk = some (d, l) ∧ ∀ (b : Nat) (ps : List Nat), Plain b ps → 2 ≤ b → b ≤ 1000 → k (dI (b : Int)) Γ
def sp_law_factor (K : PySem.W.Frag) : Sp := SpA K fun dk Γ as k => ∃ (d l : Addr) (b : Nat) (ps : List Nat), as = [.ref d, dI (b : Int)] ∧ dk = some (d, l) ∧ Plain b ps ∧ 2 ≤ b ∧ b ≤ 1000 ∧ ∀ r : Int, 1 ≤ r → r ≤ 10 ^ 60 → k (dI r) Γ
/-- the share of p is below the end -/
def Below (b f : Nat) (ns : List Int) (p : Nat) : Prop := abv b p (natsOf ns) < blw b p (natsOf ns) * b ^ f
noncomputable def heavyD (b p : Nat) (ns : List Int) : D := .tuple ((heavyL b p ns).map fun x => .int (x.2 : Int))
def Sq (b : Nat) : Prop := ∃ q, Pr q ∧ q * q ∣ b
theorem not_sq {b : Nat} {ps : List Nat} (h : Plain b ps) : ¬ Sq b := fun ⟨q, hq, hd⟩ => h.sqf hq hd
def spprimes_of (K : PySem.W.Frag) (mg : Str → Option Value) : Sp := SpX K fun _ Γ as k x => ∃ b : Nat, as = [dI (b : Int)] ∧ 2 ≤ b ∧ b ≤ 1000 ∧ (∀ ps, Plain b ps → k (.dat (psD ps)) Γ) ∧ (Sq b → ∀ C, mg "Unfit" = some (.ref C) → x (.ref C) Γ)
def spshares (K : PySem.W.Frag) (mg : Str → Option Value) : Sp := SpX K fun _ Γ as k x => ∃ (b : Nat) (ns : List Int), as = [dI (b : Int), .dat (intsT ns)] ∧ 2 ≤ b ∧ b ≤ 1000 ∧ OkN ns ∧ (∀ ps, Plain b ps → k (.dat (.tuple (ps.map (shareD b ns)))) Γ) ∧ (Sq b → ∀ C, mg "Unfit" = some (.ref C) → x (.ref C) Γ)
def spbad_lot (K : PySem.W.Frag) (mg : Str → Option Value) : Sp := SpX K fun _ Γ as k x => ∃ (b f : Nat) (ns : List Int), as = [dI (b : Int), dI (f : Int), .dat (intsT ns)] ∧ 2 ≤ b ∧ b ≤ 1000 ∧ f ≤ 60 ∧ OkN ns ∧
  (∀ ps, Plain b ps → (∀ p ∈ ps, Below b f ns p) → k (.dat .none) Γ) ∧ (∀ ps, Plain b ps → ∀ p ∈ ps, ¬ Below b f ns p → k (.dat (heavyD b p ns)) Γ) ∧ (Sq b → ∀ C, mg "Unfit" = some (.ref C) → x (.ref C) Γ)
def spproducts_exact (K : PySem.W.Frag) (mg : Str → Option Value) : Sp := SpX K fun _ Γ as k x => ∃ (b f : Nat) (ns : List Int), as = [dI (b : Int), dI (f : Int), .dat (intsT ns)] ∧ 2 ≤ b ∧ b ≤ 1000 ∧ f ≤ 60 ∧ OkN ns ∧
  (∀ ps, Plain b ps → ∀ r : Bool, (r = true ↔ ∀ p ∈ ps, Below b f ns p) → k (dB r) Γ) ∧ (Sq b → ∀ C, mg "Unfit" = some (.ref C) → x (.ref C) Γ)
def spkeepable (K : PySem.W.Frag) : Sp := SpA K fun _ Γ as k => ∃ (b : Int) (f : Nat) (n : Int), as = [dI b, dI (f : Int), dI n] ∧ 2 ≤ b ∧ b ≤ 1000 ∧ f ≤ 400 ∧ ∀ z : Bool, (z = true ↔ Keep b f n) → k (dB z) Γ
def sp_law_weight (K : PySem.W.Frag) : Sp := SpA K fun _ Γ as k => ∃ (b p : Nat) (n : Int), as = [dI (b : Int), dI (p : Int), dI n] ∧ 2 ≤ b ∧ b ≤ 1000 ∧ 2 ≤ p ∧ p ≤ 1000 ∧ n ≠ 0 ∧ n.natAbs ≤ 10 ^ 60 ∧ k (.dat (.tuple [.int (n.natAbs : Int), .int ((b ^ vl p n.natAbs : Nat) : Int)])) Γ
noncomputable def wholeD (b p : Nat) (ns : List Int) : D := .tuple [.int (abv b p (natsOf ns) : Int), .int (blw b p (natsOf ns) : Int)]
def sp_law_share (K : PySem.W.Frag) : Sp := SpA K fun _ Γ as k => ∃ (b p : Nat) (ns : List Int), as = [dI (b : Int), dI (p : Int), .dat (intsT ns)] ∧ 2 ≤ b ∧ b ≤ 1000 ∧ 2 ≤ p ∧ p ≤ 1000 ∧ OkN ns ∧ k (.dat (wholeD b p ns)) Γ
def sp_law_is_due (K : PySem.W.Frag) : Sp := SpA K fun _ Γ as k => ∃ (b f : Nat) (ps : List Nat) (ns : List Int), as = [dI (b : Int), dI (f : Int), .dat (intsT ns)] ∧ Plain b ps ∧ 2 ≤ b ∧ b ≤ 1000 ∧ f ≤ 60 ∧ OkN ns ∧
  ∀ r : Bool, (r = true ↔ ∀ p ∈ ps, Below b f ns p) → k (dB r) Γ
def sp_law_coprime (K : PySem.W.Frag) : Sp := SpA K fun _ Γ as k => ∃ (b : Nat) (n : Int), as = [dI (b : Int), dI n] ∧ 2 ≤ b ∧ b ≤ 1000 ∧ n ≤ 10 ^ 190 ∧ ∀ r : Int, 1 ≤ r → n ≤ r → r ≤ max 1 n + 2000 → k (dI r) Γ
def sp_law_numbers (K : PySem.W.Frag) : Sp := SpA K fun dk Γ as k => ∃ (d l : Addr) (b : Nat) (ps : List Nat) (t : Int), as = [.ref d, dI (b : Int), dI t] ∧ dk = some (d, l) ∧ Plain b ps ∧ 2 ≤ b ∧ b ≤ 1000 ∧ 2 ≤ t ∧ t ≤ 10 ^ 180 ∧ ∀ ns, OkN ns → k (.dat (intsT ns)) Γ
def sp_law_many (K : PySem.W.Frag) : Sp := SpA K fun dk Γ as k => ∃ (d l : Addr) (b : Nat) (ps : List Nat) (t : Int), as = [.ref d, dI (b : Int), dI t] ∧ dk = some (d, l) ∧ Plain b ps ∧ 2 ≤ b ∧ b ≤ 1000 ∧ 2 ≤ t ∧ t ≤ 10 ^ 180 ∧ ∀ ns, OkN ns → k (.dat (intsT ns)) Γ
def sp_law_is_bad (K : PySem.W.Frag) : Sp := SpA K fun _ Γ as k => ∃ (b f p : Nat) (ps : List Nat) (ns : List Int), as = [dI (b : Int), dI (f : Int), .dat (intsT ns), .dat (heavyD b p ns)] ∧ Plain b ps ∧ p ∈ ps ∧ 2 ≤ b ∧ b ≤ 1000 ∧ f ≤ 60 ∧ OkN ns ∧ ¬ Below b f ns p ∧ k (dB true) Γ
def sp_law_is_told (K : PySem.W.Frag) : Sp := SpA K fun _ Γ as k => ∃ (b f : Nat) (ps : List Nat) (ns : List Int), as = [dI (b : Int), dI (f : Int), .dat (intsT ns)] ∧ Plain b ps ∧ 2 ≤ b ∧ b ≤ 1000 ∧ f ≤ 60 ∧ OkN ns ∧ k (dB true) Γ
def sp_law_refused (K : PySem.W.Frag) : Sp := SpA K fun _ Γ as k => ∃ (b f : Nat) (ns : List Int) (w : Int), as = [dI (b : Int), dI (f : Int), .dat (intsT ns), dI w] ∧ 2 ≤ b ∧ b ≤ 1000 ∧ f ≤ 60 ∧ OkN ns ∧ Sq b ∧ k (.dat (.list [.str "unfit"])) Γ
def sp_law_are_refused (K : PySem.W.Frag) : Sp := SpA K fun dk Γ as k => ∃ d l, as = [.ref d] ∧ dk = some (d, l) ∧ k (dB true) Γ
theorem Rx.drop {X : EC} {Γ Γ' : G} {p : Addr} {ds : List D} {c : Value} {F : XK} (hk : Rem Γ p ds Γ') (h : Rx X Γ' c F) : Rx X Γ c F := fun H Δ sb hS => h H Δ sb (hS.drop2 hk)
theorem plain_eq {b : Nat} {ps qs : List Nat} (h : Plain b ps) (k : Plain b qs) : qs = ps := k.pl.uniq h.pl
theorem red_mul {a c e : Nat} (hc : 0 < c) : (red a c).1 < (red a c).2 * e ↔ a < c * e := by
  have g : 0 < Nat.gcd a c := Nat.gcd_pos_of_pos_right _ hc
  obtain ⟨x, hx⟩ := Nat.gcd_dvd_left a c
  obtain ⟨y, hy⟩ := Nat.gcd_dvd_right a c
  unfold red
  generalize Nat.gcd a c = d at g hx hy
  subst hx hy
  dsimp only
  rw [Nat.mul_div_cancel_left _ g, Nat.mul_div_cancel_left _ g, Nat.mul_assoc]
  exact ⟨fun h => Nat.mul_lt_mul_of_pos_left h g, fun h => Nat.lt_of_mul_lt_mul_left h⟩
theorem below_red {b f p : Nat} {ns : List Int} (hb : 2 ≤ b) (hN : OkN ns) (hp : 2 ≤ p) : Below b f ns p ↔ ¬ ((redOf b p ns).2 : Int) * (b : Int) ^ f ≤ ((redOf b p ns).1 : Int) := by
  have e := red_mul (a := abv b p (natsOf ns)) (e := b ^ f) (blw_pos (b := b) (p := p) (ns := natsOf ns) (by omega))
  unfold Below redOf
  rw [← e]
  have e2 : (((red (abv b p (natsOf ns)) (blw b p (natsOf ns))).2 : Nat) : Int) * (b : Int) ^ f = (((red (abv b p (natsOf ns)) (blw b p (natsOf ns))).2 * b ^ f : Nat) : Int) := by
    rw [Int.natCast_mul, Int.natCast_pow]
  rw [e2]
  omega
theorem keepN_core {b n r k g : Nat} (hb : 2 ≤ b) (h0 : 0 < n) (e : n = r * b ^ k) (hr : ¬ b ∣ r) : KeepN b g n ↔ r < b ^ g := by
  constructor
  · rintro ⟨m, j, e2, hm⟩
    -- r * b^k = m * b^j, b does not divide r: j ≤ k
    have hjk : j ≤ k := Nat.le_of_not_lt fun hlt => hr (by
      obtain ⟨d, rfl⟩ : ∃ d, j = k + 1 + d := ⟨j - (k + 1), by omega⟩
      have e3 : b ^ k * r = b ^ k * (b * (m * b ^ d)) := by
        rw [Nat.mul_comm, ← e, e2, Nat.pow_add, Nat.pow_succ]
        ac_rfl
      rw [Nat.eq_of_mul_eq_mul_left (Nat.pow_pos (by omega)) e3]
      exact Nat.dvd_mul_right ..)
    obtain ⟨d, rfl⟩ : ∃ d, k = j + d := ⟨k - j, by omega⟩
    have e3 : b ^ j * (r * b ^ d) = b ^ j * m := by
      rw [Nat.mul_comm (b ^ j) m, ← e2, e, Nat.pow_add]
      ac_rfl
    have e4 := Nat.eq_of_mul_eq_mul_left (Nat.pow_pos (by omega)) e3
    have : r * 1 ≤ r * b ^ d := Nat.mul_le_mul_left _ (Nat.pow_pos (by omega))
    omega
  · exact fun h => ⟨r, k, e, h⟩
theorem lt_pow_iff {b r m : Nat} (hb : 2 ≤ b) (h1 : r < b ^ m) (h2 : m = 0 ∨ b ^ (m - 1) ≤ r) (g : Nat) : r < b ^ g ↔ m ≤ g := by
  constructor
  · intro h
    rcases h2 with h2 | h2
    · omega
    · refine Nat.le_of_not_lt fun hlt => ?_
      have := Nat.pow_le_pow_right (show 0 < b by omega) (show g ≤ m - 1 by omega)
      omega
  · intro h
    exact Nat.lt_of_lt_of_le h1 (Nat.pow_le_pow_right (by omega) h)
theorem core_of {b : Nat} {n : Int} {r t : Nat} (hb : 2 ≤ b) (h1 : (r : Int) % (b : Int) ≠ 0) (h2 : ((n.natAbs : Nat) : Int) = (r : Int) * (b : Int) ^ t) : n.natAbs = r * b ^ t ∧ ¬ b ∣ r := by
  refine ⟨?_, fun z => ?_⟩
  · have : ((n.natAbs : Nat) : Int) = ((r * b ^ t : Nat) : Int) := by rw [h2, Int.natCast_mul, Int.natCast_pow]
    exact Int.ofNat.inj this
  · obtain ⟨c, rfl⟩ := z
    exact h1 (by rw [Int.natCast_mul]; exact Int.mul_emod_right ..)
theorem heavy_asc (b p : Nat) (ns : List Int) : (heavyL b p ns).Pairwise fun x y => x.2 < y.2 := by
  unfold heavyL
  refine List.Pairwise.filter _ ?_
  rw [List.pairwise_iff_getElem]
  intro i j hi hj hij
  rw [List.getElem_zipIdx, List.getElem_zipIdx]
  show 0 + i < 0 + j
  omega
theorem asc_take {ps : List Nat} (h : ps.Pairwise (· < ·)) {i p q : Nat} (hp : ps[i]? = some p) (hq : q ∈ ps) (hl : q < p) : q ∈ ps.take i := by
  obtain ⟨j, hj, rfl⟩ := List.getElem_of_mem hq
  obtain ⟨hi, rfl⟩ := List.getElem?_eq_some_iff.mp hp
  have hji : j < i := Nat.lt_of_not_le fun hle => by
    rcases Nat.lt_or_eq_of_le hle with h1 | h1
    · have := List.pairwise_iff_getElem.mp h i j hi hj h1
      omega
    · subst h1
      omega
  exact List.mem_take_iff_getElem.mpr ⟨j, by omega, rfl⟩
theorem bool_of {r s : Bool} {P : Prop} (h1 : r = true ↔ P) (h2 : s = true ↔ P) : s = r := by
  cases r <;> cases s <;> simp_all
theorem smz_bl (b : Bool) : SmZ 5 0 (.bool b : D) := ⟨by simp only [showZ], by simp only [PyData.depth]; exact Nat.le_refl 0, by simp only [PyData.shown]; cases b <;> decide⟩
theorem smz_bl3 (b : Bool) : SmZ 24 1 (.list [.bool b, .bool b, .bool b] : D) := smz_list (n := 5) (k := 0) (ds := [.bool b, .bool b, .bool b]) fun d hd => by
  simp only [List.mem_cons, List.not_mem_nil, or_false] at hd
  rcases hd with rfl | rfl | rfl <;> exact smz_bl b
theorem sm_heavy {b p : Nat} {ns : List Int} (hN : OkN ns) : SmZ 300 1 (heavyD b p ns) := by
  refine (smz_tuple (n := 2 + 1) (k := 0) fun d hd => ?_).mono ?_ (Nat.le_refl _)
  · obtain ⟨x, hx, rfl⟩ := List.mem_map.mp hd
    have := (List.getElem?_eq_some_iff.mp (heavy_at hx)).1
    have := hN.1
    exact smz_int (k := 2) (by show x.2 < 10 ^ 2; omega) (by decide) (by decide)
  · rw [List.length_map]
    have := Nat.le_trans (heavy_len (b := b) (p := p) (ns := ns)) hN.1
    omega
theorem Rt.dropL {X : EC} {Γ : G} {a : AV} {R : VK} (h : Rt X Γ a R) : ∀ {L : G}, Rt X (L ++ Γ) a R
  | [] => h
  | (_, _) :: L => Rt.drop .here (Rt.dropL h (L := L))
theorem fmI {g : Int → Int} {c : Int → Bool} : ∀ {xs : List Int}, xs.filterMap (fun n => if c n then some (PyData.int (g n)) else none) = ((xs.filter c).map g).map PyData.int
  | [] => rfl
  | x :: xs => by
    rw [List.filterMap_cons]
    cases h : c x with
    | true => rw [if_pos rfl, List.filter_cons_of_pos h, List.map_cons, List.map_cons, fmI]
    | false => rw [if_neg Bool.false_ne_true, List.filter_cons_of_neg (by rw [h]; exact Bool.false_ne_true), fmI]
def prB (p : Nat) : Bool := decide (2 ≤ p) && (List.range (p + 1)).all fun d => decide (d = 0) || decide (d = 1) || decide (d = p) || decide (p % d ≠ 0)
theorem pr_dec {p : Nat} (h : prB p = true) : Pr p := by
  obtain ⟨h1, h2⟩ := Bool.and_eq_true_iff.mp h
  have p2 : 2 ≤ p := of_decide_eq_true h1
  refine ⟨p2, fun d hd => ?_⟩
  have hle : d ≤ p := Nat.le_of_dvd (by omega) hd
  have h3 := List.all_eq_true.mp h2 d (List.mem_range.mpr (by omega))
  simp only [Bool.or_eq_true, decide_eq_true_eq] at h3
  rcases h3 with ((h | h) | h) | h
  · subst h
    have := Nat.eq_zero_of_zero_dvd hd
    omega
  · exact .inl h
  · exact .inr h
  · exact absurd (Nat.mod_eq_zero_of_dvd hd) h
theorem small8000 {n : Int} (h : n.natAbs ≤ 1000) : n.natAbs < 2 ^ 8000 := Nat.lt_of_le_of_lt h (by decide +kernel)
theorem lay_unf (n : Nat) : Lay 60 (List.replicate n (PyData.list [.str "unfit"])) := lay_of fun d hd => by
  rw [(List.mem_replicate.mp hd).2]
  exact ⟨by simp only [PyData.canLay0, PyData.canLayAll0, Bool.and_true]; decide +kernel, by simp [PyData.depth, PyData.depthAll]⟩
theorem keepN_up {b f m k : Nat} (hb : 2 ≤ b) (hm : 0 < m) : KeepN b f (m * b ^ k) ↔ KeepN b f m := by
  obtain ⟨v, x, hx, hd⟩ := val_ex (p := b) hb m m (Nat.le_refl _) hm
  rw [keepN_core hb hm hx hd]
  have h0 : 0 < m * b ^ k := Nat.mul_pos hm (Nat.pow_pos (by omega))
  rw [keepN_core (r := x) (k := v + k) hb h0 (by rw [hx, Nat.mul_assoc, ← Nat.pow_add]) hd]
theorem light_pow {b n : Nat} (hb : 2 ≤ b) (hn : 0 < n) (h : hv b b n = false) : ∃ k, n = b ^ k := by
  obtain ⟨x, hx, hd⟩ := vl_val (p := b) hb hn
  unfold EE.hv at h
  have h1 : ¬ b ^ vl b n < n := of_decide_eq_false h
  have h2 : 0 < b ^ vl b n := Nat.pow_pos (by omega)
  have h3 : x ≠ 0 := fun z => by rw [z, Nat.zero_mul] at hx; omega
  have h4 : x = 1 := by
    refine Classical.byContradiction fun z => h1 ?_
    have : 2 * b ^ vl b n ≤ x * b ^ vl b n := Nat.mul_le_mul_right _ (by omega)
    omega
  exact ⟨vl b n, by rw [h4, Nat.one_mul] at hx; exact hx⟩
theorem prod_split {b : Nat} (hb : 2 ≤ b) : ∀ {ns : List Nat}, (∀ n ∈ ns, 0 < n) → ∃ k, prodN ns = abv b b ns * b ^ k
  | [], _ => ⟨0, rfl⟩
  | n :: ns, h => by
    obtain ⟨k, hk⟩ := prod_split hb (ns := ns) fun x hx => h x (List.mem_cons_of_mem _ hx)
    rw [abv_cons]
    show ∃ j, n * prodN ns = _
    rw [hk]
    cases hh : hv b b n with
    | true => exact ⟨k, by rw [if_pos rfl, Nat.mul_assoc]⟩
    | false =>
      obtain ⟨j, hj⟩ := light_pow hb (h n (List.mem_cons_self ..)) hh
      refine ⟨k + j, ?_⟩
      rw [if_neg Bool.false_ne_true, Nat.one_mul, hj, Nat.pow_add]
      simp only [Nat.mul_assoc, Nat.mul_comm, Nat.mul_left_comm]
theorem keepN_all {b f p : Nat} {ps : List Nat} {ns : List Int} (hP : Plain b ps) (hb : 2 ≤ b) (hN : OkN ns) (hl : ps.length ≤ 1) (hp : p ∈ ps) : KeepN b f (prodN (natsOf ns)) ↔ Below b f ns p := by
  obtain ⟨q, rfl⟩ : ∃ q, ps = [q] := by
    match ps, hl, hp with
    | [q], _, _ => exact ⟨q, rfl⟩
  obtain rfl := List.mem_singleton.mp hp
  obtain rfl : b = p := by rw [hP.2.2]; exact Nat.mul_one p
  have h0 := (okn_nat hN).1
  constructor
  · intro h
    obtain ⟨k, hk⟩ := prod_split hb h0
    rw [hk] at h
    exact heavy_bad hP hb h0 hp ((keepN_up hb (abv_pos h0)).mp h)
  · intro h
    exact lots_good hP hb h0 (fun q hq => by rw [List.mem_singleton.mp hq]; exact h) (List.Sublist.refl _)
theorem red_cross (a c : Nat) : (red a c).1 * c = (red a c).2 * a := by
  unfold red
  show a / Nat.gcd a c * c = c / Nat.gcd a c * a
  obtain ⟨x, hx⟩ := Nat.gcd_dvd_left a c
  obtain ⟨y, hy⟩ := Nat.gcd_dvd_right a c
  rcases Nat.eq_zero_or_pos (Nat.gcd a c) with h | h
  · rw [h, Nat.div_zero, Nat.div_zero, Nat.zero_mul, Nat.zero_mul]
  · generalize Nat.gcd a c = g at *
    subst hx hy
    rw [Nat.mul_div_cancel_left _ h, Nat.mul_div_cancel_left _ h]
    simp only [Nat.mul_assoc, Nat.mul_comm, Nat.mul_left_comm]

local macro_rules | `(tactic| walk_at "evd") => `(tactic| (repeat' (first | exact ed_int | exact ed_str | exact ed_non | exact ed_bl | exact eds_nil | refine eds_cons ?_ ?_ | refine ed_tup ?_ ?_ | refine ed_lst ?_ ?_ | refine ed_neg ?_ | refine ed_I0 ?_ ?_ | exact ed_varI rfl | exact Nat.le_of_ble_eq_true rfl)))
local macro_rules | `(tactic| walk_at "lk") => `(tactic| first | exact .here | exact .there (.here) | exact .there (.there (.here)) | exact .there (.there (.there (.here))) | exact .there (.there (.there (.there (.here)))) | exact .there (.there (.there (.there (.there (.here))))) | exact .there (.there (.there (.there (.there (.there (.here)))))) | exact .there (.there (.there (.there (.there (.there (.there (.here))))))))
local macro_rules | `(tactic| walk_at "side") => `(tactic| first | assumption | exact Or.inr ⟨by decide, by decide⟩ | exact Or.inl ⟨by decide, by decide⟩ | exact ⟨by decide, by decide⟩ | (show (0:Int) < _; omega) | exact mulx_dec (by omega) (by omega) (by omega) (by omega) | exact divw_dec (by omega) (by omega) | exact ⟨by omega, by omega⟩)
local macro_rules | `(tactic| walk_at "ev1") => `(tactic| first | ((with_reducible show Ev _ _ _ _ _); first | with_reducible refine ev_var rfl ?_ | with_reducible refine ev_int ?_ | with_reducible refine ev_op ?_ | with_reducible refine ev_cb ?_ | with_reducible refine ev_lstM (eva_nil ⟨rfl, Nat.le_of_ble_eq_true rfl, fun _ => ?_⟩) | with_reducible refine ev_lst ?_ | with_reducible refine ev_tup ?_ | with_reducible refine ev_str ?_ | with_reducible refine ev_bl ?_ | with_reducible refine ev_non ?_ | with_reducible refine ev_un ?_ | refine ev_bm ?_ | refine ev_bm0 ?_ | refine ev_sl ?_ | refine ev_rev ?_ | with_reducible refine ev_notV ?_ | with_reducible refine ev_chain ?_) | ((with_reducible show EvA _ _ _ _ _); first | with_reducible refine eva_nil ?_ | with_reducible refine eva_cons ?_) | ((with_reducible show EvT _ _ _ _ _); first | with_reducible refine evt_test ?_ | with_reducible refine evt_B ?_ | with_reducible refine evt_not ?_ | with_reducible refine evt_yes ?_) | ((with_reducible show Op _ _ _ _ _ _); first | with_reducible refine op_I0 ?_ | with_reducible refine op_B0 ?_ | with_reducible refine op_eqI2 ?_ | with_reducible refine op_neI2 ?_ | refine op_IC (by walk_at "side") ?_ | refine op_ixL rfl ?_ | refine op_ixT rfl ?_ | with_reducible refine op_eqS2 ?_ | with_reducible refine op_neS2 ?_ | with_reducible refine op_eqB2 ?_ | with_reducible refine op_neB2 ?_ | with_reducible refine op_isNon ?_ | with_reducible refine op_notNon ?_ | with_reducible refine op_isB2 ?_ | with_reducible refine op_notB2 ?_ | with_reducible refine op_ip ?_ | refine op_neNil2 (by walk_at "lk") ?_ ?_ | refine op_eqNil2 (by walk_at "lk") ?_ ?_ | refine op_neNilD2 ?_ ?_ | refine op_eqNilD2 ?_ ?_ | refine op_IC ?_ ?_) | ((with_reducible show EE.Un _ _ _ _ _); first | with_reducible refine un_I ?_) | ((with_reducible show Cb _ _ _ _ _); first | with_reducible refine cb_abs ?_ | with_reducible refine cb_max2 ?_ | with_reducible refine cb_min2 ?_ | with_reducible refine cb_int ?_ | with_reducible refine cb_intB ?_ | refine cb_lenT ?_ | refine cb_lenL (by first | exact asl_dat | exact asl_ref (by walk_at "lk")) ?_ | refine cb_tupleT ?_ | refine cb_tupleL (by first | exact asl_dat | exact asl_ref (by walk_at "lk")) ?_ | with_reducible refine cb_gcd ?_ | with_reducible refine cb_reprB ?_) | ((with_reducible show Mt _ _ _ _ _ _); first | refine mt_app (by walk_at "lk") ?_ ?_) | ((with_reducible show Tg _ _ _ _ _ _); first | with_reducible refine tg_name ?_ | refine tg_tup rfl ?_) | ((with_reducible show Tgs _ _ _ _ _ _); first | refine tgs_nil ?_ | refine tgs_cons ?_) | ((with_reducible show Sl _ _ _ _ _ _ _); first | refine sl_T ?_ | refine sl_L (by first | exact asl_dat | exact asl_ref (by walk_at "lk")) ?_) | ((with_reducible show EvO _ _ _ _ _); first | with_reducible refine evo_none ?_ | with_reducible refine evo_some ?_) | ((with_reducible show EvI _ _ _ _ _); first | refine evi_R ?_ | refine evi_R2 ?_ | refine evi_R3 ?_ | refine evi_ZA ?_ | refine evi_ZM ?_ | refine evi_T ?_ | refine evi_ET ?_) | (first | ((with_reducible show _ ∧ _); first | refine ⟨rfl, Nat.le_of_ble_eq_true rfl, ?_⟩ | refine ⟨trivial, ?_⟩ | refine ⟨isl_ref (by walk_at "lk"), ?_⟩ | refine ⟨_, rfl, ?_⟩ | refine ⟨_, asl_dat, ?_⟩ | refine ⟨_, asl_ref (by walk_at "lk"), ?_⟩ | refine ⟨_, _, rfl, ?_⟩ | refine ⟨_, _, _, rfl, ?_⟩) | ((with_reducible show ∃ _, _); first | refine ⟨rfl, Nat.le_of_ble_eq_true rfl, ?_⟩ | refine ⟨trivial, ?_⟩ | refine ⟨isl_ref (by walk_at "lk"), ?_⟩ | refine ⟨_, rfl, ?_⟩ | refine ⟨_, asl_dat, ?_⟩ | refine ⟨_, asl_ref (by walk_at "lk"), ?_⟩ | refine ⟨_, _, rfl, ?_⟩ | refine ⟨_, _, _, rfl, ?_⟩)))
local macro_rules | `(tactic| walk_at "nf") => `(tactic| all_goals (try dsimp only [List.set_cons_succ, List.set_cons_zero, datsOf, wipeA]))
local macro_rules | `(tactic| walk_at "ev") => `(tactic| ((repeat' (walk_at "ev1")); walk_at "nf"))
local macro_rules | `(tactic| walk_at "do1") => `(tactic| first | ((with_reducible show Do _ _ _ _ _); first | with_reducible refine do_set ?_ | with_reducible refine do_next ?_ | with_reducible refine do_setL ?_ | with_reducible refine do_brk ?_ | with_reducible refine do_cont ?_ | with_reducible refine do_drop ?_ | with_reducible refine do_dropL ?_ | with_reducible refine do_ret ?_ | with_reducible refine do_retN ?_ | with_reducible refine do_aug rfl ?_ | with_reducible refine do_augL rfl ?_ | with_reducible refine do_par ?_ | with_reducible refine do_parL ?_ | with_reducible refine do_par3 ?_) | ((with_reducible show EE.Fin _ _ _ _); first | ((try dsimp only); with_reducible refine fin_do ?_)))
local macro_rules | `(tactic| walk_at "go") => `(tactic| ((repeat' (first | walk_at "ev1" | walk_at "do1")); walk_at "nf"))
section
variable {P : Program} {w : World} {K : PySem.W.Frag} {mg : Str → Option Value} {base : Heap}
theorem okpower {f : Addr} {fd : FuncData} (F : Fun K "power" "power" spower f fd) (nb : NB mg bnames)     : FnOk P w K mg base CX0 1 f fd ["base", "exponent"] (sppower K) := by
  refine F.ok scpower (fun vs H Q E h => ?_) (fun cdv A outer s H vs Q E hr h => ?_)
  · obtain ⟨dk, Γ, Δ, as, hS, hE, b, n, rfl, _⟩ := h
    exact hE.len

  · obtain ⟨dk, Γ, Δ, as, hS, hE, b, n, rfl, b1, b2, hn, k⟩ := h
    refine ⟨_, (pss_cons (ps_set (i := 2) scpower.nd rfl (.inl rfl) pe_int)
        (pss_cons (ps_for PassesOwn.never rfl (pi_range1 (by rfl) (nb "range" rfl) (pa_cons (pv 1) pa_nil)) (pg_name (i := 3) scpower.nd rfl (.inl rfl))
        (pss_one (ps_set (i := 2) scpower.nd rfl (.inl rfl) (pe_op op_mulX (pv 2) (pv 0)))))
        (pss_one (ps_ret (pv 2))))), ?_⟩
    refine Do.go (X := ⟨K, dk, Δ⟩) (A := startA 4 _) ?_ .rfl' hS (rel_start hE)
    dsimp only [startA, cxOf]
    walk_at "go"
    refine do_seq (do_forI ?_)
    walk_at "ev"
    refine ⟨by omega, by omega, fun i A Γ1 => ∃ x, A = [some (dI b), some (dI n), some (dI (b ^ i)), x] ∧ Γ = Γ1, ⟨_, by rw [Int.pow_zero], rfl⟩, fun _ _ _ _ => trivial, fun B i dd A1 Γ2 hB hdd hI => ?_, fun A1 Γ2 hI => ?_⟩
    · obtain ⟨x, rfl, rfl⟩ := hI
      obtain ⟨hi, rfl⟩ := range_is hdd
      walk_at "go"
      · exact pow_mulx b1 b2 i (by omega) (by omega)
      exact fin_nx ⟨_, by rw [Int.pow_succ], rfl⟩
    · obtain ⟨x, rfl, rfl⟩ := hI
      rw [range_len, Int.toNat_natCast]
      walk_at "go"
      exact k

theorem okgoes {f : Addr} {fd : FuncData} (F : Fun K "goes" "goes" sgoes f fd) (nb : NB mg bnames)     : FnOk P w K mg base CX0 1 f fd ["base", "number"] (spgoes K) := by
  refine F.ok scgoes (fun vs H Q E h => ?_) (fun cdv A outer s H vs Q E hr h => ?_)
  · obtain ⟨dk, Γ, Δ, as, hS, hE, b, n, rfl, _⟩ := h
    exact hE.len

  · obtain ⟨dk, Γ, Δ, as, hS, hE, b, n, rfl, b1, b2, h0, k⟩ := h
    refine ⟨_, (pss_cons (ps_set (i := 2) scgoes.nd rfl (.inl rfl) pe_int)
        (pss_cons (ps_set (i := 3) scgoes.nd rfl (.inl rfl) (pv 1))
        (pss_cons (ps_while PassesOwn.never (pt_cmpR op_eq (pe_op op_mod (pv 3) (pv 0)) pe_int (nomark _)) (pss_cons (ps_set (i := 3) scgoes.nd rfl (.inl rfl) (pe_op op_fdivW (pv 3) (pv 0)))
        (pss_one (ps_aug (i := 2) scgoes.nd rfl (.inl rfl) pe_int ip_add))))
        (pss_one (ps_ret (pv 2)))))), ?_⟩
    refine Do.go (X := ⟨K, dk, Δ⟩) (A := startA 4 _) ?_ .rfl' hS (rel_start hE)
    dsimp only [startA, cxOf]
    walk_at "go"
    refine do_seq (do_while (fun m A Γ1 => ∃ (x : Int) (t : Nat), A = [some (dI (b : Int)), some (dI n), some (dI (t : Int)), some (dI x)] ∧ Γ = Γ1 ∧ m = x.natAbs ∧ n = x * (b : Int) ^ t ∧ x ≠ 0) _ ⟨n, 0, rfl, rfl, rfl, by simp, h0⟩ fun m A1 Γ1 hI => ?_)
    obtain ⟨x, t, rfl, rfl, rfl, hx, hn⟩ := hI
    walk_at "ev"
    refine ⟨fun e => ?_, fun e => ?_⟩
    · have xm := of_decide_eq_true e
      have hdv : CDivW x (b : Int) := divw_dec (by omega) (by have : (1000 : Int) ≤ 10 ^ 200 := by decide
                                                              omega)
      have hq : x = x / b * b := (Int.ediv_mul_cancel (Int.dvd_of_emod_eq_zero xm)).symm
      have q0 : x / b ≠ 0 := fun z => hn (by rw [hq, z, Int.zero_mul])
      have q1 : (x / b).natAbs < x.natAbs := by
        have : x.natAbs = (x / b).natAbs * b := by rw [show b = ((b : Int)).natAbs from rfl, ← Int.natAbs_mul]; exact congrArg Int.natAbs hq
        have h2 : (x / b).natAbs * 2 ≤ (x / b).natAbs * b := Nat.mul_le_mul_left _ (by omega)
        omega
      walk_at "go"
      exact fin_nx ⟨_, q1, _, t + 1, rfl, rfl, rfl, out_step (by omega) xm hx, q0⟩
    · have xm := of_decide_eq_false e
      have hv : vl b n.natAbs = t := vl_eq b1 ⟨x.natAbs, by rw [hx, Int.natAbs_mul, Int.natAbs_pow]; rfl, fun z => xm (Int.emod_eq_zero_of_dvd (Int.natAbs_dvd_natAbs.mp z))⟩
      walk_at "go"
      rw [hv] at k
      exact k

theorem okstripped {f : Addr} {fd : FuncData} (F : Fun K "stripped" "stripped" sstripped f fd) (nb : NB mg bnames)     : FnOk P w K mg base CX0 1 f fd ["base", "number"] (spstripped K) := by
  refine F.ok scstripped (fun vs H Q E h => ?_) (fun cdv A outer s H vs Q E hr h => ?_)
  · obtain ⟨dk, Γ, Δ, as, hS, hE, b, n, rfl, _⟩ := h
    exact hE.len

  · obtain ⟨dk, Γ, Δ, as, hS, hE, b, n, rfl, b1, b2, k⟩ := h
    refine ⟨_, (pss_cons (ps_set (i := 2) scstripped.nd rfl (.inl rfl) (pv 1))
        (pss_cons (ps_while PassesOwn.never (PW.pt (pw_and (pt_cmpR op_ne (pv 2) pe_int (nomark _)) (pw_and1 (pt_cmpR op_eq (pe_op op_mod (pv 2) (pv 0)) pe_int (nomark _))))) (pss_one (ps_set (i := 2) scstripped.nd rfl (.inl rfl) (pe_op op_fdivW (pv 2) (pv 0)))))
        (pss_one (ps_ret (pv 2))))), ?_⟩
    refine Do.go (X := ⟨K, dk, Δ⟩) (A := startA 3 _) ?_ .rfl' hS (rel_start hE)
    dsimp only [startA, cxOf]
    walk_at "go"
    refine do_seq (do_while (fun m A Γ1 => ∃ (x : Int) (t : Nat), A = [some (dI b), some (dI n), some (dI x)] ∧ Γ = Γ1 ∧ m = x.natAbs ∧ n = x * b ^ t ∧ (n ≠ 0 → x ≠ 0)) _ ⟨n, 0, rfl, rfl, rfl, by simp, id⟩ fun m A1 Γ1 hI => ?_)
    obtain ⟨x, t, rfl, rfl, rfl, hx, hn⟩ := hI
    refine evt_andJ (fun z Γ1 => Γ = Γ1 ∧ (z = true → x ≠ 0 ∧ x % b = 0) ∧ (z = false → x = 0 ∨ x % b ≠ 0)) ?_ ?_
    · walk_at "ev"
      refine ⟨fun e => ?_, fun e => ⟨rfl, fun z => (nomatch z), fun _ => .inl (by simpa using e)⟩⟩
      have e : x ≠ 0 := by simpa using e
      walk_at "ev"
      exact ⟨rfl, fun z => ⟨e, of_decide_eq_true z⟩, fun z => .inr (of_decide_eq_false z)⟩
    rintro z _ ⟨rfl, h1, h2⟩
    refine ⟨fun e => ?_, fun e => ?_⟩
    · obtain ⟨x0, xm⟩ := h1 e
      have hdv : CDivW x b := divw_dec (by omega) (by have : (1000 : Int) ≤ 10 ^ 200 := by decide
                                                      omega)
      have hq : x = x / b * b := (Int.ediv_mul_cancel (Int.dvd_of_emod_eq_zero xm)).symm
      have q0 : x / b ≠ 0 := fun z => x0 (by rw [hq, z, Int.zero_mul])
      have q1 : (x / b).natAbs < x.natAbs := by
        have : x.natAbs = (x / b).natAbs * b.natAbs := by rw [← Int.natAbs_mul, ← hq]
        have h2 : (x / b).natAbs * 2 ≤ (x / b).natAbs * b.natAbs := Nat.mul_le_mul_left _ (by omega)
        omega
      walk_at "go"
      exact fin_nx ⟨_, q1, _, t + 1, rfl, rfl, rfl, out_step b1 xm hx, fun _ => q0⟩
    · walk_at "go"
      refine k _ ?_
      by_cases h0 : n = 0
      · refine .inl ⟨h0, ?_⟩
        rw [h0] at hx
        have hp := pow_pos' (b := b) (by omega) t
        rcases Int.mul_eq_zero.mp hx.symm with h | h
        · exact h
        · omega
      · exact .inr ⟨h0, (h2 e).resolve_left (hn h0), t, hx⟩

theorem okkeepable {f : Addr} {fd : FuncData} (F : Fun K "keepable" "keepable" skeepable f fd) (nb : NB mg bnames) (Fpower : Fd P w K mg base "power" 1 ["base", "exponent"] (sppower K)) (Fstripped : Fd P w K mg base "stripped" 1 ["base", "number"] (spstripped K))    : FnOk P w K mg base CX0 2 f fd ["base", "figures", "number"] (spkeepable K) := by
  refine F.ok sckeepable (fun vs H Q E h => ?_) (fun cdv A outer s H vs Q E hr h => ?_)
  · obtain ⟨dk, Γ, Δ, as, hS, hE, b, f, n, rfl, _⟩ := h
    exact hE.len

  · obtain ⟨dk, Γ, Δ, as, hS, hE, b, f, n, rfl, b1, b2, hf, k⟩ := h
    refine ⟨_, (pss_one (ps_ret (pe_cmpR op_lt (pe_callB call_abs (by rfl) (nb "abs" rfl) (by decide +kernel) (pa_cons (pe_fd Fstripped (hr.mono (by decide)) (by rfl) (pa_cons (pv 0) (pa_cons (pv 2) pa_nil))) pa_nil)) (pe_fd Fpower (hr.mono (by decide)) (by rfl) (pa_cons (pv 0) (pa_cons (pv 1) pa_nil))) (nomark _)))), ?_⟩
    refine Do.go (X := ⟨K, dk, Δ⟩) (A := startA 3 _) ?_ .rfl' hS (rel_start hE)
    dsimp only [startA, cxOf]
    walk_at "go"
    refine ev_call ?_
    walk_at "ev"
    refine fun R hR => ⟨b, n, rfl, b1, b2, fun r hr => hR _ _ ?_⟩
    walk_at "ev"
    refine ev_call ?_
    walk_at "ev"
    refine fun R hR => ⟨b, f, rfl, by omega, b2, by omega, hR _ _ ?_⟩
    walk_at "ev"
    refine k _ ?_
    rw [keep_strip b1 hr, decide_eq_true_eq]
    split <;> omega

theorem okprimes_of {f : Addr} {fd : FuncData} (F : Fun K "primes_of" "primes_of" sprimes_of f fd) (nb : NB mg bnames)    {CU : Addr} (U : UnfitC K mg CU) : FnOk P w K mg base (L2.CX P w) 1 f fd ["base"] (spprimes_of K mg) := by
  refine F.okX scprimes_of (fun vs H Q E h => ?_) (fun cdv A outer s H vs Q E hr h => ?_)
  · obtain ⟨dk, Γ, Δ, as, hS, hE, b, rfl, _⟩ := h
    exact hE.len

  · obtain ⟨dk, Γ, Δ, as, hS, hE, b, rfl, b1, b2, k, x⟩ := h
    refine ⟨_, (pss_cons (ps_set (i := 1) scprimes_of.nd rfl (.inl rfl) (pe_lst pa_nil))
        (pss_cons (ps_set (i := 2) scprimes_of.nd rfl (.inl rfl) (pv 0))
        (pss_cons (ps_set (i := 3) scprimes_of.nd rfl (.inl rfl) pe_int)
        (pss_cons (ps_while (passes_of rfl) (pt_cmpR op_gt (pv 2) pe_int (nomark _)) (pss_cons (ps_if (pt_cmpR op_eq (pe_op op_mod (pv 2) (pv 3)) pe_int (nomark _)) (pss_cons (ps_expr (pe_bm PySem.F.plainAttrs_list PySem.F.slot_list_append PySem.F.type_list_append mt_append (pv 1) (pa_cons (pv 3) pa_nil)))
        (pss_cons (ps_set (i := 2) scprimes_of.nd rfl (.inl rfl) (pe_op op_fdivW (pv 2) (pv 3)))
        (pss_one (ps_if (pt_cmpR op_eq (pe_op op_mod (pv 2) (pv 3)) pe_int (nomark _)) (pss_one (ps_raise rfl (takes_of rfl rfl rfl rfl) (pmk_own0 PySem.F.excBase_ValueError U.x U.g U.k (raises_own U.b U.t) (by exact rfl)))) pss_nil)))) pss_nil)
        (pss_one (ps_aug (i := 3) scprimes_of.nd rfl (.inl rfl) pe_int ip_add))))
        (pss_one (ps_ret (pv 1))))))), ?_⟩
    refine Do.go (X := ⟨K, dk, Δ⟩) (A := startA 4 _) ?_ .rfl' hS (rel_start hE)
    dsimp only [startA, cxOf]
    walk_at "go"
    rename_i p
    refine do_seq (do_while (fun m A Γ1 => ∃ (qs : List Nat) (r q : Nat), A = [some (dI (b : Int)), some (.ref p), some (dI (r : Int)), some (dI (q : Int))] ∧ Γ1 = (p, qs.map fun p : Nat => PyData.int (p : Int)) :: Γ ∧ m = r + 1 - q ∧
      1 ≤ r ∧ r ≤ 1000 ∧ 2 ≤ q ∧ b = prodN qs * r ∧ qs.Pairwise (· < ·) ∧ (∀ x ∈ qs, Pr x ∧ x < q) ∧ (∀ d, 2 ≤ d → d < q → ¬ d ∣ r) ∧ qs.length ≤ q) _
      ⟨[], b, 2, rfl, rfl, rfl, by omega, b2, by decide, (Nat.one_mul b).symm, .nil, fun x hx => (nomatch hx), fun d h1 h2 => by omega, by decide⟩ fun m A1 Γ1 hI => ?_)
    obtain ⟨qs, r, q, rfl, rfl, rfl, r1, r2, q2, hb, hasc, hpr, hno, hql⟩ := hI
    have e3 : (1000 : Int) ≤ 10 ^ 200 := by decide
    walk_at "ev"
    refine ⟨fun e => ?_, fun e => ?_⟩
    · have e : 1 < (r : Int) := of_decide_eq_true e
      have hqr : q ≤ r := Nat.le_of_not_lt fun z => hno r (by omega) z (Nat.dvd_refl r)
      refine do_ifS ?_
      walk_at "ev"
      refine ⟨fun e2 => ?_, fun e2 => ?_⟩
      · have hd : q ∣ r := Int.natCast_dvd_natCast.mp (Int.dvd_of_emod_eq_zero (of_decide_eq_true e2))
        have hq := Pr.least q2 hd hno
        have hrq : r / q < r := Nat.div_lt_self (by omega) (by omega)
        have hrq1 : 1 ≤ r / q := Nat.div_pos hqr (by omega)
        have hdv : CDivW (r : Int) (q : Int) := divw_dec (by omega) (by omega)
        walk_at "go"
        · rw [List.length_map]
          omega
        refine do_if ?_
        walk_at "ev"
        refine ⟨fun e3 => ?_, fun e3 => ?_⟩
        · have h3 : q ∣ r / q := Int.natCast_dvd_natCast.mp (Int.dvd_of_emod_eq_zero (by simpa using e3))
          refine do_raise (Rx.drop .here (x ⟨q, hq, ?_⟩ CU U.g))
          rw [hb]
          obtain ⟨c, hc⟩ := h3
          have := Nat.div_mul_cancel hd
          rw [hc] at this
          rw [← this]
          exact ⟨prodN qs * c, by simp only [Nat.mul_comm, Nat.mul_left_comm]⟩
        have hsq : ¬ q ∣ r / q := fun z => by
          have : ((r / q : Nat) : Int) % (q : Int) = 0 := Int.emod_eq_zero_of_dvd (Int.natCast_dvd_natCast.mpr z)
          simp at e3
          exact e3 this
        walk_at "go"
        refine fin_nx ⟨_, by omega, qs ++ [q], r / q, q + 1, rfl, by rw [List.map_append]; rfl, rfl, hrq1, by omega, by omega, ?_, ?_, ?_, ?_, by rw [List.length_append]; show _ + 1 ≤ _; omega⟩
        · rw [prodN_snoc, Nat.mul_assoc, Nat.mul_div_cancel' hd]
          exact hb
        · refine List.pairwise_append.mpr ⟨hasc, List.pairwise_singleton .., fun x hx y hy => ?_⟩
          rw [List.mem_singleton.mp hy]
          exact (hpr x hx).2
        · intro x hx
          rcases List.mem_append.mp hx with hx | hx
          · exact ⟨(hpr x hx).1, by have := (hpr x hx).2; omega⟩
          · rw [List.mem_singleton.mp hx]
            exact ⟨hq, by omega⟩
        · intro d d2 dq hd2
          rcases Nat.lt_or_eq_of_le (Nat.le_of_lt_succ dq) with h | h
          · exact hno d d2 h (Nat.dvd_trans hd2 (Nat.div_dvd_of_dvd hd))
          · rw [h] at hd2
            exact hsq hd2
      · have hd : ¬ q ∣ r := fun z => of_decide_eq_false e2 (Int.emod_eq_zero_of_dvd (Int.natCast_dvd_natCast.mpr z))
        walk_at "go"
        refine fin_nx ⟨_, by omega, qs, r, q + 1, rfl, rfl, rfl, r1, r2, by omega, hb, hasc, fun x hx => ⟨(hpr x hx).1, by have := (hpr x hx).2; omega⟩, fun d d2 dq hd2 => ?_, by omega⟩
        rcases Nat.lt_or_eq_of_le (Nat.le_of_lt_succ dq) with h | h
        · exact hno d d2 h hd2
        · rw [h] at hd2
          exact hd hd2
    · have e : ¬ 1 < (r : Int) := of_decide_eq_false e
      obtain rfl : r = 1 := by omega
      rw [Nat.mul_one] at hb
      have hP : Plain b qs := ⟨hasc, fun x hx => (hpr x hx).1, hb⟩
      refine fin_do ?_
      refine do_freeze (i := 1) rfl .here ?_
      walk_at "go"
      exact k qs hP

theorem okdivisor {f : Addr} {fd : FuncData} (F : Fun K "divisor" "divisor" sdivisor f fd) (nb : NB mg bnames) (Fgoes : Fd P w K mg base "goes" 1 ["base", "number"] (spgoes K)) (Fpower : Fd P w K mg base "power" 1 ["base", "exponent"] (sppower K))    : FnOk P w K mg base CX0 2 f fd ["base", "prime", "number"] (spdivisor K) := by
  refine F.ok scdivisor (fun vs H Q E h => ?_) (fun cdv A outer s H vs Q E hr h => ?_)
  · obtain ⟨dk, Γ, Δ, as, hS, hE, b, p, n, rfl, _⟩ := h
    exact hE.len

  · obtain ⟨dk, Γ, Δ, as, hS, hE, b, p, n, rfl, b1, b2, p1, p2, h0, hn, k⟩ := h
    refine ⟨_, (pss_one (ps_ret (pe_fd Fpower (hr.mono (by decide)) (by rfl) (pa_cons (pv 0) (pa_cons (pe_fd Fgoes (hr.mono (by decide)) (by rfl) (pa_cons (pv 1) (pa_cons (pv 2) pa_nil))) pa_nil))))), ?_⟩
    refine Do.go (X := ⟨K, dk, Δ⟩) (A := startA 3 _) ?_ .rfl' hS (rel_start hE)
    dsimp only [startA, cxOf]
    have hv : vl p n.natAbs < 200 := vals_lt p1 (by omega) (n60 hn) (vl_val p1 (by omega))
    walk_at "go"
    refine ev_call ?_
    walk_at "ev"
    refine ev_call ?_
    walk_at "ev"
    refine fun R hR => ⟨p, n, rfl, p1, p2, h0, hR _ _ ?_⟩
    walk_at "ev"
    refine fun R hR => ⟨b, _, rfl, by omega, by omega, by omega, hR _ _ ?_⟩
    walk_at "ev"
    rw [Int.natCast_pow] at k
    exact k

theorem fm_if {α β : Type} {f : α → Bool} {g : α → β} : ∀ {xs : List α}, xs.filterMap (fun x => if f x then some (g x) else none) = (xs.filter f).map g
  | [] => rfl
  | x :: xs => by
    cases h : f x with
    | true => rw [List.filterMap_cons_some (by rw [if_pos h]), List.filter_cons, if_pos h, List.map_cons, fm_if]
    | false => rw [List.filterMap_cons_none (by rw [if_neg (by rw [h]; decide)]), List.filter_cons, if_neg (by rw [h]; decide), fm_if]
theorem okheavy_places {f : Addr} {fd : FuncData} (F : Fun K "heavy_places" "heavy_places" sheavy_places f fd) (nb : NB mg bnames) (Fdivisor : Fd P w K mg base "divisor" 2 ["base", "prime", "number"] (spdivisor K))    : FnOk P w K mg base CX0 3 f fd ["base", "prime", "numbers"] (spheavy_places K) := by
  refine F.ok scheavy_places (fun vs H Q E h => ?_) (fun cdv A outer s H vs Q E hr h => ?_)
  · obtain ⟨dk, Γ, Δ, as, hS, hE, b, p, ns, rfl, _⟩ := h
    exact hE.len

  · obtain ⟨dk, Γ, Δ, as, hS, hE, b, p, ns, rfl, b1, b2, p1, p2, hok, k⟩ := h
    refine ⟨_, (pss_one (ps_ret (pe_callTy call_tuple_of (by rfl) (nb "tuple" rfl) (by decide +kernel) (pa_cons (pe_lc (own := [("place", 3), ("number", 4)]) (by rfl) scheavy_places.nd (g := gTup K 2 (gCons (gName 3) (gCons (gName 4) gNil))) (pi_enumT (by rfl) (nb "enumerate" rfl) (pa_cons (pv 2) pa_nil)) (blkOk_by (own := [("place", 3), ("number", 4)]) (N := ["base", "prime", "numbers", "place", "number"]) (sc := defScope sheavy_places) (by decide +kernel)) (fun _ _ _ _ _ => by exact (pg_tup (by rfl) (pgs_cons (pg_name (i := 3) scheavy_places.nd rfl (.inl rfl)) (pgs_cons (pg_name (i := 4) scheavy_places.nd rfl (.inl rfl)) pgs_nil)))) (fun _ _ _ _ _ => by exact (pts_one (pt_cmpR op_gt (pe_callB call_abs (by rfl) (nb "abs" rfl) (by decide +kernel) (pa_cons (pv 4) pa_nil)) (pe_fd Fdivisor (hr.mono (by decide)) (by rfl) (pa_cons (pv 0) (pa_cons (pv 1) (pa_cons (pv 4) pa_nil)))) (nomark _)))) (fun _ _ _ _ _ => by exact (pv 3))) pa_nil)))), ?_⟩
    refine Do.go (X := ⟨K, dk, Δ⟩) (A := startA 5 _) ?_ .rfl' hS (rel_start hE)
    dsimp only [startA, cxOf]
    walk_at "go"
    refine ev_lcF (.two (List.mem_cons_self ..) (List.mem_cons_of_mem _ (List.mem_cons_self ..))) ?_
    refine evi_ET ?_
    walk_at "ev"
    refine ⟨Int × Nat, ns.zipIdx, fun x => PyData.tuple [.int (x.2 : Int), .int x.1], fun x => if hv b p x.1.natAbs then some (PyData.int (x.2 : Int)) else none, ?_, ?_, ?_, ?_⟩
    · unfold enumD
      rw [List.zipIdx_map, List.map_map]
      rfl
    · rw [List.length_zipIdx]
      have := hok.1
      omega
    · intro c B i x acc hB hx
      obtain ⟨h0, hn⟩ := hok.2 x.1 (List.fst_mem_of_mem_zipIdx (List.mem_of_getElem? hx))
      walk_at "ev"
      refine ev_call ?_
      walk_at "ev"
      refine fun R hR => ⟨b, p, x.1, rfl, b1, b2, p1, p2, h0, hn, hR _ _ ?_⟩
      walk_at "ev"
      refine ⟨rfl, fun e => ?_, fun e => ?_⟩
      · have e := of_decide_eq_true e
        walk_at "ev"
        refine ⟨rfl, _, rfl, if_pos (decide_eq_true ?_)⟩
        revert e
        split <;> omega
      · have e := of_decide_eq_false e
        refine if_neg fun z => e ?_
        have z := of_decide_eq_true z
        revert z
        split <;> omega
    · walk_at "ev"
      rw [fm_if]
      exact k

theorem okshare {f : Addr} {fd : FuncData} (F : Fun K "share" "share" sshare f fd) (nb : NB mg bnames) (Fdivisor : Fd P w K mg base "divisor" 2 ["base", "prime", "number"] (spdivisor K)) (Fheavy_places : Fd P w K mg base "heavy_places" 3 ["base", "prime", "numbers"] (spheavy_places K))   (c_gcd : mg "gcd" = some (.builtin "math.gcd")) : FnOk P w K mg base CX0 4 f fd ["base", "prime", "numbers"] (spshare K) := by
  refine F.ok scshare (fun vs H Q E h => ?_) (fun cdv A outer s H vs Q E hr h => ?_)
  · obtain ⟨dk, Γ, Δ, as, hS, hE, b, p, ns, rfl, _⟩ := h
    exact hE.len

  · obtain ⟨dk, Γ, Δ, as, hS, hE, b, p, ns, rfl, b1, b2, p1, p2, hok, k⟩ := h
    refine ⟨_, (pss_cons (ps_asg2 pe_int (pg_name (i := 3) scshare.nd rfl (.inl rfl)) (pg_name (i := 4) scshare.nd rfl (.inl rfl)))
        (pss_cons (ps_for PassesOwn.never rfl (pi_tup (pe_fd Fheavy_places (hr.mono (by decide)) (by rfl) (pa_cons (pv 0) (pa_cons (pv 1) (pa_cons (pv 2) pa_nil))))) (pg_name (i := 5) scshare.nd rfl (.inl rfl))
        (pss_cons (ps_set (i := 3) scshare.nd rfl (.inl rfl) (pe_op op_mulX (pv 3) (pe_callB call_abs (by rfl) (nb "abs" rfl) (by decide +kernel) (pa_cons (pe_ix ix_tup (pv 2) (pv 5) (fun _ _ => rfl)) pa_nil))))
        (pss_one (ps_set (i := 4) scshare.nd rfl (.inl rfl) (pe_op op_mulX (pv 4) (pe_fd Fdivisor (hr.mono (by decide)) (by rfl) (pa_cons (pv 0) (pa_cons (pv 1) (pa_cons (pe_ix ix_tup (pv 2) (pv 5) (fun _ _ => rfl)) pa_nil)))))))))
        (pss_cons (ps_set (i := 6) scshare.nd rfl (.inl rfl) (pe_callBfun cr_gcd (by rfl) c_gcd (pa_cons (pv 3) (pa_cons (pv 4) pa_nil))))
        (pss_one (ps_ret (pe_tup (pa_cons (pv 1) (pa_cons (pe_op op_fdivW (pv 3) (pv 6)) (pa_cons (pe_op op_fdivW (pv 4) (pv 6)) pa_nil))))))))), ?_⟩
    refine Do.go (X := ⟨K, dk, Δ⟩) (A := startA 7 _) ?_ .rfl' hS (rel_start hE)
    dsimp only [startA, cxOf]
    obtain ⟨hl, hhl⟩ : ∃ hl, hl = heavyL b p ns := ⟨_, rfl⟩
    have hlen : hl.length ≤ 40 := by rw [hhl]; exact Nat.le_trans heavy_len hok.1
    have hat : ∀ x ∈ hl, ns[x.2]? = some x.1 ∧ x.1 ≠ 0 ∧ x.1.natAbs ≤ 10 ^ 60 ∧ b ^ vl p x.1.natAbs < x.1.natAbs := fun x hx => by
      rw [hhl] at hx
      have h1 := heavy_at hx
      obtain ⟨h2, h3⟩ := hok.2 _ (List.mem_of_getElem? h1)
      exact ⟨h1, h2, h3, of_decide_eq_true (List.mem_filter.mp hx).2⟩
    have hA : abv b p (natsOf ns) = prodN (hl.map fun x => x.1.natAbs) := by rw [hhl, heavy_fst]; rfl
    have hB : blw b p (natsOf ns) = prodN (hl.map fun x => b ^ vl p x.1.natAbs) := by
      unfold blw
      rw [← heavy_fst, hhl, List.map_map]
      rfl
    have bd : ∀ i, prodN ((hl.take i).map fun x => x.1.natAbs) < 2 ^ 8001 ∧ prodN ((hl.take i).map fun x => b ^ vl p x.1.natAbs) < 2 ^ 8001 := fun i => by
      have hl2 : (hl.take i).length ≤ 40 := Nat.le_trans (List.length_take_le' ..) hlen
      have hp : (2 : Nat) ^ (200 * (hl.take i).length + 1) ≤ 2 ^ 8001 := Nat.pow_le_pow_right (by decide) (by omega)
      constructor
      · refine Nat.lt_of_lt_of_le (prod_le (B := 200) fun y hy => ?_) (by rw [List.length_map]; exact hp)
        obtain ⟨x, hx, rfl⟩ := List.mem_map.mp hy
        exact n60 (hat x (List.mem_of_mem_take hx)).2.2.1
      · refine Nat.lt_of_lt_of_le (prod_le (B := 200) fun y hy => ?_) (by rw [List.length_map]; exact hp)
        obtain ⟨x, hx, rfl⟩ := List.mem_map.mp hy
        have h := hat x (List.mem_of_mem_take hx)
        exact Nat.lt_trans h.2.2.2 (n60 h.2.2.1)
    refine do_set2 ?_
    walk_at "go"
    refine do_seq (do_forI ?_)
    refine evi_T ?_
    refine ev_call ?_
    walk_at "ev"
    refine fun R hR => ⟨b, p, ns, rfl, b1, b2, p1, p2, hok, hR _ _ ?_⟩
    rw [← hhl]
    refine ⟨_, rfl, fun i A Γ1 => ∃ x, A = [some (dI (b : Int)), some (dI (p : Int)), some (.dat (intsT ns)), some (dI (prodN ((hl.take i).map fun x => x.1.natAbs) : Nat)), some (dI (prodN ((hl.take i).map fun x => b ^ vl p x.1.natAbs) : Nat)), x, none] ∧ Γ = Γ1,
      ⟨_, rfl, rfl⟩, fun _ _ _ _ => trivial, fun B i dd A1 Γ2 hB hdd hI => ?_, fun A1 Γ2 hI => ?_⟩
    · obtain ⟨x, rfl, rfl⟩ := hI
      rw [List.getElem?_map] at hdd
      obtain ⟨y, hy, rfl⟩ := Option.map_eq_some_iff.mp hdd
      obtain ⟨h1, h2, h3, h4⟩ := hat y (List.mem_of_getElem? hy)
      have hix : atI (ns.map PyData.int) ((y.2 : Nat) : Int) = some (.int y.1) := atI_nat (by rw [List.getElem?_map, h1]; rfl)
      have e1 : ((hl.take (i + 1)).map fun x => x.1.natAbs) = ((hl.take i).map fun x => x.1.natAbs) ++ [y.1.natAbs] := by rw [List.take_add_one, hy, List.map_append]; rfl
      have e2 : ((hl.take (i + 1)).map fun x => b ^ vl p x.1.natAbs) = ((hl.take i).map fun x => b ^ vl p x.1.natAbs) ++ [b ^ vl p y.1.natAbs] := by rw [List.take_add_one, hy, List.map_append]; rfl
      have m1 : CMulX ((prodN ((hl.take i).map fun x => x.1.natAbs) : Nat) : Int) (if y.1 < 0 then -y.1 else y.1) := mulx_ok (a := 8001) (b := 200) (by rw [Int.natAbs_natCast]; exact (bd i).1) (by have := n60 h3; split <;> omega) (by decide)
      have m2 : CMulX ((prodN ((hl.take i).map fun x => b ^ vl p x.1.natAbs) : Nat) : Int) ((b ^ vl p y.1.natAbs : Nat) : Int) := mulx_ok (a := 8001) (b := 200) (by rw [Int.natAbs_natCast]; exact (bd i).2) (by rw [Int.natAbs_natCast]; exact Nat.lt_trans h4 (n60 h3)) (by decide)
      walk_at "go"
      refine op_ixT hix ?_
      walk_at "go"
      refine ev_call ?_
      walk_at "ev"
      refine op_ixT hix ?_
      walk_at "ev"
      refine fun R hR => ⟨b, p, y.1, rfl, b1, b2, p1, p2, h2, h3, hR _ _ ?_⟩
      walk_at "go"
      refine fin_nx ⟨some (dI (y.2 : Int)), ?_, rfl⟩
      rw [e1, e2, prodN_snoc, prodN_snoc, Int.natCast_mul, Int.natCast_mul, show (if y.1 < 0 then -y.1 else y.1) = ((y.1.natAbs : Nat) : Int) by split <;> omega]
    · obtain ⟨x, rfl, rfl⟩ := hI
      rw [List.length_map, List.take_length, ← hA, ← hB]
      have b8 := bd hl.length
      rw [List.take_length, ← hA, ← hB] at b8
      have a0 := abv_pos (b := b) (p := p) (okn_nat hok).1
      have g0 : 0 < Nat.gcd (abv b p (natsOf ns)) (blw b p (natsOf ns)) := Nat.gcd_pos_of_pos_left _ a0
      have g1 : Nat.gcd (abv b p (natsOf ns)) (blw b p (natsOf ns)) ≤ abv b p (natsOf ns) := Nat.le_of_dvd a0 (Nat.gcd_dvd_left ..)
      have hdv : ∀ z : Int, CDivW z ((Nat.gcd (abv b p (natsOf ns)) (blw b p (natsOf ns)) : Nat) : Int) := fun z => wide_div (b := 8001) (by omega) (by rw [Int.natAbs_natCast]; omega) (by decide) (by decide)
      walk_at "go"
      · exact hdv _
      · exact hdv _
      exact k

theorem fm_some {α β : Type} {g : α → β} : ∀ {xs : List α}, xs.filterMap (fun x => some (g x)) = xs.map g
  | [] => rfl
  | x :: xs => by show g x :: List.filterMap (fun x => some (g x)) xs = _; rw [fm_some]; rfl
theorem okshares {f : Addr} {fd : FuncData} (F : Fun K "shares" "shares" sshares f fd) (nb : NB mg bnames) (Fprimes_of : FdX P w K mg base "primes_of" 1 ["base"] (spprimes_of K mg)) (Fshare : Fd P w K mg base "share" 4 ["base", "prime", "numbers"] (spshare K))    : FnOk P w K mg base (L2.CX P w) 5 f fd ["base", "numbers"] (spshares K mg) := by
  refine F.okX scshares (fun vs H Q E h => ?_) (fun cdv A outer s H vs Q E hr h => ?_)
  · obtain ⟨dk, Γ, Δ, as, hS, hE, b, ns, rfl, _⟩ := h
    exact hE.len

  · obtain ⟨dk, Γ, Δ, as, hS, hE, b, ns, rfl, b1, b2, hok, k, x⟩ := h
    refine ⟨_, (pss_one (ps_ret (pe_callTy call_tuple_of (by rfl) (nb "tuple" rfl) (by decide +kernel) (pa_cons (pe_lc (own := [("prime", 2)]) (by rfl) scshares.nd (pi_list (pe_fdX Fprimes_of (hr.mono (by decide)) (by rfl) (fun σ => passAt (takes_of rfl rfl rfl rfl) σ) (pa_cons (pv 0) pa_nil))) (blkOk_by (own := [("prime", 2)]) (N := ["base", "numbers", "prime"]) (sc := defScope sshares) (by decide +kernel)) (fun _ _ _ _ _ => by exact (pg_name (i := 2) scshares.nd rfl (.inl rfl))) (fun _ _ _ _ _ => by exact pts_nil) (fun _ _ _ _ _ => by exact (pe_fd Fshare (hr.mono (by decide)) (by rfl) (pa_cons (pv 0) (pa_cons (pv 2) (pa_cons (pv 1) pa_nil)))))) pa_nil)))), ?_⟩
    refine Do.go (X := ⟨K, dk, Δ⟩) (A := startA 3 _) ?_ .rfl' hS (rel_start hE)
    dsimp only [startA, cxOf]
    walk_at "go"
    refine ev_lcF (.name (List.mem_cons_self ..)) ?_
    refine evi_L ?_
    refine ev_callX ?_
    walk_at "ev"
    refine fun R S hR hS => ⟨b, rfl, b1, b2, fun ps hp => hR _ _ ?_, fun hq C hC => hS _ _ (xc_out (x hq C hC))⟩
    refine ⟨_, rfl, Nat, ps, fun p : Nat => PyData.int (p : Int), fun p => some (shareD b ns p), rfl, ?_, ?_, ?_⟩
    · have h1 := len_le fun p h => (hp.2.1 p h).1
      rw [← hp.2.2] at h1
      have h2 := Nat.lt_two_pow_self (n := ps.length)
      omega
    · intro c B i p acc hB hx
      have hpr := hp.2.1 p (List.mem_of_getElem? hx)
      have hle : p ≤ b := Nat.le_of_dvd (by omega) (by rw [hp.2.2]; exact dvd_prodN (List.mem_of_getElem? hx))
      walk_at "ev"
      refine ⟨rfl, fun _ => ?_, fun e => nomatch e⟩
      refine ev_call ?_
      walk_at "ev"
      exact fun R hR => ⟨b, p, ns, rfl, b1, b2, hpr.1, by omega, hok, hR _ _ ⟨rfl, _, rfl, rfl⟩⟩
    · walk_at "ev"
      rw [fm_some]
      exact k ps hp

theorem okbad_lot {f : Addr} {fd : FuncData} (F : Fun K "bad_lot" "bad_lot" sbad_lot f fd) (nb : NB mg bnames) (Fheavy_places : Fd P w K mg base "heavy_places" 3 ["base", "prime", "numbers"] (spheavy_places K)) (Fpower : Fd P w K mg base "power" 1 ["base", "exponent"] (sppower K)) (Fshares : FdX P w K mg base "shares" 5 ["base", "numbers"] (spshares K mg))    : FnOk P w K mg base (L2.CX P w) 6 f fd ["base", "figures", "numbers"] (spbad_lot K mg) := by
  refine F.okX scbad_lot (fun vs H Q E h => ?_) (fun cdv A outer s H vs Q E hr h => ?_)
  · obtain ⟨dk, Γ, Δ, as, hS, hE, b, f, ns, rfl, _⟩ := h
    exact hE.len

  · obtain ⟨dk, Γ, Δ, as, hS, hE, b, f, ns, rfl, hb2, hb, hf, hN, k1, k2, x⟩ := h
    refine ⟨_, (pss_cons (ps_set (i := 3) scbad_lot.nd rfl (.inl rfl) (pe_fd Fpower (hr.mono (by decide)) (by rfl) (pa_cons (pv 0) (pa_cons (pv 1) pa_nil))))
        (pss_cons (ps_for (passes_of rfl) rfl (pi_tup (pe_fdX Fshares (hr.mono (by decide)) (by rfl) (fun σ => passAt (takes_of rfl rfl rfl rfl) σ) (pa_cons (pv 0) (pa_cons (pv 2) pa_nil)))) (pg_tup (by rfl) (pgs_cons (pg_name (i := 4) scbad_lot.nd rfl (.inl rfl)) (pgs_cons (pg_name (i := 5) scbad_lot.nd rfl (.inl rfl)) (pgs_cons (pg_name (i := 6) scbad_lot.nd rfl (.inl rfl)) pgs_nil))))
        (pss_one (ps_if (pt_cmpR op_ge (pv 5) (pe_op op_mulX (pv 6) (pv 3)) (nomark _)) (pss_one (ps_ret (pe_fd Fheavy_places (hr.mono (by decide)) (by rfl) (pa_cons (pv 0) (pa_cons (pv 4) (pa_cons (pv 2) pa_nil)))))) pss_nil)))
        (pss_one (ps_ret pe_non)))), ?_⟩
    refine Do.go (X := ⟨K, dk, Δ⟩) (A := startA 7 _) ?_ .rfl' hS (rel_start hE)
    dsimp only [startA, cxOf]
    walk_at "go"
    refine ev_call ?_
    walk_at "ev"
    refine fun R hR => ⟨b, f, rfl, by omega, by omega, by omega, hR _ _ ?_⟩
    clear hR
    walk_at "go"
    refine do_seq (do_forI (evi_T ?_))
    refine ev_callX ?_
    walk_at "ev"
    refine fun R S hR hS => ⟨b, ns, rfl, hb2, hb, hN, fun ps hP => hR _ _ ?_, fun hq C hC => hS _ _ (xc_out (x hq C hC))⟩
    clear hR hS
    walk_at "ev"
    refine ⟨fun i A Γ1 => ∃ (c e g : Option AV), A = [some (dI (b : Int)), some (dI (f : Int)), some (.dat (intsT ns)), some (dI ((b : Int) ^ f)), c, e, g] ∧ Γ = Γ1 ∧ ∀ p ∈ ps.take i, Below b f ns p,
      ⟨none, none, none, rfl, rfl, fun p hp => nomatch hp⟩, fun _ _ _ _ => trivial, fun B i dd A1 Γ2 hB hdd hI => ?_, fun A1 Γ2 hI => ?_⟩
    · obtain ⟨c1, c2, c3, rfl, rfl, hI⟩ := hI
      rw [List.getElem?_map] at hdd
      obtain ⟨p, hp, rfl⟩ := Option.map_eq_some_iff.mp hdd
      have hpm := List.mem_of_getElem? hp
      obtain ⟨hpp, hpd, hps, hple⟩ := plain_mem hP (by omega) hpm
      obtain ⟨r1, r2, r3, r4⟩ := red_small (b := b) (p := p) (ns := ns) (by omega) hN
      have hBr := below_red (f := f) hb2 hN hpp.1 (p := p) (b := b) (ns := ns)
      have he : ((b : Int) ^ f).natAbs < 2 ^ 700 := by
        rw [Int.natAbs_pow]
        exact Nat.lt_of_le_of_lt (Nat.pow_le_pow_left (show (b : Int).natAbs ≤ 2 ^ 10 by omega) f) (by rw [← Nat.pow_mul]; exact Nat.pow_lt_pow_right (by decide) (by omega))
      dsimp only [shareD]
      walk_at "go"
      refine do_if (evt_test ?_)
      walk_at "ev"
      · exact mulx_ok (a := 8001) (b := 700) (by omega) he (by decide)
      refine ⟨fun e => ?_, fun e => ?_⟩
      · have hnb : ¬ Below b f ns p := fun z => hBr.mp z (by simpa using e)
        walk_at "go"
        refine ev_call ?_
        walk_at "ev"
        refine fun R hR => ⟨b, p, ns, rfl, hb2, hb, hpp.1, by omega, hN, hR _ _ ?_⟩
        clear hR
        walk_at "go"
        exact fun v H' Δ' sb hS' ra => k2 ps hP p hpm hnb v H' Δ' (hB.trans sb) hS' ra
      · have hbl : Below b f ns p := hBr.mpr (by simpa using e)
        walk_at "go"
        refine fin_nx ⟨_, _, _, rfl, rfl, fun q hq => ?_⟩
        rw [List.take_add_one, hp] at hq
        rcases List.mem_append.mp hq with hq | hq
        · exact hI q hq
        · rw [List.mem_singleton.mp hq]
          exact hbl
    · obtain ⟨c1, c2, c3, rfl, rfl, hI⟩ := hI
      rw [List.length_map, List.take_length] at hI
      walk_at "go"
      exact k1 ps hP hI

theorem okproducts_exact {f : Addr} {fd : FuncData} (F : Fun K "products_exact" "products_exact" sproducts_exact f fd) (nb : NB mg bnames) (Fbad_lot : FdX P w K mg base "bad_lot" 6 ["base", "figures", "numbers"] (spbad_lot K mg))    : FnOk P w K mg base (L2.CX P w) 7 f fd ["base", "figures", "numbers"] (spproducts_exact K mg) := by
  refine F.okX scproducts_exact (fun vs H Q E h => ?_) (fun cdv A outer s H vs Q E hr h => ?_)
  · obtain ⟨dk, Γ, Δ, as, hS, hE, b, f, ns, rfl, _⟩ := h
    exact hE.len

  · obtain ⟨dk, Γ, Δ, as, hS, hE, b, f, ns, rfl, hb2, hb, hf, hN, k, x⟩ := h
    refine ⟨_, (pss_one (ps_ret (pe_cmpR op_isN (pe_fdX Fbad_lot (hr.mono (by decide)) (by rfl) (fun σ => passAt (takes_of rfl rfl rfl rfl) σ) (pa_cons (pv 0) (pa_cons (pv 1) (pa_cons (pv 2) pa_nil)))) pe_non (nomark _)))), ?_⟩
    refine Do.go (X := ⟨K, dk, Δ⟩) (A := startA 3 _) ?_ .rfl' hS (rel_start hE)
    dsimp only [startA, cxOf]
    walk_at "go"
    refine ev_callX ?_
    walk_at "ev"
    refine fun R S hR hS => ⟨b, f, ns, rfl, hb2, hb, hf, hN, fun ps hP hall => hR _ _ ?_, fun ps hP p hp hn => hR _ _ ?_, fun hq C hC => hS _ _ (xc_out (x hq C hC))⟩
    · clear hR
      walk_at "ev"
      exact k ps hP true ⟨fun _ => hall, fun _ => rfl⟩
    · clear hR
      walk_at "ev"
      exact k ps hP false ⟨fun e => (nomatch e), fun h => absurd (h p hp) hn⟩

theorem ok_law_deck {f : Addr} {fd : FuncData} (F : Fun K "_law_deck" "_law_deck" s_law_deck f fd) (nb : NB mg bnames)     : FnOk P w K mg base CX0 1 f fd ["script"] (sp_law_deck K) := by
  refine F.ok sc_law_deck (fun vs H Q E h => ?_) (fun cdv A outer s H vs Q E hr h => ?_)
  · obtain ⟨a, ns, rfl, _⟩ := h
    rfl
  · obtain ⟨a, ns, rfl, hS, hlen, q⟩ := h
    refine ⟨_, (pss_cons (ps_setLc (i := 1) (own := [("own", 2)]) (by rfl) sc_law_deck.nd rfl rfl (sw_true rfl rfl rfl (by decide +kernel)) (pi_list (pe_slice sl_list (pv 0) po_none (po_some pe_int))) (blkOk_by (own := [("own", 2)]) (N := ["script", "cells", "own", "stamp"]) (sc := defScope s_law_deck) (by decide +kernel)) (fun _ _ _ _ _ => by exact (pg_name (i := 2) sc_law_deck.nd rfl (.inl rfl))) (fun _ _ _ _ _ => by exact pts_nil) (fun _ _ _ _ _ => by exact (pe_ifExp (pt_cmpR op_ge (pv 2) pe_int (nomark _)) (pe_op op_mul pe_int (pv 2)) (pe_op op_sub (pe_op op_mul (pe_un un_neg pe_int) (pv 2)) pe_int))))
        (pss_cons (ps_set (i := 3) sc_law_deck.nd rfl (.inl rfl) (pe_op op_add (pe_callB call_len_seq (by rfl) (nb "len" rfl) PySem.boot_len (pa_cons (pv 0) pa_nil)) pe_int))
        (pss_cons (ps_for PassesOwn.never rfl (pi_list (pv 1)) (pg_name (i := 2) sc_law_deck.nd rfl (.inl rfl))
        (pss_one (ps_set (i := 3) sc_law_deck.nd rfl (.inl rfl) (pe_op op_mod (pe_callTy call_int1 (by rfl) (nb "int" rfl) (by decide +kernel) (pa_cons (pe_op op_add (pe_op op_add (pe_op op_mul (pv 3) pe_int) (pe_op op_mul (pv 2) pe_int)) pe_int) pa_nil)) pe_int))))
        (pss_one (ps_ret (pe_disp (pps_cons pe_str (pe_lc (own := [("own", 2)]) (by rfl) sc_law_deck.nd (pi_list (pv 1)) (blkOk_by (own := [("own", 2)]) (N := ["script", "cells", "own", "stamp"]) (sc := defScope s_law_deck) (by decide +kernel)) (fun _ _ _ _ _ => by exact (pg_name (i := 2) sc_law_deck.nd rfl (.inl rfl))) (fun _ _ _ _ _ => by exact (pts_one (pt_cmpR op_ge (pv 2) (pe_op op_powW pe_int pe_int) (nomark _)))) (fun _ _ _ _ _ => by exact (pv 2))) (pps_cons pe_str (pe_op op_cat (pv 1) (pe_lst (pa_cons (pe_op op_add (pe_op op_mul pe_int (pe_callB call_len_seq (by rfl) (nb "len" rfl) PySem.boot_len (pa_cons (pv 1) pa_nil))) pe_int) pa_nil))) (pps_cons pe_str (pv 3) (pps_cons pe_str pe_int pps_nil)))) (by rfl) (by rfl) (fun z => by cases z) (by decide))))))), ?_⟩
    refine Do.go (X := ⟨K, none, []⟩) (A := [some (.dat (.list (ns.map PyData.int))), none, none, none]) (Γ := []) ?_ (Δ := [(.ref a, .list (ns.map PyData.int))]) sub_nil ⟨H, fun _ _ e => e, fun p hp => by rw [List.mem_singleton.mp hp]; exact .lst hS (dps_of_ints ns), fun g hg => (nomatch hg), List.Pairwise.nil, fun d l e => nomatch e⟩ (.cons ⟨_, rfl, .of (List.mem_cons_self ..)⟩ (.cons trivial (.cons trivial (.cons trivial .nil))))
    dsimp only [cxOf]
    refine do_set (ev_lcFM (.name (List.mem_cons_self ..)) ?_)
    refine evi_L ?_
    walk_at "ev"
    refine ⟨Int, ns, PyData.int, fun x : Int => some (PyData.int (if 0 ≤ x then 2 * x else -2 * x - 1)), ?_, by omega, ?_, fun c => ?_⟩
    · rw [show cutD (ns.map PyData.int) none (some 63) = (ns.map PyData.int).take 63 from cutD_to _ 63, List.take_of_length_le (by rw [List.length_map]; exact hlen)]
    · intro p B i x acc hB hx
      walk_at "ev"
      refine ⟨rfl, fun _ => ?_, fun z => nomatch z⟩
      refine ev_ifE ?_
      walk_at "ev"
      refine ⟨fun e => ?_, fun e => ?_⟩
      · walk_at "ev"
        refine ⟨rfl, _, rfl, ?_⟩
        rw [if_pos (of_decide_eq_true e)]
      · walk_at "ev"
        refine ⟨rfl, _, rfl, ?_⟩
        rw [if_neg (of_decide_eq_false e)]
    obtain ⟨cs, hcs, hcl, hc0⟩ : ∃ cs : List Int, (ns.filterMap fun x => some (PyData.int (if 0 ≤ x then 2 * x else -2 * x - 1))) = cs.map PyData.int ∧ cs.length ≤ 63 ∧ ∀ x ∈ cs, 0 ≤ x := by
      refine ⟨ns.map fun x => if 0 ≤ x then 2 * x else -2 * x - 1, ?_, by rw [List.length_map]; exact hlen, fun x hx => ?_⟩
      · rw [List.map_map]
        exact List.filterMap_eq_map (f := fun x : Int => PyData.int (if 0 ≤ x then 2 * x else -2 * x - 1)) ▸ rfl
      · obtain ⟨y, _, rfl⟩ := List.mem_map.mp hx
        split <;> omega
    rw [hcs]
    walk_at "nf"
    walk_at "go"
    refine do_seq (do_forI ?_)
    refine evi_M ?_
    walk_at "ev"
    refine ⟨c, _, rfl, .here, fun i A Γ1 => ∃ x s, A = [some (.dat (.list (ns.map PyData.int))), some (.ref c), x, some (dI s)] ∧ Γ1 = [(c, cs.map PyData.int)] ∧ 0 ≤ s ∧ s < 4294967291,
      ⟨_, _, rfl, rfl, by rw [List.length_map]; omega, by rw [List.length_map]; omega⟩, fun i A Γ h => by obtain ⟨x, s, _, rfl, _⟩ := h; exact .here, fun B i dd A1 Γ2 hB hdd hI => ?_, fun A1 Γ2 hI => ?_⟩
    · obtain ⟨x, s, rfl, rfl, s0, s1⟩ := hI
      rw [List.getElem?_map] at hdd
      obtain ⟨y, hy, rfl⟩ := Option.map_eq_some_iff.mp hdd
      walk_at "go"
      exact fin_nx ⟨_, _, rfl, rfl, Int.emod_nonneg _ (by decide), Int.emod_lt_of_pos _ (by decide)⟩
    · obtain ⟨x, st, rfl, rfl, st0, st1⟩ := hI
      intro σ H1 Δ1 sb hS1 hE d hd
      have hσ := relE_len hE
      obtain ⟨_, e1, rfl⟩ := hE.get (i := 1) rfl
      obtain ⟨_, e3, w3⟩ := hE.get (i := 3) rfl
      obtain rfl := RelA.isI hS1 w3
      obtain ⟨vs, g1, _, Δ2, s2, hS2, hv⟩ := hS1.lk .here
      obtain rfl := hS2.ints_of hv
      have c1 : upd H1 d (.dK []) c = some (.lst (cs.map V.int)) := (upd_ne (ne_of_none g1 hd)).trans g1
      have d1 : upd H1 d (.dK []) d = some (.dK []) := upd_same
      revert c1 d1
      generalize upd H1 d (.dK []) = H2
      intro c1 d1
      refine ⟨_, e1, c, rfl, ⟨_, SqL.of c1⟩, fun l hl => ?_⟩
      have ndl : d ≠ l := ne_of_none d1 hl
      have ncl : c ≠ l := ne_of_none c1 hl
      refine lc_it (n := cs.length) walkL (fun i H => H = upd H2 l (.lst (((cs.take i).filter fun x => decide (10 ^ 18 ≤ x)).map V.int))) rfl (fun i H _ hP => ?_) (fun i x H H' hi hP hy => ?_) (fun H hP => ?_)
      · rw [hP]
        exact ⟨_, SqL.of ((upd_ne ncl).trans c1), by rw [List.length_map]⟩
      · subst hP
        obtain ⟨rfl, f⟩ := hy
        have f1 := f _ (SqL.of ((upd_ne ncl).trans c1))
        rw [List.getElem?_map, List.getElem?_eq_getElem hi] at f1
        cases Option.some.inj f1
        have hw : (wipe σ [2]).length = σ.length := by show (σ.set 2 none).length = _; rw [List.length_set]
        have v2 : ((wipe σ [2]).set 2 (some (V.int cs[i])))[2]? = some (some (V.int cs[i])) := List.getElem?_set_self (by rw [hw, hσ]; show 2 < 4; decide)
        refine ⟨by show wipe (List.set (wipe σ [2]) 2 _) [2] = wipe σ [2]; rw [wipe_set_ne _ _ _ _ (List.mem_cons_self ..)]; exact wipe_wipe _ _, ?_⟩
        have etk : cs.take (i + 1) = cs.take i ++ [cs[i]] := by rw [List.take_add_one, List.getElem?_eq_getElem hi]; rfl
        refine ⟨_, v2, _, _, rfl, rfl, ⟨by decide, by decide⟩, _, _, rfl, rfl, _, rfl, ite2 (fun e => ?_) (fun e => ?_)⟩
        · refine ⟨_, v2, _, upd_same, ?_, ?_⟩
          · rw [List.length_map]
            refine Nat.lt_of_le_of_lt (List.length_filter_le _ _) ?_
            rw [List.length_take]
            exact small1000 (by omega)
          · rw [etk, List.filter_append, List.map_append]
            rw [show ([cs[i]].filter fun x => decide (10 ^ 18 ≤ x)) = [cs[i]] by rw [List.filter_cons, if_pos (show decide ((10 : Int) ^ 18 ≤ cs[i]) = true from e)]; rfl]
            exact upd_upd
        · rw [etk, List.filter_append, List.map_append]
          rw [show ([cs[i]].filter fun x => decide (10 ^ 18 ≤ x)) = [] by rw [List.filter_cons, if_neg (show ¬ decide ((10 : Int) ^ 18 ≤ cs[i]) = true from e)]; rfl]
          rw [List.map_nil, List.append_nil]
      · subst hP
        rw [List.take_length]
        obtain ⟨xs, hxs⟩ : ∃ xs, xs = cs.filter fun x => decide (10 ^ 18 ≤ x) := ⟨_, rfl⟩
        rw [← hxs]
        have xs0 : ∀ x ∈ xs, 0 ≤ x := fun x hx => hc0 x (by rw [hxs] at hx; exact (List.mem_filter.mp hx).1)
        have xs1 : xs.length ≤ 64 := by rw [hxs]; exact Nat.le_trans (List.length_filter_le _ _) (by omega)
        have l3 : upd H2 l (.lst (xs.map V.int)) l = some (.lst (xs.map V.int)) := upd_same
        have c3 := (upd_ne (H := H2) (o := HO.lst (xs.map V.int)) ncl).trans c1
        have d3 := (upd_ne (H := H2) (o := HO.lst (xs.map V.int)) ndl).trans d1
        revert l3 c3 d3
        generalize upd H2 l (.lst (xs.map V.int)) = H3
        intro l3 c3 d3
        refine ⟨_, e1, _, e1, c, _, rfl, .inl (SqL.of c3), _, _, rfl, rfl, .inl ⟨by decide, by decide⟩, _, _, rfl, rfl, (by show 1 ≤ sizeLine; decide), fun p hp => ?_⟩
        have npl : l ≠ p := ne_of_none l3 hp
        have npd : d ≠ p := ne_of_none d3 hp
        refine ⟨c, p, cs.map V.int, _, rfl, rfl, (upd_ne (ne_of_none c3 hp)).trans c3, upd_same, ?_, fun t ht => ?_⟩
        · rw [List.length_map]
          exact Nat.le_of_lt (small1000 (by show _ + 1 ≤ 1000; omega))
        have ntl : l ≠ t := ne_of_none ((upd_ne npl).trans l3) ht
        have ntd : d ≠ t := ne_of_none ((upd_ne npd).trans d3) ht
        rw [List.length_map]
        have ecat : cs.map V.int ++ [V.int (2 * ((cs.length : Nat) : Int) + 1)] = (cs ++ [2 * ((cs.length : Nat) : Int) + 1]).map V.int := by simp
        rw [ecat]
        refine ⟨_, e3, (upd_ne ntd).trans ((upd_ne npd).trans d3), [(.inr "deep", .ref l), (.inr "cells", .ref t), (.inr "stamp", .int st), (.inr "count", .int 0)], rfl, (by show 4 ≤ 15; decide), ?_⟩
        refine q _ d l ⟨fun b => if b = t then some (.lst ((cs ++ [2 * ((cs.length : Nat) : Int) + 1]).map V.int)) else none, fun b o e => ?_, fun p hp => (nomatch hp), fun g hg => (nomatch hg), List.Pairwise.nil, fun d' l' e => ?_⟩
        · by_cases hb : b = t
          · subst hb
            rw [if_pos rfl] at e
            rw [← e]
            exact (upd_ne ntd.symm).trans upd_same
          · rw [if_neg hb] at e
            cases e
        · cases e
          refine ⟨if_neg ntd, if_neg ntl, fun g hg => (nomatch hg), _, xs, upd_same, (upd_ne ndl.symm).trans ((upd_ne ntl).trans ((upd_ne npl).trans l3)), t, _, st, 0, rfl, if_pos rfl, by simp, by rw [List.length_append]; show _ + 1 ≤ 64; omega, st0, st1, xs0, xs1⟩

theorem ok_law_draw {f : Addr} {fd : FuncData} (F : Fun K "_law_draw" "_law_draw" s_law_draw f fd) (nb : NB mg bnames)     : FnOk P w K mg base CX0 1 f fd ["deck", "many"] (sp_law_draw K) := by
  refine F.ok sc_law_draw (fun vs H Q E h => ?_) (fun cdv A outer s H vs Q E hr h => ?_)
  · obtain ⟨d, l, m, Γ, Δ, rfl, _⟩ := h
    rfl
  · obtain ⟨d, l, m, Γ, Δ, rfl, hS, m1, hm, q⟩ := h
    refine ⟨_, (pss_cons (ps_set (i := 2) sc_law_draw.nd rfl (.inl rfl) (pe_dget (hu_of hr) (pv 0) pe_str (fun _ _ => rfl)))
        (pss_cons (ps_if (PW.pt (pw_and (pt_cmpR (op_neD hr.units) (pv 2) (pe_lst pa_nil) (nomark _)) (pw_and1 (pt_cmpR op_gt (pv 1) pe_int (nomark _))))) (pss_cons (ps_set (i := 3) sc_law_draw.nd rfl (.inl rfl) (pe_bm0 PySem.F.plainAttrs_list PySem.F.slot_list_pop PySem.F.type_list_pop mt_pop (pv 2)))
        (pss_cons (ps_if (pt_cmpR op_ge (pv 3) (pv 1) (nomark _)) (pss_one (ps_expr (pe_bm PySem.F.plainAttrs_list PySem.F.slot_list_append PySem.F.type_list_append mt_append (pv 2) (pa_cons (pe_op op_fdivW (pv 3) (pv 1)) pa_nil)))) pss_nil)
        (pss_one (ps_ret (pe_op op_mod (pe_callTy call_int1 (by rfl) (nb "int" rfl) (by decide +kernel) (pa_cons (pv 3) pa_nil)) (pv 1)))))) pss_nil)
        (pss_cons (ps_dput (hu_of hr) (pv 0) pe_str (pe_op op_add (pe_dget (hu_of hr) (pv 0) pe_str (fun _ _ => rfl)) pe_int) rfl)
        (pss_cons (ps_par (by rfl) (i := 4) (j := 5) sc_law_draw.nd rfl rfl (by decide) rfl rfl (pa_cons (pe_dget (hu_of hr) (pv 0) pe_str (fun _ _ => rfl)) (pa_cons (pe_dget (hu_of hr) (pv 0) pe_str (fun _ _ => rfl)) pa_nil)) (by rfl))
        (pss_cons (ps_set (i := 6) sc_law_draw.nd rfl (.inl rfl) (pe_op op_mod (pe_callTy call_int1 (by rfl) (nb "int" rfl) (by decide +kernel) (pa_cons (pe_op op_add (pe_op op_add (pe_op op_mul (pe_ix ix_list (pv 5) (pe_op op_mod (pe_callTy call_int1 (by rfl) (nb "int" rfl) (by decide +kernel) (pa_cons (pe_op op_mul (pv 4) pe_int) pa_nil)) (pe_callB call_len_seq (by rfl) (nb "len" rfl) PySem.boot_len (pa_cons (pv 5) pa_nil))) (fun _ _ => rfl)) pe_int) (pe_dget (hu_of hr) (pv 0) pe_str (fun _ _ => rfl))) (pe_op op_mul (pv 4) pe_int)) pa_nil)) pe_int))
        (pss_cons (ps_for PassesOwn.never rfl (pi_range1 (by rfl) (nb "range" rfl) (pa_cons pe_int pa_nil)) (pg_name (i := 7) sc_law_draw.nd rfl (.inl rfl))
        (pss_one (ps_set (i := 6) sc_law_draw.nd rfl (.inl rfl) (pe_op op_mod (pe_callTy call_int1 (by rfl) (nb "int" rfl) (by decide +kernel) (pa_cons (pe_op op_add (pe_op op_mulX (pv 6) (pv 6)) (pe_op op_mul (pe_dget (hu_of hr) (pv 0) pe_str (fun _ _ => rfl)) (pe_op op_add (pv 4) (pv 7)))) pa_nil)) pe_int))))
        (pss_one (ps_ret (pe_op op_mod (pe_callTy call_int1 (by rfl) (nb "int" rfl) (by decide +kernel) (pa_cons (pe_op op_fdiv (pv 6) pe_int) pa_nil)) (pv 1)))))))))), ?_⟩
    refine Do.go (X := ⟨K, some (d, l), Δ⟩) (A := [some (.ref d), some (dI m), none, none, none, none, none, none]) (Γ := Γ) (fun σ H Δ1 sb hS hE => ?_) .rfl' hS (.cons ⟨_, rfl, rfl⟩ (.cons ⟨_, rfl, .int m⟩ (.cons trivial (.cons trivial (.cons trivial (.cons trivial (.cons trivial (.cons trivial .nil))))))))
    dsimp only [cxOf]
    refine do_set (ev_deep rfl rfl ?_) σ H Δ1 sb hS hE
    walk_at "nf"
    intro σ H Δ2 sb2 hS hE
    have q : ∀ {Δ3 : List (V × D)} (sb3 : EE.Sub Δ Δ3) (H' : Hp) (r : Int), St K H' (some (d, l)) Γ Δ3 → 0 ≤ r → r < m → Q (.int r) H' := fun sb3 H' r h => q H' r (h.weaken sb3)
    have hpos : 0 < m := by omega
    have hdiv : ∀ z : Int, CDivW z m := fun z => wide_div hpos hm (by decide) (by decide)
    obtain ⟨_, e1, w1⟩ := hE.get (i := 1) rfl
    obtain rfl := RelA.isI hS w1
    obtain ⟨_, e2, rfl⟩ := hE.get (i := 2) rfl
    obtain ⟨c, cs, st, ct, xs, h1, h2, h3, ncd, ncl, hcs, hcl, st0, st1, xs0, xs1, put⟩ := hS.deck4
    have ndl : d ≠ l := dk_ne h1 h2
    by_cases hc : xs ≠ [] ∧ 1 < m
    · refine ifT_raw (S := fun H1 => St K H1 (some (d, l)) Γ Δ2 ∧ H1 d = some (dk4 l c st ct) ∧ H1 l = some (.lst (xs.map V.int))) (fun R hR => ?_) (fun H1 hS1 => ?_)
      · refine ⟨_, e2, Nat.zero_le _, fun p hp => ?_⟩
        have hS1 := (hS.lst (ds := []) hp .nil).weaken fun x hx => List.mem_cons_of_mem _ hx
        have g1 := (upd_ne (H := H) (o := HO.lst []) (ne_of_none h1 hp)).trans h1
        have g2 := (upd_ne (H := H) (o := HO.lst []) (ne_of_none h2 hp)).trans h2
        have g3 : upd H p (.lst []) p = some (.lst []) := upd_same
        refine ne_nil_list (ds := xs.map PyData.int) (.lst (SqL.of g2) (dps_of_ints xs)) (.lst (SqL.of g3) .nil) (lay_ints xs) ⟨_, rfl, ite2 (fun e2 => ?_) (fun e2 => ?_)⟩
        · exact ⟨_, e1, _, _, rfl, rfl, _, rfl, by rw [decide_eq_true hc.2]; exact hR _ ⟨hS1, g1, g2⟩⟩
        · cases xs with
          | nil => exact absurd rfl hc.1
          | cons x xs => exact absurd rfl e2
      · obtain ⟨hS1, g1, g2⟩ := hS1
        obtain ⟨ys, z, rfl⟩ : ∃ ys z, xs = ys ++ [z] := ⟨_, _, (List.dropLast_concat_getLast hc.1).symm⟩
        obtain ⟨c', cs', st', ct', xs', k1, k2, k3, _, _, _, _, _, _, _, _, put1⟩ := hS1.deck4
        rw [g1] at k1
        cases k1
        have hz : 0 ≤ z := xs0 z (by simp)
        have elast : ((ys ++ [z]).map V.int)[((ys ++ [z]).map V.int).length - 1]? = some (.int z) := by simp
        have edrop : ((ys ++ [z]).map V.int).dropLast = ys.map V.int := by simp
        have hl : ys.length ≤ 63 := by
          rw [List.length_append, List.length_singleton] at xs1
          omega
        have hmod : 0 ≤ z % m ∧ z % m < m := ⟨Int.emod_nonneg z (by omega), Int.emod_lt_of_pos z hpos⟩
        refine ⟨_, e2, .inl ⟨rfl, _, SqL.of g2⟩, l, _, .int z, rfl, rfl, g2, elast, ?_⟩
        rw [edrop]
        have j1 : (σ.set 3 (some (.int z)))[1]? = some (some (.int m)) := by rw [List.getElem?_set_ne (by decide)]; exact e1
        have j2 : (σ.set 3 (some (.int z)))[2]? = some (some (.ref l)) := by rw [List.getElem?_set_ne (by decide)]; exact e2
        have j3 : (σ.set 3 (some (.int z)))[3]? = some (some (.int z)) := by
          refine List.getElem?_set_self ?_
          rcases Nat.lt_or_ge 3 σ.length with h | h
          · exact h
          · exact absurd (relE_len hE) (by show ¬ σ.length = 8; omega)
        refine ⟨_, j3, _, j1, _, _, rfl, rfl, _, rfl, ite2 (fun e3 => ?_) (fun e3 => ?_)⟩
        · refine ⟨_, j2, .inl ⟨rfl, _, SqL.of upd_same⟩, _, j3, _, j1, _, _, rfl, rfl, hdiv z, l, _, _, rfl, rfl, upd_same, ?_, ?_⟩
          · rw [List.length_map]
            exact small1000 (by omega)
          · have eapp : ys.map V.int ++ [V.int (z / m)] = (ys ++ [z / m]).map V.int := by simp
            rw [eapp]
            refine ⟨_, j3, .inl ⟨_, rfl, _, j1, _, _, rfl, rfl, hpos, q (fun x hx => List.mem_cons_of_mem _ (sb2 x hx)) _ (z % m) (put1 _ ct (ys ++ [z / m]) (fun b hb hb2 => (upd_ne hb2).trans (upd_ne hb2)) ((upd_ne ndl).trans ((upd_ne ndl).trans g1)) upd_same ?_ ?_) hmod.1 hmod.2⟩⟩
            · intro x hx
              rcases List.mem_append.mp hx with hx | hx
              · exact xs0 x (List.mem_append_left _ hx)
              · rw [List.mem_singleton.mp hx]
                exact Int.ediv_nonneg hz (by omega)
            · rw [List.length_append, List.length_singleton]
              omega
        · exact ⟨_, j3, .inl ⟨_, rfl, _, j1, _, _, rfl, rfl, hpos, q (fun x hx => List.mem_cons_of_mem _ (sb2 x hx)) _ (z % m) (put1 _ ct ys (fun b hb hb2 => upd_ne hb2) ((upd_ne ndl).trans g1) upd_same (fun x hx => xs0 x (List.mem_append_left _ hx)) (by omega)) hmod.1 hmod.2⟩⟩
    · refine ifF_raw (S := fun H1 => St K H1 (some (d, l)) Γ Δ2) (fun R hR => ?_) (fun H1 hS1 => ?_)
      · refine ⟨_, e2, Nat.zero_le _, fun p hp => ?_⟩
        have hS1 := (hS.lst (ds := []) hp .nil).weaken fun x hx => List.mem_cons_of_mem _ hx
        have g2 := (upd_ne (H := H) (o := HO.lst []) (ne_of_none h2 hp)).trans h2
        have g3 : upd H p (.lst []) p = some (.lst []) := upd_same
        refine ne_nil_list (ds := xs.map PyData.int) (.lst (SqL.of g2) (dps_of_ints xs)) (.lst (SqL.of g3) .nil) (lay_ints xs) ⟨_, rfl, ite2 (fun e2 => ?_) (fun e2 => ?_)⟩
        · have hm1 : ¬ 1 < m := fun z => hc ⟨fun z2 => by rw [z2] at e2; exact absurd e2 (by decide), z⟩
          exact ⟨_, e1, _, _, rfl, rfl, _, rfl, by rw [decide_eq_false hm1]; exact hR _ hS1⟩
        · exact hR _ hS1
      · refine Do.go (X := ⟨K, some (d, l), Δ2⟩) (A := [some (.ref d), some (dI m), some (.ref l), none, none, none, none, none]) ?_ .rfl' hS1 hE
        refine do_count rfl rfl ?_
        refine ev_op (ev_count rfl rfl fun s => ?_)
        walk_at "ev"
        refine do_par (eva_cons (ev_count rfl rfl fun s => eva_cons (ev_cells rfl rfl fun cs hcs hcl => eva_nil ⟨_, _, rfl, ?_⟩)))
        walk_at "nf"
        have hlen : 0 < ((cs.map PyData.int).length : Int) := by
          rw [List.length_map]
          exact Int.natCast_pos.mpr (List.length_pos_iff.mpr hcs)
        refine do_set ?_
        walk_at "ev"
        have h0 : 0 ≤ s * 7 % ((cs.map PyData.int).length : Int) := Int.emod_nonneg _ (by omega)
        have h1 : s * 7 % ((cs.map PyData.int).length : Int) < ((cs.map PyData.int).length : Int) := Int.emod_lt_of_pos _ hlen
        have h2 : (s * 7 % ((cs.map PyData.int).length : Int)).toNat < cs.length := by
          rw [List.length_map] at h0 h1 ⊢
          omega
        refine op_ixL (d := .int cs[(s * 7 % ((cs.map PyData.int).length : Int)).toNat]) (atI_of h0 (by rw [List.getElem?_map, List.getElem?_eq_getElem h2]; rfl)) ?_
        walk_at "ev"
        refine ev_stamp rfl rfl fun st st0 st1 => ?_
        walk_at "go"
        refine do_seq (do_forI ?_)
        walk_at "ev"
        refine ⟨by decide, by decide, fun i A Γ1 => ∃ x y, A = [some (.ref d), some (dI m), some (.ref l), none, some (dI s), some (.dat (.list (cs.map PyData.int))), some (dI x), y] ∧ Γ = Γ1 ∧ 0 ≤ x ∧ x < 4294967291,
          ⟨_, _, rfl, rfl, Int.emod_nonneg _ (by decide), Int.emod_lt_of_pos _ (by decide)⟩, fun _ _ _ _ => trivial, fun B i dd A1 Γ2 hB hdd hI => ?_, fun A1 Γ2 hI => ?_⟩
        · obtain ⟨x, y, rfl, rfl, x0, x1⟩ := hI
          obtain ⟨hi, rfl⟩ := range_is hdd
          have hmul : CMulX x x := mulx_ok (a := 32) (b := 32) (by omega) (by omega) (by decide)
          walk_at "go"
          refine ev_stamp rfl rfl fun st st0 st1 => ?_
          walk_at "go"
          · exact .inl ⟨by omega, by omega⟩
          exact fin_nx ⟨_, _, rfl, rfl, Int.emod_nonneg _ (by decide), by have := Int.emod_lt_of_pos (x * x + st * (s + (0 + (i : Nat)))) (show (0 : Int) < 4294967279 by decide); omega⟩
        · obtain ⟨x, y, rfl, rfl, x0, x1⟩ := hI
          walk_at "go"
          intro v H' Δ3 sb3 hS3 ra
          obtain rfl := RelA.isI hS3 ra
          exact q (fun y hy => sb3 y (sb2 y hy)) H' _ hS3 (Int.emod_nonneg _ (by omega)) (Int.emod_lt_of_pos _ hpos)

theorem ok_law_pick {f : Addr} {fd : FuncData} (F : Fun K "_law_pick" "_law_pick" s_law_pick f fd) (nb : NB mg bnames) (F_law_draw : Fd P w K mg base "_law_draw" 1 ["deck", "many"] (sp_law_draw K))    : FnOk P w K mg base CX0 2 f fd ["deck", "things"] (sp_law_pick K) := by
  refine F.ok sc_law_pick (fun vs H Q E h => ?_) (fun cdv A outer s H vs Q E hr h => ?_)
  · obtain ⟨d, l, a, ds, Γ, Δ, rfl, _⟩ := h
    rfl
  · obtain ⟨d, l, a, ds, Γ, Δ, rfl, hS, hm, hne, hz, q⟩ := h
    refine ⟨_, (pss_one (ps_ret (pe_ix ix_list (pv 1) (pe_fd F_law_draw (hr.mono (by decide)) (by rfl) (pa_cons (pv 0) (pa_cons (pe_callB call_len_seq (by rfl) (nb "len" rfl) PySem.boot_len (pa_cons (pv 1) pa_nil)) pa_nil))) (fun _ _ => rfl)))), ?_⟩
    obtain ⟨vs, hL, hlen, Δ', rfl, hS', hv⟩ := hS.lstAt hm
    have hpos : 0 < ds.length := List.length_pos_iff.mpr hne
    refine ⟨_, rfl, _, rfl, _, rfl, a, vs, rfl, .inl hL, d, l, _, Γ, Δ, rfl, hS, ?_, ?_, fun H' r hS2 h0 h1 => ?_⟩
    · rw [hlen]
      omega
    · rw [hlen]
      exact Nat.lt_of_le_of_lt (show ((ds.length : Nat) : Int).natAbs ≤ 10000 by omega) (by decide +kernel)
    · obtain ⟨us, hL2, hlen2, Δ2, rfl, hS3, hv2⟩ := hS2.lstAt hm
      have hr : r.toNat < ds.length := by omega
      obtain ⟨v, e1, e2⟩ := dvs_at hv2 (List.getElem?_eq_getElem hr)
      refine ⟨a, us, r, v, rfl, rfl, hL2, atI_of h0 e1, q H' v _ (List.getElem_mem hr) ((hS3.also e2).weaken fun x hx => ?_)⟩
      rcases List.mem_cons.mp hx with rfl | hx
      · exact List.mem_cons_self ..
      · exact List.mem_cons_of_mem _ (List.mem_append_right _ hx)

theorem ok_law_great {f : Addr} {fd : FuncData} (F : Fun K "_law_great" "_law_great" s_law_great f fd) (nb : NB mg bnames) (F_law_draw : Fd P w K mg base "_law_draw" 1 ["deck", "many"] (sp_law_draw K))    : FnOk P w K mg base CX0 2 f fd ["deck", "many"] (sp_law_great K) := by
  refine F.ok sc_law_great (fun vs H Q E h => ?_) (fun cdv A outer s H vs Q E hr h => ?_)
  · obtain ⟨dk, Γ, Δ, as, hS, hE, d, l, m, rfl, _⟩ := h
    exact hE.len

  · obtain ⟨dk, Γ, Δ, as, hS, hE, d, l, m, rfl, hd, m0, k⟩ := h
    refine ⟨_, (pss_cons (ps_set (i := 2) sc_law_great.nd rfl (.inl rfl) pe_int)
        (pss_cons (ps_for PassesOwn.never rfl (pi_range1 (by rfl) (nb "range" rfl) (pa_cons pe_int pa_nil)) (pg_name (i := 3) sc_law_great.nd rfl (.inl rfl))
        (pss_one (ps_set (i := 2) sc_law_great.nd rfl (.inl rfl) (pe_op op_add (pe_op op_mul (pv 2) pe_int) (pe_fd F_law_draw (hr.mono (by decide)) (by rfl) (pa_cons (pv 0) (pa_cons pe_int pa_nil)))))))
        (pss_one (ps_ret (pe_op op_mod (pe_callTy call_int1 (by rfl) (nb "int" rfl) (by decide +kernel) (pa_cons (pv 2) pa_nil)) (pv 1)))))), ?_⟩
    refine Do.go (X := ⟨K, dk, Δ⟩) (A := startA 4 _) ?_ .rfl' hS (rel_start hE)
    dsimp only [startA, cxOf]
    walk_at "go"
    refine do_seq (do_forI ?_)
    walk_at "ev"
    refine ⟨by decide, by decide, fun i A Γ1 => ∃ x y, A = [some (.ref d), some (dI m), some (dI x), y] ∧ Γ = Γ1, ⟨0, _, rfl, rfl⟩, fun _ _ _ _ => trivial, fun B i dd A1 Γ2 hB hdd hI => ?_, fun A1 Γ2 hI => ?_⟩
    · obtain ⟨x, y, rfl, rfl⟩ := hI
      obtain ⟨hi, rfl⟩ := range_is hdd
      walk_at "go"
      refine ev_draw ?_
      walk_at "ev"
      refine ⟨_, l, _, rfl, hd, by decide, by decide +kernel, fun r r0 r1 => ?_⟩
      walk_at "go"
      exact fin_nx ⟨_, _, rfl, rfl⟩
    · obtain ⟨x, y, rfl, rfl⟩ := hI
      walk_at "go"
      exact k _ (Int.emod_nonneg _ (by omega)) (Int.emod_lt_of_pos _ (by omega))

theorem ok_law_power {f : Addr} {fd : FuncData} (F : Fun K "_law_power" "_law_power" s_law_power f fd) (nb : NB mg bnames)     : FnOk P w K mg base CX0 1 f fd ["base", "times"] (sp_law_power K) := by
  refine F.ok sc_law_power (fun vs H Q E h => ?_) (fun cdv A outer s H vs Q E hr h => ?_)
  · obtain ⟨dk, Γ, Δ, as, hS, hE, b, n, rfl, _⟩ := h
    exact hE.len

  · obtain ⟨dk, Γ, Δ, as, hS, hE, b, n, rfl, b1, b2, hn, k⟩ := h
    refine ⟨_, (pss_cons (ps_set (i := 2) sc_law_power.nd rfl (.inl rfl) pe_int)
        (pss_cons (ps_for PassesOwn.never rfl (pi_range1 (by rfl) (nb "range" rfl) (pa_cons (pv 1) pa_nil)) (pg_name (i := 3) sc_law_power.nd rfl (.inl rfl))
        (pss_one (ps_set (i := 2) sc_law_power.nd rfl (.inl rfl) (pe_op op_mulX (pv 2) (pv 0)))))
        (pss_one (ps_ret (pv 2))))), ?_⟩
    refine Do.go (X := ⟨K, dk, Δ⟩) (A := startA 4 _) ?_ .rfl' hS (rel_start hE)
    dsimp only [startA, cxOf]
    walk_at "go"
    refine do_seq (do_forI ?_)
    walk_at "ev"
    refine ⟨by omega, by omega, fun i A Γ1 => ∃ x, A = [some (dI b), some (dI n), some (dI (b ^ i)), x] ∧ Γ = Γ1, ⟨_, by rw [Int.pow_zero], rfl⟩, fun _ _ _ _ => trivial, fun B i dd A1 Γ2 hB hdd hI => ?_, fun A1 Γ2 hI => ?_⟩
    · obtain ⟨x, rfl, rfl⟩ := hI
      obtain ⟨hi, rfl⟩ := range_is hdd
      walk_at "go"
      · exact pow_mulx b1 b2 i (by omega) (by omega)
      exact fin_nx ⟨_, by rw [Int.pow_succ], rfl⟩
    · obtain ⟨x, rfl, rfl⟩ := hI
      rw [range_len, Int.toNat_natCast]
      walk_at "go"
      exact k

theorem ok_law_whole {f : Addr} {fd : FuncData} (F : Fun K "_law_whole" "_law_whole" s_law_whole f fd) (nb : NB mg bnames)     : FnOk P w K mg base CX0 1 f fd ["base", "number"] (sp_law_whole K) := by
  refine F.ok sc_law_whole (fun vs H Q E h => ?_) (fun cdv A outer s H vs Q E hr h => ?_)
  · obtain ⟨dk, Γ, Δ, as, hS, hE, b, n, rfl, _⟩ := h
    exact hE.len

  · obtain ⟨dk, Γ, Δ, as, hS, hE, b, n, rfl, b1, b2, h0, k⟩ := h
    refine ⟨_, (pss_cons (ps_par (by rfl) (i := 2) (j := 3) sc_law_whole.nd rfl rfl (by decide) rfl rfl (pa_cons (pe_callB call_abs (by rfl) (nb "abs" rfl) (by decide +kernel) (pa_cons (pv 1) pa_nil)) (pa_cons pe_int pa_nil)) (by rfl))
        (pss_cons (ps_while PassesOwn.never (pt_cmpR op_eq (pe_op op_mod (pe_callTy call_int1 (by rfl) (nb "int" rfl) (by decide +kernel) (pa_cons (pv 2) pa_nil)) (pv 0)) pe_int (nomark _)) (pss_one (ps_par (by rfl) (i := 2) (j := 3) sc_law_whole.nd rfl rfl (by decide) rfl rfl (pa_cons (pe_op op_fdivW (pv 2) (pv 0)) (pa_cons (pe_op op_add (pv 3) pe_int) pa_nil)) (by rfl))))
        (pss_one (ps_ret (pe_tup (pa_cons (pv 2) (pa_cons (pv 3) pa_nil))))))), ?_⟩
    refine Do.go (X := ⟨K, dk, Δ⟩) (A := startA 4 _) ?_ .rfl' hS (rel_start hE)
    dsimp only [startA, cxOf]
    walk_at "go"
    rw [show (if n < 0 then -n else n) = ((n.natAbs : Nat) : Int) by split <;> omega]
    refine do_seq (do_while (fun m A Γ1 => ∃ (x : Int) (t : Nat), A = [some (dI b), some (dI n), some (dI x), some (dI (t : Int))] ∧ Γ = Γ1 ∧ m = x.natAbs ∧ ((n.natAbs : Nat) : Int) = x * b ^ t ∧ 0 < x) _ ⟨_, 0, rfl, rfl, rfl, by simp, by omega⟩ fun m A1 Γ1 hI => ?_)
    obtain ⟨x, t, rfl, rfl, rfl, hx, hn⟩ := hI
    walk_at "ev"
    refine ⟨fun e => ?_, fun e => ?_⟩
    · have xm := of_decide_eq_true e
      have hdv : CDivW x b := divw_dec (by omega) (by have : (1000 : Int) ≤ 10 ^ 200 := by decide
                                                      omega)
      obtain ⟨q0, q1⟩ := out_less b1 hn xm
      walk_at "go"
      exact fin_nx ⟨(x / b).natAbs, by omega, _, t + 1, rfl, rfl, rfl, out_step b1 xm hx, q0⟩
    · walk_at "go"
      exact k _ _ hn (of_decide_eq_false e) hx

theorem prpow {p q : Nat} (h : Pr p) : ∀ {t : Nat}, p ∣ q ^ t → p ∣ q
  | 0, hd => by
    have := Nat.le_of_dvd Nat.one_pos hd
    have := h.1
    omega
  | t + 1, hd => by
    rw [Nat.pow_succ] at hd
    exact (h.mul hd).elim (prpow h) id
theorem ok_law_primes {f : Addr} {fd : FuncData} (F : Fun K "_law_primes" "_law_primes" s_law_primes f fd) (nb : NB mg bnames)     : FnOk P w K mg base CX0 1 f fd ["number"] (sp_law_primes K) := by
  refine F.ok sc_law_primes (fun vs H Q E h => ?_) (fun cdv A outer s H vs Q E hr h => ?_)
  · obtain ⟨dk, Γ, Δ, as, hS, hE, n, rfl, _⟩ := h
    exact hE.len

  · obtain ⟨dk, Γ, Δ, as, hS, hE, n, rfl, n1, n2, k⟩ := h
    refine ⟨_, (pss_cons (ps_par3 (by rfl) (i := 1) (j := 2) (l := 3) sc_law_primes.nd rfl rfl rfl (by decide) (by decide) (by decide) rfl rfl rfl (pa_cons (pe_lst pa_nil) (pa_cons (pv 0) (pa_cons pe_int pa_nil))) (by rfl))
        (pss_cons (ps_while PassesOwn.never (pt_cmpR op_gt (pv 2) pe_int (nomark _)) (pss_cons (ps_set (i := 3) sc_law_primes.nd rfl (.inl rfl) (pe_ifExp (pt_cmpR op_gt (pe_op op_mulX (pv 3) (pv 3)) (pv 2) (nomark _)) (pv 2) (pv 3)))
        (pss_cons (ps_if (pt_cmpR op_eq (pe_op op_mod (pe_callTy call_int1 (by rfl) (nb "int" rfl) (by decide +kernel) (pa_cons (pv 2) pa_nil)) (pv 3)) pe_int (nomark _)) (pss_cons (ps_expr (pe_bm PySem.F.plainAttrs_list PySem.F.slot_list_append PySem.F.type_list_append mt_append (pv 1) (pa_cons (pv 3) pa_nil)))
        (pss_one (ps_while PassesOwn.never (pt_cmpR op_eq (pe_op op_mod (pe_callTy call_int1 (by rfl) (nb "int" rfl) (by decide +kernel) (pa_cons (pv 2) pa_nil)) (pv 3)) pe_int (nomark _)) (pss_one (ps_set (i := 2) sc_law_primes.nd rfl (.inl rfl) (pe_op op_fdivW (pv 2) (pv 3))))))) pss_nil)
        (pss_one (ps_set (i := 3) sc_law_primes.nd rfl (.inl rfl) (pe_op op_add (pv 3) pe_int))))))
        (pss_one (ps_ret (pv 1))))), ?_⟩
    refine Do.go (X := ⟨K, dk, Δ⟩) (A := startA 4 _) ?_ .rfl' hS (rel_start hE)
    dsimp only [startA, cxOf]
    have e3 : (1000 : Int) ≤ 10 ^ 200 := by decide
    walk_at "go"
    rename_i p
    refine do_seq (do_while (fun m A Γ1 => ∃ (qs : List Nat) (r q : Nat), A = [some (dI (n : Int)), some (.ref p), some (dI (r : Int)), some (dI (q : Int))] ∧ Γ1 = (p, qs.map fun p : Nat => PyData.int (p : Int)) :: Γ ∧ m = r + 1 - q ∧
      1 ≤ r ∧ r ≤ 1000 ∧ 2 ≤ q ∧ qs.Pairwise (· < ·) ∧ (∀ x ∈ qs, Pr x ∧ x < q) ∧ (∀ d, 2 ≤ d → d < q → ¬ d ∣ r) ∧ (∀ x, Pr x → (x ∣ n ↔ x ∈ qs ∨ x ∣ r)) ∧ prodN qs * r ∣ n ∧ qs.length ≤ q) _
      ⟨[], n, 2, rfl, rfl, rfl, by omega, n2, by decide, .nil, fun x hx => (nomatch hx), fun d h1 h2 => by omega, fun x hx => ⟨.inr, fun h => h.resolve_left fun z => nomatch z⟩, by rw [show prodN [] * n = n from Nat.one_mul n]; exact Nat.dvd_refl n, by decide⟩ fun m A1 Γ1 hI => ?_)
    obtain ⟨qs, r, q, rfl, rfl, rfl, r1, r2, q2, hasc, hpr, hno, hmem, hprod, hql⟩ := hI
    walk_at "ev"
    refine ⟨fun e => ?_, fun e => ?_⟩
    · have e : 1 < (r : Int) := of_decide_eq_true e
      have hqr : q ≤ r := Nat.le_of_not_lt fun z => hno r (by omega) z (Nat.dvd_refl r)
      walk_at "go"
      refine ev_ifJ (fun a Γ1 => ∃ q' : Nat, a = dI (q' : Int) ∧ Γ1 = (p, qs.map fun p : Nat => PyData.int (p : Int)) :: Γ ∧ q ≤ q' ∧ q' ≤ r ∧ ∀ d, 2 ≤ d → d < q' → ¬ d ∣ r) ?_ ?_
      · walk_at "ev"
        refine ⟨fun e2 => ?_, fun e2 => ?_⟩
        · have e2 : (r : Int) < (q : Int) * q := of_decide_eq_true e2
          have e2 : r < q * q := by exact_mod_cast e2
          walk_at "ev"
          refine ⟨rfl, hqr, Nat.le_refl _, fun d d2 dr hd => ?_⟩
          have hdq : q ≤ d := Nat.le_of_not_lt fun z => hno d d2 z hd
          obtain ⟨c, hc⟩ := hd
          have hcq : q ≤ c := Nat.le_of_not_lt fun z => by
            have c2 : 2 ≤ c := by
              rcases Nat.lt_or_ge c 2 with h | h
              · have : c = 0 ∨ c = 1 := by omega
                rcases this with rfl | rfl
                · omega
                · omega
              · exact h
            exact hno c c2 z ⟨d, by rw [hc, Nat.mul_comm]⟩
          have := Nat.mul_le_mul hdq hcq
          omega
        · walk_at "ev"
          exact ⟨rfl, Nat.le_refl _, hqr, hno⟩
      rintro _ _ ⟨q', rfl, rfl, h1, h2, hno'⟩
      walk_at "nf"
      refine do_ifS ?_
      walk_at "ev"
      refine ⟨fun e2 => ?_, fun e2 => ?_⟩
      · have hd : q' ∣ r := Int.natCast_dvd_natCast.mp (Int.dvd_of_emod_eq_zero (of_decide_eq_true e2))
        have hq := Pr.least (by omega) hd hno'
        walk_at "go"
        · rw [List.length_map]
          omega
        refine do_while (fun m A Γ1 => ∃ (x t : Nat), A = [some (dI (n : Int)), some (.ref p), some (dI (x : Int)), some (dI (q' : Int))] ∧ Γ1 = (p, (qs.map fun p : Nat => PyData.int (p : Int)) ++ [.int (q' : Int)]) :: Γ ∧ x = m ∧ r = x * q' ^ t ∧ 1 ≤ x) _ ⟨r, 0, rfl, rfl, rfl, by simp, r1⟩ fun m A1 Γ1 hI => ?_
        obtain ⟨x, t, rfl, rfl, rfl, hx, x1⟩ := hI
        have hdv : CDivW (x : Int) (q' : Int) := divw_dec (by omega) (by omega)
        walk_at "ev"
        refine ⟨fun e3 => ?_, fun e3 => ?_⟩
        · have hd3 : q' ∣ x := Int.natCast_dvd_natCast.mp (Int.dvd_of_emod_eq_zero (of_decide_eq_true e3))
          walk_at "go"
          refine fin_nx ⟨x / q', Nat.div_lt_self (by omega) (by omega), x / q', t + 1, rfl, rfl, rfl, ?_, Nat.div_pos (Nat.le_of_dvd (by omega) hd3) (by omega)⟩
          rw [Nat.pow_succ, Nat.mul_comm (q' ^ t), ← Nat.mul_assoc, Nat.div_mul_cancel hd3, hx]
        · have hd3 : ¬ q' ∣ x := fun z => of_decide_eq_false e3 (Int.emod_eq_zero_of_dvd (Int.natCast_dvd_natCast.mpr z))
          have ht : 1 ≤ t := by
            rcases Nat.eq_zero_or_pos t with h | h
            · rw [h, Nat.pow_zero, Nat.mul_one] at hx
              rw [hx] at hd
              exact absurd hd hd3
            · exact h
          have hxr : x ∣ r := ⟨_, hx⟩
          have hxr2 := Nat.le_of_dvd (by omega) hxr
          have hqx : q' * x ∣ r := by
            obtain ⟨t', rfl⟩ : ∃ t', t = t' + 1 := ⟨t - 1, by omega⟩
            exact ⟨q' ^ t', by rw [hx, Nat.pow_succ]; simp only [Nat.mul_assoc, Nat.mul_comm, Nat.mul_left_comm]⟩
          refine fin_do ?_
          walk_at "go"
          refine fin_nx ⟨_, by omega, qs ++ [q'], x, q' + 1, rfl, by rw [List.map_append]; rfl, rfl, x1, by omega, by omega, ?_, ?_, ?_, ?_, ?_, by rw [List.length_append]; show _ + 1 ≤ _; omega⟩
          · refine List.pairwise_append.mpr ⟨hasc, List.pairwise_singleton .., fun y hy z hz => ?_⟩
            rw [List.mem_singleton.mp hz]
            have := (hpr y hy).2
            omega
          · intro y hy
            rcases List.mem_append.mp hy with hy | hy
            · exact ⟨(hpr y hy).1, by have := (hpr y hy).2; omega⟩
            · rw [List.mem_singleton.mp hy]
              exact ⟨hq, by omega⟩
          · intro d d2 dq hd2
            rcases Nat.lt_or_eq_of_le (Nat.le_of_lt_succ dq) with h | h
            · exact hno' d d2 h (Nat.dvd_trans hd2 hxr)
            · rw [h] at hd2
              exact hd3 hd2
          · intro y hy
            rw [hmem y hy, List.mem_append, List.mem_singleton]
            constructor
            · rintro (h | h)
              · exact .inl (.inl h)
              · rw [hx] at h
                rcases hy.mul h with h | h
                · exact .inr h
                · exact .inl (.inr (hy.eq hq (prpow hy h)))
            · rintro ((h | h) | h)
              · exact .inl h
              · exact .inr (by rw [h]; exact hd)
              · exact .inr (Nat.dvd_trans h hxr)
          · rw [prodN_snoc, Nat.mul_assoc]
            exact Nat.dvd_trans (Nat.mul_dvd_mul_left _ hqx) hprod
      · have hd : ¬ q' ∣ r := fun z => of_decide_eq_false e2 (Int.emod_eq_zero_of_dvd (Int.natCast_dvd_natCast.mpr z))
        walk_at "go"
        refine fin_nx ⟨_, by omega, qs, r, q' + 1, rfl, rfl, rfl, r1, r2, by omega, hasc, fun x hx => ⟨(hpr x hx).1, by have := (hpr x hx).2; omega⟩, fun d d2 dq hd2 => ?_, hmem, hprod, by omega⟩
        rcases Nat.lt_or_eq_of_le (Nat.le_of_lt_succ dq) with h | h
        · exact hno' d d2 h hd2
        · rw [h] at hd2
          exact hd hd2
    · have e : ¬ 1 < (r : Int) := of_decide_eq_false e
      obtain rfl : r = 1 := by omega
      rw [Nat.mul_one] at hprod
      refine fin_do ?_
      refine do_freeze (i := 1) rfl .here ?_
      walk_at "go"
      refine k qs ⟨hasc, fun x hx => (hpr x hx).1, fun x hx => ⟨fun h => ((hmem x hx).mp h).resolve_right fun z => ?_, fun h => (hmem x hx).mpr (.inl h)⟩, hprod⟩
      have := Nat.le_of_dvd Nat.one_pos z
      have := hx.1
      omega

theorem ok_law_plain {f : Addr} {fd : FuncData} (F : Fun K "_law_plain" "_law_plain" s_law_plain f fd) (nb : NB mg bnames) (F_law_draw : Fd P w K mg base "_law_draw" 1 ["deck", "many"] (sp_law_draw K)) (F_law_pick : Fd P w K mg base "_law_pick" 2 ["deck", "things"] (sp_law_pick K)) (F_law_primes : Fd P w K mg base "_law_primes" 1 ["number"] (sp_law_primes K))    : FnOk P w K mg base CX0 3 f fd ["deck"] (sp_law_plain K) := by
  refine F.ok sc_law_plain (fun vs H Q E h => ?_) (fun cdv A outer s H vs Q E hr h => ?_)
  · obtain ⟨dk, Γ, Δ, as, hS, hE, d, l, rfl, _⟩ := h
    exact hE.len

  · obtain ⟨dk, Γ, Δ, as, hS, hE, d, l, rfl, hd, k⟩ := h
    refine ⟨_, (pss_cons (ps_set (i := 1) sc_law_plain.nd rfl (.inl rfl) pe_int)
        (pss_cons (ps_for PassesOwn.never rfl (pi_list (pe_fd F_law_primes (hr.mono (by decide)) (by rfl) (pa_cons (pe_fd F_law_pick (hr.mono (by decide)) (by rfl) (pa_cons (pv 0) (pa_cons (pe_lst (pa_cons pe_int (pa_cons pe_int (pa_cons pe_int (pa_cons pe_int (pa_cons pe_int (pa_cons pe_int (pa_cons pe_int (pa_cons (pe_op op_add pe_int (pe_fd F_law_draw (hr.mono (by decide)) (by rfl) (pa_cons (pv 0) (pa_cons pe_int pa_nil)))) pa_nil))))))))) pa_nil))) pa_nil))) (pg_name (i := 2) sc_law_plain.nd rfl (.inl rfl))
        (pss_one (ps_set (i := 1) sc_law_plain.nd rfl (.inl rfl) (pe_op op_mulX (pv 1) (pv 2)))))
        (pss_one (ps_ret (pv 1))))), ?_⟩
    refine Do.go (X := ⟨K, dk, Δ⟩) (A := startA 3 _) ?_ .rfl' hS (rel_start hE)
    dsimp only [startA, cxOf]
    walk_at "go"
    refine do_seq (do_forI ?_)
    refine evi_L ?_
    refine ev_call ?_
    walk_at "ev"
    refine ev_pick ?_
    walk_at "ev"
    refine ev_draw ?_
    walk_at "ev"
    refine ⟨_, l, _, rfl, hd, by decide, by decide +kernel, fun r r0 r1 => ?_⟩
    walk_at "ev"
    refine ⟨_, l, _, rfl, hd, by simp, (by show 8 ≤ 10000; decide), fun x hx => ?_⟩
    obtain ⟨n, rfl, n1, n2⟩ : ∃ b : Nat, x = .int (b : Int) ∧ 2 ≤ b ∧ b ≤ 1000 := by
      simp only [List.mem_cons, List.not_mem_nil, or_false] at hx
      rcases hx with rfl | rfl | rfl | rfl | rfl | rfl | rfl | rfl
      · exact ⟨2, rfl, by decide, by decide⟩
      · exact ⟨6, rfl, by decide, by decide⟩
      · exact ⟨10, rfl, by decide, by decide⟩
      · exact ⟨10, rfl, by decide, by decide⟩
      · exact ⟨30, rfl, by decide, by decide⟩
      · exact ⟨210, rfl, by decide, by decide⟩
      · exact ⟨997, rfl, by decide, by decide⟩
      · exact ⟨(2 + r).toNat, by rw [Int.toNat_of_nonneg (by omega)], by omega, by omega⟩
    clear hx
    walk_at "ev"
    refine fun R hR => ⟨n, rfl, n1, n2, fun ps hps => hR _ _ ?_⟩
    have hd2 : ∀ i, prodN (ps.take i) ≤ 1000 := fun i => by
      have h1 : prodN (ps.take i) ∣ prodN ps := by
        conv => rhs; rw [← List.take_append_drop i ps]
        rw [prodN_app]
        exact Nat.dvd_mul_right ..
      have := Nat.le_of_dvd (by omega) (Nat.dvd_trans h1 hps.2.2.2)
      omega
    have hp2 : ∀ p ∈ ps, p ≤ 1000 := fun p hp => by
      have := Nat.le_of_dvd (by omega) ((hps.2.2.1 p (hps.2.1 p hp)).mpr hp)
      omega
    have e3 : (1000 : Int) ≤ 10 ^ 200 := by decide
    refine ⟨_, rfl, fun i A Γ1 => ∃ x, A = [some (.ref d), some (dI (prodN (ps.take i) : Nat)), x] ∧ Γ = Γ1, ⟨_, rfl, rfl⟩, fun _ _ _ _ => trivial, fun B i dd A1 Γ2 hB hdd hI => ?_, fun A1 Γ2 hI => ?_⟩
    · obtain ⟨x, rfl, rfl⟩ := hI
      rw [List.getElem?_map] at hdd
      obtain ⟨p, hp, rfl⟩ := Option.map_eq_some_iff.mp hdd
      have h1 := hd2 i
      have h2 := hp2 p (List.mem_of_getElem? hp)
      walk_at "go"
      refine fin_nx ⟨some (dI (p : Int)), ?_, rfl⟩
      rw [show ps.take (i + 1) = ps.take i ++ [p] by rw [List.take_add_one, hp]; rfl, prodN_snoc, Int.natCast_mul]
    · obtain ⟨x, rfl, rfl⟩ := hI
      rw [List.length_map, List.take_length]
      walk_at "go"
      have hb2 := hd2 ps.length
      rw [List.take_length] at hb2
      refine k _ ps ⟨hps.1, hps.2.1, rfl⟩ ?_ hb2
      obtain ⟨q, hq, hqd⟩ := ex_prime n n (Nat.le_refl _) n1
      have := Nat.le_of_dvd (prodN_pos fun x hx => (hps.2.1 x hx).pos) (dvd_prodN ((hps.2.2.1 q hq).mp hqd))
      have := hq.1
      omega

theorem ok_law_factor {f : Addr} {fd : FuncData} (F : Fun K "_law_factor" "_law_factor" s_law_factor f fd) (nb : NB mg bnames) (F_law_draw : Fd P w K mg base "_law_draw" 1 ["deck", "many"] (sp_law_draw K)) (F_law_pick : Fd P w K mg base "_law_pick" 2 ["deck", "things"] (sp_law_pick K)) (F_law_primes : Fd P w K mg base "_law_primes" 1 ["number"] (sp_law_primes K))    : FnOk P w K mg base CX0 3 f fd ["deck", "base"] (sp_law_factor K) := by
  refine F.ok sc_law_factor (fun vs H Q E h => ?_) (fun cdv A outer s H vs Q E hr h => ?_)
  · obtain ⟨dk, Γ, Δ, as, hS, hE, d, l, b, ps, rfl, _⟩ := h
    exact hE.len

  · obtain ⟨dk, Γ, Δ, as, hS, hE, d, l, b, ps, rfl, hd, hp, b1, b2, k⟩ := h
    refine ⟨_, (pss_cons (ps_set (i := 2) sc_law_factor.nd rfl (.inl rfl) pe_int)
        (pss_cons (ps_for PassesOwn.never rfl (pi_list (pe_fd F_law_primes (hr.mono (by decide)) (by rfl) (pa_cons (pv 1) pa_nil))) (pg_name (i := 3) sc_law_factor.nd rfl (.inl rfl))
        (pss_one (ps_for PassesOwn.never rfl (pi_range1 (by rfl) (nb "range" rfl) (pa_cons (pe_fd F_law_pick (hr.mono (by decide)) (by rfl) (pa_cons (pv 0) (pa_cons (pe_lst (pa_cons pe_int (pa_cons pe_int (pa_cons pe_int (pa_cons pe_int (pa_cons pe_int (pa_cons (pe_fd F_law_draw (hr.mono (by decide)) (by rfl) (pa_cons (pv 0) (pa_cons pe_int pa_nil))) pa_nil))))))) pa_nil))) pa_nil)) (pg_name (i := 4) sc_law_factor.nd rfl (.inl rfl))
        (pss_one (ps_set (i := 2) sc_law_factor.nd rfl (.inl rfl) (pe_op op_mulX (pv 2) (pv 3)))))))
        (pss_one (ps_ret (pe_op op_mulX (pv 2) (pe_fd F_law_pick (hr.mono (by decide)) (by rfl) (pa_cons (pv 0) (pa_cons (pe_lst (pa_cons pe_int (pa_cons pe_int (pa_cons pe_int (pa_cons pe_int (pa_cons pe_int (pa_cons pe_int (pa_cons pe_int (pa_cons pe_int (pa_cons (pe_op op_add pe_int (pe_fd F_law_draw (hr.mono (by decide)) (by rfl) (pa_cons (pv 0) (pa_cons pe_int pa_nil)))) pa_nil)))))))))) pa_nil)))))))), ?_⟩
    refine Do.go (X := ⟨K, dk, Δ⟩) (A := startA 5 _) ?_ .rfl' hS (rel_start hE)
    dsimp only [startA, cxOf]
    have e3 : (1000 : Int) ≤ 10 ^ 200 := by decide
    have hd2 : ∀ i, prodN (ps.take i) ≤ 1000 ∧ 1 ≤ prodN (ps.take i) := fun i => by
      have h1 : prodN (ps.take i) ∣ b := by
        rw [hp.2.2]
        conv => rhs; rw [← List.take_append_drop i ps]
        rw [prodN_app]
        exact Nat.dvd_mul_right ..
      have := Nat.le_of_dvd (by omega) h1
      exact ⟨by omega, prodN_pos fun x hx => (hp.2.1 x (List.mem_of_mem_take hx)).pos⟩
    walk_at "go"
    refine do_seq (do_forI ?_)
    refine evi_L ?_
    refine ev_call ?_
    walk_at "ev"
    refine fun R hR => ⟨b, rfl, b1, b2, fun qs hqs => hR _ _ ?_⟩
    obtain rfl := hqs.uniq hp.pl
    refine ⟨_, rfl, fun i A Γ1 => ∃ (f : Nat) (x y : Option AV), A = [some (.ref d), some (dI (b : Int)), some (dI (f : Int)), x, y] ∧ Γ = Γ1 ∧ 1 ≤ f ∧ f ≤ prodN (qs.take i) ^ 6, ⟨1, _, _, rfl, rfl, by decide, by show 1 ≤ 1 ^ 6; decide⟩, fun _ _ _ _ => trivial, fun B i dd A1 Γ2 hB hdd hI => ?_, fun A1 Γ2 hI => ?_⟩
    · obtain ⟨f, x, y, rfl, rfl, f1, f2⟩ := hI
      rw [List.getElem?_map] at hdd
      obtain ⟨p, hpm, rfl⟩ := Option.map_eq_some_iff.mp hdd
      obtain ⟨q1, q2, q3, q4⟩ := plain_mem hp (by omega) (List.mem_of_getElem? hpm)
      have hp0 := q1.pos
      have hP := (hd2 i).1
      have hP6 : prodN (qs.take i) ^ 6 ≤ 1000 ^ 6 := Nat.pow_le_pow_left hP 6
      have eT : qs.take (i + 1) = qs.take i ++ [p] := by rw [List.take_add_one, hpm]; rfl
      walk_at "go"
      refine do_forI ?_
      refine evi_R ?_
      walk_at "ev"
      refine ev_pick ?_
      walk_at "ev"
      refine ev_draw ?_
      walk_at "ev"
      refine ⟨_, l, _, rfl, hd, by decide, by decide +kernel, fun r r0 r1 => ?_⟩
      walk_at "ev"
      refine ⟨_, l, _, rfl, hd, by simp, (by show 6 ≤ 10000; decide), fun x hx => ?_⟩
      obtain ⟨m, rfl, m6⟩ : ∃ m : Nat, x = .int (m : Int) ∧ m ≤ 6 := by
        simp only [List.mem_cons, List.not_mem_nil, or_false] at hx
        rcases hx with rfl | rfl | rfl | rfl | rfl | rfl
        · exact ⟨0, rfl, by decide⟩
        · exact ⟨0, rfl, by decide⟩
        · exact ⟨1, rfl, by decide⟩
        · exact ⟨2, rfl, by decide⟩
        · exact ⟨3, rfl, by decide⟩
        · exact ⟨r.toNat, by rw [Int.toNat_of_nonneg r0], by omega⟩
      clear hx
      walk_at "ev"
      refine ⟨by omega, by omega, fun j A Γ1 => ∃ y, A = [some (.ref d), some (dI (b : Int)), some (dI (f * p ^ j : Nat)), some (dI (p : Int)), y] ∧ Γ = Γ1, ⟨_, by rw [Nat.pow_zero, Nat.mul_one], rfl⟩, fun _ _ _ _ => trivial, fun B j dd A1 Γ2 hB hdd hI => ?_, fun A1 Γ2 hI => ?_⟩
      · obtain ⟨y, rfl, rfl⟩ := hI
        obtain ⟨hj, rfl⟩ := range_is hdd
        have hj : j < m := by rw [Int.toNat_natCast] at hj; exact hj
        have hpj : p ^ j ≤ 1000 ^ 6 := Nat.le_trans (Nat.pow_le_pow_left (by omega) j) (Nat.pow_le_pow_right (by decide) (by omega))
        have hfp : f * p ^ j ≤ 1000 ^ 6 * 1000 ^ 6 := Nat.mul_le_mul (by omega) hpj
        have hm : CMulX ((f * p ^ j : Nat) : Int) (p : Int) := mulx_ok (a := 200) (b := 10) (by rw [Int.natAbs_natCast]; exact Nat.lt_of_le_of_lt hfp (by decide)) (by rw [Int.natAbs_natCast]; omega) (by decide)
        walk_at "go"
        refine fin_nx ⟨some (dI (0 + j : Int)), ?_, rfl⟩
        rw [Nat.pow_succ, ← Nat.mul_assoc, Int.natCast_mul (f * p ^ j) p]
      · obtain ⟨y, rfl, rfl⟩ := hI
        rw [range_len, Int.toNat_natCast]
        refine fin_nx ⟨f * p ^ m, _, _, rfl, rfl, Nat.mul_pos f1 (Nat.pow_pos hp0), ?_⟩
        rw [eT, prodN_snoc, Nat.mul_pow]
        exact Nat.mul_le_mul f2 (Nat.pow_le_pow_right hp0 m6)
    · obtain ⟨f, x, y, rfl, rfl, f1, f2⟩ := hI
      have hP6 : prodN (qs.take ((qs.map fun p : Nat => PyData.int (p : Int)).length)) ^ 6 ≤ 1000 ^ 6 := Nat.pow_le_pow_left (hd2 _).1 6
      have e18 : (1000 : Nat) ^ 6 = 10 ^ 18 := by decide
      walk_at "go"
      refine ev_pick ?_
      walk_at "ev"
      refine ev_draw ?_
      walk_at "ev"
      refine ⟨_, l, _, rfl, hd, by decide, by decide +kernel, fun r r0 r1 => ?_⟩
      walk_at "ev"
      refine ⟨_, l, _, rfl, hd, by simp, (by show 9 ≤ 10000; decide), fun x hx => ?_⟩
      obtain ⟨c, rfl, c1, c2⟩ : ∃ c : Int, x = .int c ∧ 1 ≤ c ∧ c ≤ 200 := by
        simp only [List.mem_cons, List.not_mem_nil, or_false] at hx
        rcases hx with rfl | rfl | rfl | rfl | rfl | rfl | rfl | rfl | rfl <;> exact ⟨_, rfl, by omega, by omega⟩
      clear hx
      have hf : (f : Int) ≤ 10 ^ 18 := by exact_mod_cast (by omega : f ≤ 10 ^ 18)
      have hm : CMulX (f : Int) c := mulx_dec (by omega) (by omega) (by omega) (by omega)
      have h1 : (f : Int) * c ≤ 10 ^ 18 * 200 := Int.mul_le_mul hf c2 (by omega) (by decide)
      have h2 : 1 ≤ (f : Int) * c := by
        have : (1 : Int) * 1 ≤ (f : Int) * c := Int.mul_le_mul (by omega) c1 (by decide) (by omega)
        omega
      walk_at "go"
      exact k _ h2 (by omega)

theorem ok_law_weight {f : Addr} {fd : FuncData} (F : Fun K "_law_weight" "_law_weight" s_law_weight f fd) (nb : NB mg bnames)     : FnOk P w K mg base CX0 1 f fd ["base", "prime", "number"] (sp_law_weight K) := by
  refine F.ok sc_law_weight (fun vs H Q E h => ?_) (fun cdv A outer s H vs Q E hr h => ?_)
  · obtain ⟨dk, Γ, Δ, as, hS, hE, b, p, n, rfl, _⟩ := h
    exact hE.len

  · obtain ⟨dk, Γ, Δ, as, hS, hE, b, p, n, rfl, b1, b2, p1, p2, hn, hn60, k⟩ := h
    refine ⟨_, (pss_cons (ps_par (by rfl) (i := 3) (j := 4) sc_law_weight.nd rfl rfl (by decide) rfl rfl (pa_cons (pe_callB call_abs (by rfl) (nb "abs" rfl) (by decide +kernel) (pa_cons (pv 2) pa_nil)) (pa_cons pe_int pa_nil)) (by rfl))
        (pss_cons (ps_while PassesOwn.never (pt_cmpR op_eq (pe_op op_mod (pe_callTy call_int1 (by rfl) (nb "int" rfl) (by decide +kernel) (pa_cons (pv 3) pa_nil)) (pv 1)) pe_int (nomark _)) (pss_one (ps_par (by rfl) (i := 3) (j := 4) sc_law_weight.nd rfl rfl (by decide) rfl rfl (pa_cons (pe_op op_fdivW (pv 3) (pv 1)) (pa_cons (pe_op op_mulX (pv 4) (pv 0)) pa_nil)) (by rfl))))
        (pss_one (ps_ret (pe_tup (pa_cons (pe_callB call_abs (by rfl) (nb "abs" rfl) (by decide +kernel) (pa_cons (pv 2) pa_nil)) (pa_cons (pv 4) pa_nil))))))), ?_⟩
    refine Do.go (X := ⟨K, dk, Δ⟩) (A := startA 5 _) ?_ .rfl' hS (rel_start hE)
    dsimp only [startA, cxOf]
    have e3 : (1000 : Int) ≤ 10 ^ 200 := by decide
    have hna : n.natAbs < 2 ^ 200 := n60 hn60
    have hn1 : 0 < n.natAbs := by omega
    have ea : (if n < 0 then -n else n) = ((n.natAbs : Nat) : Int) := by split <;> omega
    walk_at "go"
    rw [ea]
    refine do_seq (do_while (fun m A Γ1 => ∃ (x t : Nat), A = [some (dI (b : Int)), some (dI (p : Int)), some (dI n), some (dI (x : Int)), some (dI ((b ^ t : Nat) : Int))] ∧ Γ = Γ1 ∧ x = m ∧ n.natAbs = x * p ^ t ∧ 0 < x) _ ⟨n.natAbs, 0, rfl, rfl, rfl, by simp, hn1⟩ fun m A1 Γ1 hI => ?_)
    obtain ⟨x, t, rfl, rfl, rfl, hx, x0⟩ := hI
    have hdv : CDivW (x : Int) (p : Int) := divw_dec (by omega) (by omega)
    walk_at "ev"
    refine ⟨fun e => ?_, fun e => ?_⟩
    · have hd : p ∣ x := Int.natCast_dvd_natCast.mp (Int.dvd_of_emod_eq_zero (of_decide_eq_true e))
      have ht : t < 200 := by
        have h1 : p ^ t ≤ n.natAbs := by rw [hx]; exact Nat.le_mul_of_pos_left _ x0
        have h2 : 2 ^ t ≤ p ^ t := Nat.pow_le_pow_left p1 t
        exact (Nat.pow_lt_pow_iff_right (by decide : 1 < 2)).mp (Nat.lt_of_le_of_lt (Nat.le_trans h2 h1) hna)
      have hbt : ((b ^ t : Nat) : Int).natAbs < 2 ^ 2001 := by
        rw [Int.natAbs_natCast]
        have := pow_lt (b := (b : Int)) (by omega) (by omega) t
        rw [Int.natAbs_pow] at this
        exact Nat.lt_of_lt_of_le this (Nat.pow_le_pow_right (by decide) (by omega))
      have hm : CMulX ((b ^ t : Nat) : Int) (b : Int) := mulx_ok (a := 2001) (b := 10) hbt (by omega) (by decide)
      refine do_parL (eva_cons ?_)
      walk_at "ev"
      refine fin_nx ⟨x / p, Nat.div_lt_self x0 (by omega), x / p, t + 1, by rw [Nat.pow_succ, Int.natCast_mul]; rfl, rfl, rfl, ?_, Nat.div_pos (Nat.le_of_dvd x0 hd) (by omega)⟩
      rw [Nat.pow_succ, Nat.mul_comm (p ^ t), ← Nat.mul_assoc, Nat.div_mul_cancel hd, hx]
    · have hd : ¬ p ∣ x := fun z => of_decide_eq_false e (Int.emod_eq_zero_of_dvd (Int.natCast_dvd_natCast.mpr z))
      have hvl : vl p n.natAbs = t := vl_eq p1 ⟨x, hx, hd⟩
      refine fin_do ?_
      walk_at "go"
      rw [ea, ← hvl]
      exact k

theorem ok_law_share {f : Addr} {fd : FuncData} (F : Fun K "_law_share" "_law_share" s_law_share f fd) (nb : NB mg bnames) (F_law_weight : Fd P w K mg base "_law_weight" 1 ["base", "prime", "number"] (sp_law_weight K))    : FnOk P w K mg base CX0 2 f fd ["base", "prime", "numbers"] (sp_law_share K) := by
  refine F.ok sc_law_share (fun vs H Q E h => ?_) (fun cdv A outer s H vs Q E hr h => ?_)
  · obtain ⟨dk, Γ, Δ, as, hS, hE, b, p, ns, rfl, _⟩ := h
    exact hE.len

  · obtain ⟨dk, Γ, Δ, as, hS, hE, b, p, ns, rfl, b1, b2, p1, p2, hok, k⟩ := h
    refine ⟨_, (pss_cons (ps_asg (pe_tup (pa_cons pe_int (pa_cons pe_int pa_nil))) (pg_tup (by rfl) (pgs_cons (pg_name (i := 3) sc_law_share.nd rfl (.inl rfl)) (pgs_cons (pg_name (i := 4) sc_law_share.nd rfl (.inl rfl)) pgs_nil))))
        (pss_cons (ps_for PassesOwn.never rfl (pi_tup (pv 2)) (pg_name (i := 5) sc_law_share.nd rfl (.inl rfl))
        (pss_cons (ps_asg (pe_fd F_law_weight (hr.mono (by decide)) (by rfl) (pa_cons (pv 0) (pa_cons (pv 1) (pa_cons (pv 5) pa_nil)))) (pg_tup (by rfl) (pgs_cons (pg_name (i := 6) sc_law_share.nd rfl (.inl rfl)) (pgs_cons (pg_name (i := 7) sc_law_share.nd rfl (.inl rfl)) pgs_nil))))
        (pss_one (ps_if (pt_cmpR op_gt (pv 6) (pv 7) (nomark _)) (pss_one (ps_par (by rfl) (i := 3) (j := 4) sc_law_share.nd rfl rfl (by decide) rfl rfl (pa_cons (pe_op op_mulX (pv 3) (pv 6)) (pa_cons (pe_op op_mulX (pv 4) (pv 7)) pa_nil)) (by rfl))) pss_nil))))
        (pss_one (ps_ret (pe_tup (pa_cons (pv 3) (pa_cons (pv 4) pa_nil))))))), ?_⟩
    refine Do.go (X := ⟨K, dk, Δ⟩) (A := startA 8 _) ?_ .rfl' hS (rel_start hE)
    dsimp only [startA, cxOf]
    have hnat := okn_nat hok
    refine do_asg (ev_tup ?_)
    walk_at "ev"
    refine do_seq (do_forI ?_)
    refine evi_T ?_
    walk_at "ev"
    refine ⟨fun i A Γ1 => ∃ (x5 x6 x7 : Option AV), A = [some (dI (b : Int)), some (dI (p : Int)), some (.dat (intsT ns)), some (dI (abv b p (natsOf (ns.take i)) : Int)), some (dI (blw b p (natsOf (ns.take i)) : Int)), x5, x6, x7] ∧ Γ = Γ1,
      ⟨_, _, _, rfl, rfl⟩, fun _ _ _ _ => trivial, fun B i dd A1 Γ2 hB hdd hI => ?_, fun A1 Γ2 hI => ?_⟩
    · obtain ⟨x5, x6, x7, rfl, rfl⟩ := hI
      rw [List.getElem?_map] at hdd
      obtain ⟨n, hn, rfl⟩ := Option.map_eq_some_iff.mp hdd
      obtain ⟨hn0, hn60⟩ := hok.2 n (List.mem_of_getElem? hn)
      have hi : i < ns.length := (List.getElem?_eq_some_iff.mp hn).1
      have hok' : OkN (ns.take i) := ⟨by rw [List.length_take]; have := hok.1; omega, fun x hx => hok.2 x (List.mem_of_mem_take hx)⟩
      have eT : natsOf (ns.take (i + 1)) = natsOf (ns.take i) ++ [n.natAbs] := by unfold natsOf; rw [List.take_add_one, hn, List.map_append]; rfl
      have hna : n.natAbs < 2 ^ 200 := n60 hn60
      have hA : abv b p (natsOf (ns.take i)) < 2 ^ 8001 := by
        have h1 := abv_lt (b := b) (p := p) (okn_nat hok').2
        have h2 : (natsOf (ns.take i)).length ≤ 40 := by unfold natsOf; rw [List.length_map]; exact hok'.1
        exact Nat.lt_of_lt_of_le h1 (Nat.pow_le_pow_right (by decide) (by omega))
      have hB2 := blw_le (b := b) (p := p) (ns := natsOf (ns.take i))
      walk_at "go"
      refine do_asg (ev_call ?_)
      walk_at "ev"
      refine fun R hR => ⟨b, p, n, rfl, b1, b2, p1, p2, hn0, hn60, hR _ _ ?_⟩
      clear hR
      walk_at "go"
      obtain ⟨N, hN⟩ : ∃ N, N = b ^ vl p n.natAbs := ⟨_, rfl⟩
      have eH : hv b p n.natAbs = decide (N < n.natAbs) := by unfold EE.hv; rw [hN]
      rw [← hN]
      refine do_if ?_
      walk_at "ev"
      refine ⟨fun e => ?_, fun e => ?_⟩
      · have hlt : N < n.natAbs := by exact_mod_cast of_decide_eq_true e
        have m1 : CMulX ((abv b p (natsOf (ns.take i)) : Nat) : Int) ((n.natAbs : Nat) : Int) := mulx_ok (a := 8001) (b := 200) (by rw [Int.natAbs_natCast]; omega) (by rw [Int.natAbs_natCast]; omega) (by decide)
        have m2 : CMulX ((blw b p (natsOf (ns.take i)) : Nat) : Int) ((N : Nat) : Int) := mulx_ok (a := 8001) (b := 200) (by rw [Int.natAbs_natCast]; omega) (by rw [Int.natAbs_natCast]; omega) (by decide)
        walk_at "go"
        refine fin_nx ⟨_, _, _, by rw [eT, abv_snoc, blw_snoc, eH, decide_eq_true hlt, if_pos rfl, if_pos rfl, ← hN, Int.natCast_mul, Int.natCast_mul], rfl⟩
      · have hlt : ¬ N < n.natAbs := fun z => of_decide_eq_false e (by exact_mod_cast z)
        walk_at "go"
        refine fin_nx ⟨_, _, _, by rw [eT, abv_snoc, blw_snoc, eH, decide_eq_false hlt, if_neg (by decide), if_neg (by decide), Nat.mul_one, Nat.mul_one], rfl⟩
    · obtain ⟨x5, x6, x7, rfl, rfl⟩ := hI
      rw [List.length_map, List.take_length]
      walk_at "go"
      exact k

theorem ok_law_is_due {f : Addr} {fd : FuncData} (F : Fun K "_law_is_due" "_law_is_due" s_law_is_due f fd) (nb : NB mg bnames) (F_law_power : Fd P w K mg base "_law_power" 1 ["base", "times"] (sp_law_power K)) (F_law_primes : Fd P w K mg base "_law_primes" 1 ["number"] (sp_law_primes K)) (F_law_share : Fd P w K mg base "_law_share" 2 ["base", "prime", "numbers"] (sp_law_share K))    : FnOk P w K mg base CX0 3 f fd ["base", "figures", "numbers"] (sp_law_is_due K) := by
  refine F.ok sc_law_is_due (fun vs H Q E h => ?_) (fun cdv A outer s H vs Q E hr h => ?_)
  · obtain ⟨dk, Γ, Δ, as, hS, hE, b, f, ps, ns, rfl, _⟩ := h
    exact hE.len

  · obtain ⟨dk, Γ, Δ, as, hS, hE, b, f, ps, ns, rfl, hP, hb2, hb, hf, hN, k⟩ := h
    refine ⟨_, (pss_cons (ps_set (i := 3) sc_law_is_due.nd rfl (.inl rfl) (pe_fd F_law_power (hr.mono (by decide)) (by rfl) (pa_cons (pv 0) (pa_cons (pv 1) pa_nil))))
        (pss_cons (ps_for PassesOwn.never rfl (pi_list (pe_fd F_law_primes (hr.mono (by decide)) (by rfl) (pa_cons (pv 0) pa_nil))) (pg_name (i := 4) sc_law_is_due.nd rfl (.inl rfl))
        (pss_cons (ps_asg (pe_fd F_law_share (hr.mono (by decide)) (by rfl) (pa_cons (pv 0) (pa_cons (pv 4) (pa_cons (pv 2) pa_nil)))) (pg_tup (by rfl) (pgs_cons (pg_name (i := 5) sc_law_is_due.nd rfl (.inl rfl)) (pgs_cons (pg_name (i := 6) sc_law_is_due.nd rfl (.inl rfl)) pgs_nil))))
        (pss_one (ps_if (pt_cmpR op_ge (pv 5) (pe_op op_mulX (pv 3) (pv 6)) (nomark _)) (pss_one (ps_ret pe_bl)) pss_nil))))
        (pss_one (ps_ret pe_bl)))), ?_⟩
    refine Do.go (X := ⟨K, dk, Δ⟩) (A := startA 7 _) ?_ .rfl' hS (rel_start hE)
    dsimp only [startA, cxOf]
    walk_at "go"
    refine ev_call ?_
    walk_at "ev"
    refine fun R hR => ⟨b, f, rfl, by omega, by omega, by omega, hR _ _ ?_⟩
    clear hR
    walk_at "go"
    refine do_seq (do_forI (evi_L ?_))
    refine ev_call ?_
    walk_at "ev"
    refine fun R hR => ⟨b, rfl, hb2, hb, fun qs hq => hR _ _ ?_⟩
    obtain rfl := hq.uniq hP.pl
    clear hR
    walk_at "ev"
    refine ⟨fun i A Γ1 => ∃ (c e g : Option AV), A = [some (dI (b : Int)), some (dI (f : Int)), some (.dat (intsT ns)), some (dI ((b : Int) ^ f)), c, e, g] ∧ Γ = Γ1 ∧ ∀ p ∈ qs.take i, Below b f ns p,
      ⟨none, none, none, rfl, rfl, fun p hp => nomatch hp⟩, fun _ _ _ _ => trivial, fun B i dd A1 Γ2 hB hdd hI => ?_, fun A1 Γ2 hI => ?_⟩
    · obtain ⟨c1, c2, c3, rfl, rfl, hI⟩ := hI
      rw [List.getElem?_map] at hdd
      obtain ⟨p, hp, rfl⟩ := Option.map_eq_some_iff.mp hdd
      have hpm := List.mem_of_getElem? hp
      obtain ⟨hpp, hpd, hps, hple⟩ := plain_mem hP (by omega) hpm
      have hnat := okn_nat hN
      have hA : abv b p (natsOf ns) < 2 ^ 8001 := by
        have h1 := abv_lt (b := b) (p := p) hnat.2
        have h2 : (natsOf ns).length ≤ 40 := by unfold natsOf; rw [List.length_map]; exact hN.1
        exact Nat.lt_of_lt_of_le h1 (Nat.pow_le_pow_right (by decide) (by omega))
      have hB2 := blw_le (b := b) (p := p) (ns := natsOf ns)
      have he : ((b : Int) ^ f).natAbs < 2 ^ 700 := by
        rw [Int.natAbs_pow]
        exact Nat.lt_of_le_of_lt (Nat.pow_le_pow_left (show (b : Int).natAbs ≤ 2 ^ 10 by omega) f) (by rw [← Nat.pow_mul]; exact Nat.pow_lt_pow_right (by decide) (by omega))
      have hm : CMulX ((b : Int) ^ f) ((blw b p (natsOf ns) : Nat) : Int) := mulx_ok (a := 700) (b := 8001) he (by rw [Int.natAbs_natCast]; omega) (by decide)
      have eB : Below b f ns p ↔ ¬ (b : Int) ^ f * ((blw b p (natsOf ns) : Nat) : Int) ≤ ((abv b p (natsOf ns) : Nat) : Int) := by
        unfold Below
        rw [show (b : Int) ^ f * ((blw b p (natsOf ns) : Nat) : Int) = ((blw b p (natsOf ns) * b ^ f : Nat) : Int) by rw [Int.natCast_mul, Int.natCast_pow, Int.mul_comm]]
        omega
      walk_at "go"
      refine do_asg (ev_call ?_)
      walk_at "ev"
      refine fun R hR => ⟨b, p, ns, rfl, hb2, hb, hpp.1, by omega, hN, hR _ _ ?_⟩
      clear hR
      dsimp only [wholeD]
      walk_at "go"
      refine do_if (evt_test ?_)
      walk_at "ev"
      refine ⟨fun e => ?_, fun e => ?_⟩
      · have hnb : ¬ Below b f ns p := fun z => eB.mp z (by simpa using e)
        walk_at "go"
        exact fun v H' Δ' sb hS' ra => k false ⟨fun e => (nomatch e), fun h => absurd (h p hpm) hnb⟩ v H' Δ' (hB.trans sb) hS' ra
      · have hbl : Below b f ns p := eB.mpr (by simpa using e)
        walk_at "go"
        refine fin_nx ⟨_, _, _, rfl, rfl, fun q hq => ?_⟩
        rw [List.take_add_one, hp] at hq
        rcases List.mem_append.mp hq with hq | hq
        · exact hI q hq
        · rw [List.mem_singleton.mp hq]
          exact hbl
    · obtain ⟨c1, c2, c3, rfl, rfl, hI⟩ := hI
      rw [List.length_map, List.take_length] at hI
      walk_at "go"
      exact k true ⟨fun _ => hI, fun _ => rfl⟩

theorem ok_law_coprime {f : Addr} {fd : FuncData} (F : Fun K "_law_coprime" "_law_coprime" s_law_coprime f fd) (nb : NB mg bnames) (F_law_primes : Fd P w K mg base "_law_primes" 1 ["number"] (sp_law_primes K))    : FnOk P w K mg base CX0 2 f fd ["base", "number"] (sp_law_coprime K) := by
  refine F.ok sc_law_coprime (fun vs H Q E h => ?_) (fun cdv A outer s H vs Q E hr h => ?_)
  · obtain ⟨dk, Γ, Δ, as, hS, hE, b, n, rfl, _⟩ := h
    exact hE.len

  · obtain ⟨dk, Γ, Δ, as, hS, hE, b, n, rfl, b1, b2, hn, k⟩ := h
    refine ⟨_, (pss_cons (ps_set (i := 2) sc_law_coprime.nd rfl (.inr rfl) (pe_callB (call_max2 rfl) (by rfl) (nb "max" rfl) (by decide +kernel) (pa_cons pe_int (pa_cons (pv 1) pa_nil))))
        (pss_cons (ps_while PassesOwn.never (pt_cmpR (op_neD hr.units) (pe_lc (own := [("prime", 3)]) (by rfl) sc_law_coprime.nd (pi_list (pe_fd F_law_primes (hr.mono (by decide)) (by rfl) (pa_cons (pv 0) pa_nil))) (blkOk_by (own := [("prime", 3)]) (N := ["base", "number", "found", "prime"]) (sc := defScope s_law_coprime) (by decide +kernel)) (fun _ _ _ _ _ => by exact (pg_name (i := 3) sc_law_coprime.nd rfl (.inl rfl))) (fun _ _ _ _ _ => by exact (pts_one (pt_cmpR op_eq (pe_op op_mod (pe_callTy call_int1 (by rfl) (nb "int" rfl) (by decide +kernel) (pa_cons (pv 2) pa_nil)) (pv 3)) pe_int (nomark _)))) (fun _ _ _ _ _ => by exact (pv 3))) (pe_lst pa_nil) (nomark _)) (pss_one (ps_set (i := 2) sc_law_coprime.nd rfl (.inr rfl) (pe_op op_add (pv 2) pe_int))))
        (pss_one (ps_ret (pv 2))))), ?_⟩
    refine Do.go (X := ⟨K, dk, Δ⟩) (A := startA 4 _) ?_ .rfl' hS (rel_start hE)
    dsimp only [startA, cxOf]
    obtain ⟨e190, h190⟩ : ∃ e : Int, e = 10 ^ 190 := ⟨_, rfl⟩
    walk_at "go"
    obtain ⟨m, hm⟩ : ∃ m : Nat, (m : Int) = max 1 n := ⟨(max 1 n).toNat, by omega⟩
    rw [show (if (1 : Int) < n then n else 1) = (m : Int) by rw [hm]; split <;> omega]
    refine do_seq (do_while (fun w A Γ1 => ∃ x : Nat, A = [some (dI (b : Int)), some (dI n), some (dI (x : Int)), none] ∧ Γ = Γ1 ∧ w = (m / b + 1) * b + 1 - x ∧ m ≤ x ∧ x ≤ (m / b + 1) * b + 1) _ ⟨m, rfl, rfl, rfl, Nat.le_refl _, by have := Nat.lt_div_mul_add (a := m) (b := b) (by omega); have := Nat.add_mul (m / b) 1 b; omega⟩ fun w A1 Γ1 hI => ?_)
    obtain ⟨x, rfl, rfl, rfl, hmx, hx⟩ := hI
    walk_at "ev"
    refine ev_lcF (.name (List.mem_cons_self ..)) ?_
    refine evi_L ?_
    refine ev_call ?_
    walk_at "ev"
    refine fun R hR => ⟨b, rfl, b1, b2, fun ps hps => hR _ _ ?_⟩
    clear hR
    refine ⟨_, rfl, Nat, ps, fun p : Nat => PyData.int (p : Int), fun p => if (x : Int) % (p : Int) = 0 then some (PyData.int (p : Int)) else none, rfl, ?_, ?_, ?_⟩
    · have h1 := len_le fun p h => (hps.2.1 p h).1
      have h2 := Nat.lt_two_pow_self (n := ps.length)
      have h3 := Nat.le_of_dvd (by omega) hps.2.2.2
      omega
    · intro c B i p acc hB hx2
      have hpr := hps.2.1 p (List.mem_of_getElem? hx2)
      have h0 : 0 < p := hpr.pos
      walk_at "ev"
      refine ⟨rfl, fun e => ?_, fun e => ?_⟩
      · walk_at "ev"
        refine ⟨rfl, _, rfl, ?_⟩
        rw [if_pos (of_decide_eq_true e)]
      · rw [if_neg (of_decide_eq_false e)]
    · have hLay : Lay 60 (ps.filterMap fun p : Nat => if (x : Int) % (p : Int) = 0 then some (PyData.int (p : Int)) else none) := lay_of fun d hd => by
        obtain ⟨p, _, h⟩ := List.mem_filterMap.mp hd
        split at h
        · cases h
          exact ⟨by simp only [PyData.canLay0], by simp only [PyData.depth]; exact Nat.zero_le _⟩
        · cases h
      walk_at "ev"
      · exact hLay
      refine ⟨fun e => ?_, fun e => ?_⟩
      · -- some prime of b is in x
        have hne : ∃ p ∈ ps, p ∣ x := by
          refine Classical.byContradiction fun z => ?_
          have e0 : (ps.filterMap fun p : Nat => if (x : Int) % (p : Int) = 0 then some (PyData.int (p : Int)) else none) = [] := by
            rw [List.filterMap_eq_nil_iff]
            intro p hp
            rw [if_neg fun h => z ⟨p, hp, Int.natCast_dvd_natCast.mp (Int.dvd_of_emod_eq_zero h)⟩]
          rw [e0] at e
          cases e
        obtain ⟨p, hp, hd⟩ := hne
        have hpp := hps.2.1 p hp
        have hpb : p ∣ b := (hps.2.2.1 p hpp).mpr hp
        have hlt : x ≠ (m / b + 1) * b + 1 := fun z => by
          have h1 : p ∣ (m / b + 1) * b := Nat.dvd_trans hpb (Nat.dvd_mul_left ..)
          have h2 : p ∣ 1 := (Nat.dvd_add_right h1).mp (by rw [← z]; exact hd)
          have := Nat.le_of_dvd (by decide) h2
          have := hpp.1
          omega
        walk_at "go"
        exact fin_nx ⟨(m / b + 1) * b + 1 - (x + 1), by omega, x + 1, rfl, rfl, rfl, by omega, by omega⟩
      · refine fin_do ?_
        walk_at "go"
        have h1 := Nat.div_mul_le_self m b
        have h2 := Nat.add_mul (m / b) 1 b
        exact k _ (by omega) (by omega) (by omega)

theorem ok_law_numbers {f : Addr} {fd : FuncData} (F : Fun K "_law_numbers" "_law_numbers" s_law_numbers f fd) (nb : NB mg bnames) (F_law_coprime : Fd P w K mg base "_law_coprime" 2 ["base", "number"] (sp_law_coprime K)) (F_law_draw : Fd P w K mg base "_law_draw" 1 ["deck", "many"] (sp_law_draw K)) (F_law_factor : Fd P w K mg base "_law_factor" 3 ["deck", "base"] (sp_law_factor K)) (F_law_great : Fd P w K mg base "_law_great" 2 ["deck", "many"] (sp_law_great K)) (F_law_pick : Fd P w K mg base "_law_pick" 2 ["deck", "things"] (sp_law_pick K)) (F_law_primes : Fd P w K mg base "_law_primes" 1 ["number"] (sp_law_primes K))    : FnOk P w K mg base CX0 4 f fd ["deck", "base", "top"] (sp_law_numbers K) := by
  refine F.ok sc_law_numbers (fun vs H Q E h => ?_) (fun cdv A outer s H vs Q E hr h => ?_)
  · obtain ⟨dk, Γ, Δ, as, hS, hE, d, l, b, ps, t, rfl, _⟩ := h
    exact hE.len

  · obtain ⟨dk, Γ, Δ, as, hS, hE, d, l, b, ps, t, rfl, hd, hp, b1, b2, t1, t2, k⟩ := h
    refine ⟨_, (pss_cons (ps_set (i := 3) sc_law_numbers.nd rfl (.inl rfl) (pe_fd F_law_pick (hr.mono (by decide)) (by rfl) (pa_cons (pv 0) (pa_cons (pe_fd F_law_primes (hr.mono (by decide)) (by rfl) (pa_cons (pv 1) pa_nil)) pa_nil))))
        (pss_cons (ps_par (by rfl) (i := 4) (j := 5) sc_law_numbers.nd rfl rfl (by decide) rfl rfl (pa_cons (pe_op op_add (pv 2) (pe_fd F_law_pick (hr.mono (by decide)) (by rfl) (pa_cons (pv 0) (pa_cons (pe_lst (pa_cons (pe_un un_neg pe_int) (pa_cons (pe_un un_neg pe_int) (pa_cons pe_int (pa_cons pe_int (pa_cons (pe_un un_neg (pv 1)) (pa_cons (pv 1) pa_nil))))))) pa_nil)))) (pa_cons (pe_lst pa_nil) pa_nil)) (by rfl))
        (pss_cons (ps_for PassesOwn.never rfl (pi_range1 (by rfl) (nb "range" rfl) (pa_cons (pe_op op_add pe_int (pe_fd F_law_draw (hr.mono (by decide)) (by rfl) (pa_cons (pv 0) (pa_cons pe_int pa_nil)))) pa_nil)) (pg_name (i := 6) sc_law_numbers.nd rfl (.inl rfl))
        (pss_cons (ps_set (i := 7) sc_law_numbers.nd rfl (.inl rfl) (pv 4))
        (pss_cons (ps_for PassesOwn.never rfl (pi_list (pv 5)) (pg_name (i := 8) sc_law_numbers.nd rfl (.inl rfl))
        (pss_one (ps_set (i := 7) sc_law_numbers.nd rfl (.inl rfl) (pe_op op_fdivW (pv 7) (pv 8)))))
        (pss_one (ps_if (pt_cmpR op_gt (pv 7) pe_int (nomark _)) (pss_one (ps_expr (pe_bm PySem.F.plainAttrs_list PySem.F.slot_list_append PySem.F.type_list_append mt_append (pv 5) (pa_cons (pe_fd F_law_coprime (hr.mono (by decide)) (by rfl) (pa_cons (pv 1) (pa_cons (pe_op op_add pe_int (pe_fd F_law_great (hr.mono (by decide)) (by rfl) (pa_cons (pv 0) (pa_cons (pe_callB (call_min2 rfl) (by rfl) (nb "min" rfl) (by decide +kernel) (pa_cons (pv 7) (pa_cons (pe_op op_powW pe_int pe_int) pa_nil))) pa_nil)))) pa_nil))) pa_nil)))) pss_nil)))))
        (pss_cons (ps_set (i := 7) sc_law_numbers.nd rfl (.inl rfl) (pv 4))
        (pss_cons (ps_for PassesOwn.never rfl (pi_list (pv 5)) (pg_name (i := 8) sc_law_numbers.nd rfl (.inl rfl))
        (pss_one (ps_set (i := 7) sc_law_numbers.nd rfl (.inl rfl) (pe_op op_fdivW (pv 7) (pv 8)))))
        (pss_cons (ps_expr (pe_bm PySem.F.plainAttrs_list PySem.F.slot_list_append PySem.F.type_list_append mt_append (pv 5) (pa_cons (pe_callB (call_max2 rfl) (by rfl) (nb "max" rfl) (by decide +kernel) (pa_cons pe_int (pa_cons (pe_op op_add (pv 7) (pe_fd F_law_draw (hr.mono (by decide)) (by rfl) (pa_cons (pv 0) (pa_cons pe_int pa_nil)))) pa_nil))) pa_nil)))
        (Evl.pss_cut (ps_if (pt_cmpR op_eq (pe_fd F_law_draw (hr.mono (by decide)) (by rfl) (pa_cons (pv 0) (pa_cons pe_int pa_nil))) pe_int (nomark _)) (pss_one (ps_set (i := 5) sc_law_numbers.nd rfl (.inl rfl) (pe_lst (pa_cons (pe_callB (call_max2 rfl) (by rfl) (nb "max" rfl) (by decide +kernel) (pa_cons pe_int (pa_cons (pv 4) pa_nil))) pa_nil)))) pss_nil)
        (pss_cons (ps_for PassesOwn.never rfl (pi_range1 (by rfl) (nb "range" rfl) (pa_cons (pe_fd F_law_pick (hr.mono (by decide)) (by rfl) (pa_cons (pv 0) (pa_cons (pe_lst (pa_cons pe_int (pa_cons pe_int (pa_cons pe_int (pa_cons pe_int pa_nil))))) pa_nil))) pa_nil)) (pg_name (i := 6) sc_law_numbers.nd rfl (.inl rfl))
        (pss_one (ps_expr (pe_bm PySem.F.plainAttrs_list PySem.F.slot_list_append PySem.F.type_list_append mt_append (pv 5) (pa_cons (pe_fd F_law_pick (hr.mono (by decide)) (by rfl) (pa_cons (pv 0) (pa_cons (pe_lst (pa_cons pe_int (pa_cons (pe_un un_neg pe_int) (pa_cons (pv 1) (pa_cons (pv 3) (pa_cons (pe_op op_mulX (pv 3) (pv 3)) (pa_cons (pe_op op_fdivW (pv 1) (pv 3)) (pa_cons (pe_fd F_law_factor (hr.mono (by decide)) (by rfl) (pa_cons (pv 0) (pa_cons (pv 1) pa_nil))) pa_nil)))))))) pa_nil))) pa_nil)))))
        (Evl.pss_cut (ps_if (pt_cmpR op_eq (pe_fd F_law_draw (hr.mono (by decide)) (by rfl) (pa_cons (pv 0) (pa_cons pe_int pa_nil))) pe_int (nomark _)) (pss_one (ps_set (i := 5) sc_law_numbers.nd rfl (.inl rfl) (pe_op op_cat (pv 5) (pe_lc (own := [("turn", 6)]) (by rfl) sc_law_numbers.nd (pi_range1 (by rfl) (nb "range" rfl) (pa_cons (pe_op op_sub pe_int (pe_callB call_len_seq (by rfl) (nb "len" rfl) PySem.boot_len (pa_cons (pv 5) pa_nil))) pa_nil)) (blkOk_by (own := [("turn", 6)]) (N := ["deck", "base", "top", "prime", "goal", "found", "turn", "rest", "own"]) (sc := defScope s_law_numbers) (by decide +kernel)) (fun _ _ _ _ _ => by exact (pg_name (i := 6) sc_law_numbers.nd rfl (.inl rfl))) (fun _ _ _ _ _ => by exact pts_nil) (fun _ _ _ _ _ => by exact (pe_fd F_law_pick (hr.mono (by decide)) (by rfl) (pa_cons (pv 0) (pa_cons (pe_lst (pa_cons pe_int (pa_cons (pe_un un_neg pe_int) (pa_cons (pv 1) (pa_cons (pe_un un_neg (pv 1)) pa_nil))))) pa_nil)))))))) pss_nil)
        (pss_cons (ps_setLc (i := 5) (own := [("own", 8)]) (by rfl) sc_law_numbers.nd rfl rfl (sw_true rfl rfl rfl (by decide +kernel)) (pi_list (pv 5)) (blkOk_by (own := [("own", 8)]) (N := ["deck", "base", "top", "prime", "goal", "found", "turn", "rest", "own"]) (sc := defScope s_law_numbers) (by decide +kernel)) (fun _ _ _ _ _ => by exact (pg_name (i := 8) sc_law_numbers.nd rfl (.inl rfl))) (fun _ _ _ _ _ => by exact (pts_one (pt_cmpR op_le (pv 8) (pe_op op_powW pe_int pe_int) (nomark _)))) (fun _ _ _ _ _ => by exact (pv 8)))
        (pss_one (ps_ret (pe_callTy call_tuple_of (by rfl) (nb "tuple" rfl) (by decide +kernel) (pa_cons (pe_lc (own := [("own", 8)]) (by rfl) sc_law_numbers.nd (pi_list (pv 5)) (blkOk_by (own := [("own", 8)]) (N := ["deck", "base", "top", "prime", "goal", "found", "turn", "rest", "own"]) (sc := defScope s_law_numbers) (by decide +kernel)) (fun _ _ _ _ _ => by exact (pg_name (i := 8) sc_law_numbers.nd rfl (.inl rfl))) (fun _ _ _ _ _ => by exact pts_nil) (fun _ _ _ _ _ => by exact (pe_ifExp (pt_cmpR op_eq (pe_fd F_law_draw (hr.mono (by decide)) (by rfl) (pa_cons (pv 0) (pa_cons pe_int pa_nil))) pe_int (nomark _)) (pe_un un_neg (pv 8)) (pv 8)))) pa_nil)))))))))))))), ?_⟩
    refine Do.go (X := ⟨K, dk, Δ⟩) (A := startA 9 _) ?_ .rfl' hS (rel_start hE)
    dsimp only [startA, cxOf]
    obtain ⟨e190, h190⟩ : ∃ e : Int, e = 10 ^ 190 := ⟨_, rfl⟩
    have h180 : (10 : Int) ^ 180 + 10 ^ 6 ≤ e190 := by rw [h190]; decide +kernel
    have h200 : e190 + 10 ^ 6 ≤ 10 ^ 200 := by rw [h190]; decide +kernel
    have q40 : (10 : Int) ^ Int.toNat 40 = 10 ^ 40 := rfl
    have q60 : (10 : Int) ^ Int.toNat 60 = 10 ^ 60 := rfl
    walk_at "go"
    refine ev_pick ?_
    walk_at "ev"
    refine ev_call ?_
    walk_at "ev"
    refine fun R hR => ⟨b, rfl, b1, b2, fun qs hq => hR _ _ ?_⟩
    obtain rfl := hq.uniq hp.pl
    clear hR
    walk_at "ev"
    have hqne : qs ≠ [] := fun z => by
      have := hp.2.2
      rw [z] at this
      have : b = 1 := this
      omega
    have hql := plain_len hp b2
    refine ⟨_, l, _, rfl, hd, fun z => hqne (List.map_eq_nil_iff.mp z), by rw [List.length_map]; omega, fun x hx => ?_⟩
    obtain ⟨q, hq', rfl⟩ := List.mem_map.mp hx
    clear hx
    obtain ⟨hqp, hqb, _, hqle⟩ := plain_mem hp (by omega) hq'
    have hq2 := hqp.1
    walk_at "go"
    refine ev_pick ?_
    walk_at "ev"
    refine ⟨_, l, _, rfl, hd, by simp, (by show 6 ≤ 10000; decide), fun x hx => ?_⟩
    obtain ⟨e, rfl, he1, he2⟩ : ∃ e : Int, x = .int e ∧ -1000 ≤ e ∧ e ≤ 1000 := by
      simp only [List.mem_cons, List.not_mem_nil, or_false] at hx
      rcases hx with rfl | rfl | rfl | rfl | rfl | rfl <;> exact ⟨_, rfl, by omega, by omega⟩
    clear hx
    walk_at "go"
    rename_i c
    refine do_seq (do_forI ?_)
    refine evi_R ?_
    walk_at "ev"
    refine ev_draw ?_
    walk_at "ev"
    refine ⟨_, l, _, rfl, hd, by decide, by decide +kernel, fun r0 r01 r02 => ?_⟩
    walk_at "ev"
    refine ⟨by omega, by omega, fun i A Γ1 => ∃ (ns : List Int) (x y z : Option AV), A = [some (.ref d), some (dI (b : Int)), some (dI t), some (dI (q : Int)), some (dI (t + e)), some (.ref c), x, y, z] ∧ Γ1 = (c, ns.map PyData.int) :: Γ ∧ ns.length ≤ i ∧ ∀ n ∈ ns, 1 ≤ n ∧ n ≤ e190,
      ⟨[], _, _, _, rfl, rfl, Nat.le_refl _, fun n hn => nomatch hn⟩, fun _ _ _ _ => trivial, fun B i dd A1 Γ2 hB hdd hI => ?_, fun A1 Γ2 hI => ?_⟩
    · obtain ⟨ns, x, y, z, rfl, rfl, hl, hns⟩ := hI
      obtain ⟨hi, rfl⟩ := range_is hdd
      have hi : i < 7 := by omega
      walk_at "go"
      refine do_seq (do_forI (evi_M ?_))
      walk_at "ev"
      refine ⟨c, _, rfl, .here, fun j A Γ1 => ∃ (rest : Int) (z : Option AV), A = [some (.ref d), some (dI (b : Int)), some (dI t), some (dI (q : Int)), some (dI (t + e)), some (.ref c), some (dI (0 + (i : Nat))), some (dI rest), z] ∧ Γ1 = (c, ns.map PyData.int) :: Γ,
        ⟨_, _, rfl, rfl⟩, fun j A Γ h => by obtain ⟨_, _, _, rfl⟩ := h; exact .here, fun B2 j dd A2 Γ3 hB2 hdd hI => ?_, fun A2 Γ3 hI => ?_⟩
      · obtain ⟨rest, z, rfl, rfl⟩ := hI
        rw [List.getElem?_map] at hdd
        obtain ⟨n, hn, rfl⟩ := Option.map_eq_some_iff.mp hdd
        obtain ⟨n1, n2⟩ := hns n (List.mem_of_getElem? hn)
        have hdv : CDivW rest n := divw_dec (by omega) (by omega)
        walk_at "go"
        exact fin_nx ⟨_, _, rfl, rfl⟩
      · obtain ⟨rest, z, rfl, rfl⟩ := hI
        refine fin_do (do_if (evt_test ?_))
        walk_at "ev"
        refine ⟨fun e1 => ?_, fun e1 => ?_⟩
        · have e1 : 1 < rest := of_decide_eq_true e1
          walk_at "go"
          refine ev_call ?_
          walk_at "ev"
          refine ev_call ?_
          walk_at "ev"
          refine fun R hR => ⟨d, l, _, rfl, hd, by have : (1 : Int) ≤ 10 ^ 40 := by decide
                                                   split <;> omega, fun r r0 r1 => hR _ _ ?_⟩
          clear hR
          have r40 : r < 10 ^ 40 := by
            refine Int.lt_of_lt_of_le r1 ?_
            split <;> omega
          have e40 : (10 : Int) ^ 40 + 10 ^ 6 ≤ e190 := by rw [h190]; decide +kernel
          walk_at "ev"
          refine fun R hR => ⟨b, 1 + r, rfl, b1, b2, by omega, fun r2 r21 r22 r23 => hR _ _ ?_⟩
          clear hR
          walk_at "go"
          · rw [List.length_map]; omega
          refine fin_nx ⟨ns ++ [r2], _, _, _, rfl, by rw [List.map_append]; rfl, by rw [List.length_append]; show _ + 1 ≤ _; omega, fun n hn => ?_⟩
          rcases List.mem_append.mp hn with hn | hn
          · exact hns n hn
          · rw [List.mem_singleton.mp hn]
            exact ⟨r21, by omega⟩
        · walk_at "go"
          exact fin_nx ⟨ns, _, _, _, rfl, rfl, by omega, hns⟩
    · obtain ⟨ns, x, y, z, rfl, rfl, hl, hns⟩ := hI
      have hl : ns.length ≤ 6 := by rw [range_len] at hl; omega
      walk_at "go"
      refine do_seq (do_forI (evi_M ?_))
      walk_at "ev"
      refine ⟨c, _, rfl, .here, fun j A Γ1 => ∃ (rest : Int) (z : Option AV), A = [some (.ref d), some (dI (b : Int)), some (dI t), some (dI (q : Int)), some (dI (t + e)), some (.ref c), x, some (dI rest), z] ∧ Γ1 = (c, ns.map PyData.int) :: Γ,
        ⟨_, _, rfl, rfl⟩, fun j A Γ h => by obtain ⟨_, _, _, rfl⟩ := h; exact .here, fun B2 j dd A2 Γ3 hB2 hdd hI => ?_, fun A2 Γ3 hI => ?_⟩
      · obtain ⟨rest, z, rfl, rfl⟩ := hI
        rw [List.getElem?_map] at hdd
        obtain ⟨n, hn, rfl⟩ := Option.map_eq_some_iff.mp hdd
        obtain ⟨n1, n2⟩ := hns n (List.mem_of_getElem? hn)
        have hdv : CDivW rest n := divw_dec (by omega) (by omega)
        walk_at "go"
        exact fin_nx ⟨_, _, rfl, rfl⟩
      · obtain ⟨rest, z, rfl, rfl⟩ := hI
        walk_at "go"
        refine ev_draw ?_
        walk_at "ev"
        refine ⟨_, l, _, rfl, hd, by decide, by decide +kernel, fun r1 r11 r12 => ?_⟩
        walk_at "go"
        · rw [List.length_map]; omega
        refine do_cut (fun A Γ1 => ∃ (c : Addr) (ns : List Int) (L : G), A = [some (.ref d), some (dI (b : Int)), some (dI t), some (dI (q : Int)), some (dI (t + e)), some (.ref c), x, some (dI rest), z] ∧ Γ1 = (c, ns.map PyData.int) :: (L ++ Γ) ∧ ns.length ≤ 7 ∧ ∀ n ∈ ns, 1 ≤ n) ?_ ?_
        · refine do_if (evt_test ?_)
          walk_at "ev"
          refine ev_draw ?_
          walk_at "ev"
          refine ⟨_, l, _, rfl, hd, by decide, by decide +kernel, fun r2 r21 r22 => ?_⟩
          walk_at "ev"
          refine ⟨fun e1 => ?_, fun e1 => ?_⟩
          · refine do_setL (ev_lstM ?_)
            walk_at "go"
            refine fun c2 => fin_nx ⟨c2, [if t + e > 1 then t + e else 1], [_], rfl, rfl, (by show 1 ≤ 7; decide), fun n hn => ?_⟩
            rw [List.mem_singleton.mp hn]
            split <;> omega
          · walk_at "go"
            refine fin_nx ⟨c, ns ++ [if rest + r1 > 1 then rest + r1 else 1], [], rfl, by rw [List.map_append]; rfl, by rw [List.length_append]; show _ + 1 ≤ _; omega, fun n hn => ?_⟩
            rcases List.mem_append.mp hn with hn | hn
            · exact (hns n hn).1
            · rw [List.mem_singleton.mp hn]
              split <;> omega
        rintro _ _ ⟨c, ns, L, rfl, rfl, hl, hns⟩
        refine do_seq (do_forI ?_)
        refine evi_R ?_
        walk_at "ev"
        refine ev_pick ?_
        walk_at "ev"
        refine ⟨_, l, _, rfl, hd, by simp, (by show 4 ≤ 10000; decide), fun x hx => ?_⟩
        obtain ⟨m, rfl, hm⟩ : ∃ m : Nat, x = .int (m : Int) ∧ m ≤ 5 := by
          simp only [List.mem_cons, List.not_mem_nil, or_false] at hx
          rcases hx with rfl | rfl | rfl | rfl
          · exact ⟨0, rfl, by decide⟩
          · exact ⟨1, rfl, by decide⟩
          · exact ⟨2, rfl, by decide⟩
          · exact ⟨5, rfl, by decide⟩
        clear hx
        walk_at "ev"
        refine ⟨by omega, by omega, fun i A Γ1 => ∃ (ns : List Int) (x : Option AV), A = [some (.ref d), some (dI (b : Int)), some (dI t), some (dI (q : Int)), some (dI (t + e)), some (.ref c), x, some (dI rest), z] ∧ Γ1 = (c, ns.map PyData.int) :: (L ++ Γ) ∧ ns.length ≤ 7 + i ∧ ∀ n ∈ ns, n ≠ 0 ∧ -1000 ≤ n,
          ⟨ns, _, rfl, rfl, hl, fun n hn => by have := hns n hn; omega⟩, fun _ _ _ _ => trivial, fun B2 j dd A1 Γ2 hB2 hdd hI => ?_, fun A1 Γ2 hI => ?_⟩
        · obtain ⟨ns, x, rfl, rfl, hl, hns⟩ := hI
          obtain ⟨hi, rfl⟩ := range_is hdd
          have hdq : CDivW (b : Int) (q : Int) := divw_dec (by omega) (by omega)
          have hbq : 1 ≤ (b : Int) / (q : Int) := by
            have : 1 ≤ b / q := Nat.div_pos hqle (by omega)
            exact_mod_cast this
          have hqq0 : (q : Int) * 2 ≤ (q : Int) * (q : Int) := Int.mul_le_mul_of_nonneg_left (by omega) (by omega)
          have hqq : 4 ≤ (q : Int) * (q : Int) := by omega
          have hi : j < m := by omega
          walk_at "go"
          refine ev_pick ?_
          walk_at "ev"
          refine ev_call ?_
          walk_at "ev"
          refine fun R hR => ⟨d, l, b, qs, rfl, hd, hp, b1, b2, fun r3 r31 r32 => hR _ _ ?_⟩
          walk_at "ev"
          refine ⟨_, l, _, rfl, hd, by simp, (by show 7 ≤ 10000; decide), fun x hx => ?_⟩
          obtain ⟨v, rfl, v1, v2⟩ : ∃ v : Int, x = .int v ∧ v ≠ 0 ∧ -1000 ≤ v := by
            simp only [List.mem_cons, List.not_mem_nil, or_false] at hx
            rcases hx with rfl | rfl | rfl | rfl | rfl | rfl | rfl <;> exact ⟨_, rfl, by omega, by omega⟩
          clear hx
          walk_at "go"
          · rw [List.length_map]; omega
          refine fin_nx ⟨ns ++ [v], _, rfl, by rw [List.map_append]; rfl, by rw [List.length_append]; show _ + 1 ≤ _; omega, fun n hn => ?_⟩
          rcases List.mem_append.mp hn with hn | hn
          · exact hns n hn
          · rw [List.mem_singleton.mp hn]
            exact ⟨v1, v2⟩
        · obtain ⟨ns, x, rfl, rfl, hl, hns⟩ := hI
          have hl : ns.length ≤ 12 := by rw [range_len] at hl; omega
          refine do_cut (fun A Γ1 => ∃ (ns : List Int) (L : G), A = [some (.ref d), some (dI (b : Int)), some (dI t), some (dI (q : Int)), some (dI (t + e)), some (.dat (.list (ns.map PyData.int))), x, some (dI rest), z] ∧ Γ1 = L ++ Γ ∧ ns.length ≤ 40 ∧ ∀ n ∈ ns, n ≠ 0 ∧ -1000 ≤ n) ?_ ?_
          · refine do_if (evt_test ?_)
            walk_at "ev"
            refine ev_draw ?_
            walk_at "ev"
            refine ⟨_, l, _, rfl, hd, by decide, by decide +kernel, fun r2 r21 r22 => ?_⟩
            walk_at "ev"
            refine ⟨fun e1 => ?_, fun e1 => ?_⟩
            · walk_at "go"
              refine ev_lcM (.name (by decide)) (evi_R ?_)
              walk_at "ev"
              refine ⟨by rw [List.length_map]; omega, by rw [List.length_map]; omega, fun j acc => ∃ os : List Int, acc = os.map PyData.int ∧ os.length = j ∧ ∀ n ∈ os, n ≠ 0 ∧ -1000 ≤ n, by rw [range_len, List.length_map]; omega, ⟨[], rfl, rfl, fun n hn => nomatch hn⟩, fun p B2 j dd acc hB2 hdd hI hjl => ?_, fun p acc hI hjl => ?_⟩
              · obtain ⟨os, rfl, hol, hos⟩ := hI
                walk_at "ev"
                unfold Turn1
                refine evt_yes ?_
                refine ⟨rfl, fun _ => ?_, fun e => (nomatch e)⟩
                walk_at "ev"
                refine ev_pick ?_
                walk_at "ev"
                refine ⟨_, l, _, rfl, hd, by simp, (by show 4 ≤ 10000; decide), fun x hx => ?_⟩
                obtain ⟨v, rfl, v1, v2⟩ : ∃ v : Int, x = .int v ∧ v ≠ 0 ∧ -1000 ≤ v := by
                  simp only [List.mem_cons, List.not_mem_nil, or_false] at hx
                  rcases hx with rfl | rfl | rfl | rfl <;> exact ⟨_, rfl, by omega, by omega⟩
                refine ⟨rfl, _, rfl, os ++ [v], by rw [List.map_append]; rfl, by rw [List.length_append, hol]; rfl, fun n hn => ?_⟩
                rcases List.mem_append.mp hn with hn | hn
                · exact hos n hn
                · rw [List.mem_singleton.mp hn]
                  exact ⟨v1, v2⟩
              obtain ⟨os, rfl, hol, hos⟩ := hI
              rw [range_len, List.length_map] at hol
              refine op_catDrop (.there .here) .here (by rw [List.length_map, List.length_map]; omega) ?_
              walk_at "go"
              refine fin_nx ⟨ns ++ os, L, by rw [List.map_append], rfl, by rw [List.length_append]; omega, fun n hn => ?_⟩
              rcases List.mem_append.mp hn with hn | hn
              · exact hns n hn
              · exact hos n hn
            · refine do_freeze (i := 5) rfl .here ?_
              walk_at "go"
              exact fin_nx ⟨ns, L, rfl, rfl, by omega, hns⟩
          rintro _ _ ⟨ns, L, rfl, rfl, hl, hns⟩
          walk_at "go"
          refine ev_lcF (.name (List.mem_cons_self ..)) ?_
          refine evi_L ?_
          walk_at "ev"
          refine ⟨Int, ns, PyData.int, fun n => if decide (n ≤ 10 ^ 60) then some (PyData.int n) else none, rfl, by omega, ?_, ?_⟩
          · intro p B i x acc hB hx
            walk_at "ev"
            refine ⟨rfl, fun e => ?_, fun e => if_neg (by show ¬ decide (x ≤ 10 ^ 60) = true; rw [show decide (x ≤ 10 ^ 60) = false from e]; decide)⟩
            walk_at "ev"
            exact ⟨rfl, _, rfl, if_pos e⟩
          rw [fmI (g := fun n => n), List.map_id']
          obtain ⟨ms, hms⟩ : ∃ ms, ms = ns.filter fun n => decide (n ≤ 10 ^ 60) := ⟨_, rfl⟩
          rw [← hms]
          have hok : ms.length ≤ 40 ∧ ∀ n ∈ ms, n ≠ 0 ∧ n.natAbs ≤ 10 ^ 60 := ⟨by rw [hms]; have := List.length_filter_le (fun n : Int => decide (n ≤ 10 ^ 60)) ns; omega, fun n hn => by
            rw [hms, List.mem_filter] at hn
            have h1 := hns n hn.1
            have h2 := of_decide_eq_true hn.2
            have h3 : (1000 : Int) ≤ 10 ^ 60 := by decide
            exact ⟨h1.1, by omega⟩⟩
          clear hms hns
          walk_at "go"
          refine ev_lc (.name (List.mem_cons_self ..)) (evi_L ?_)
          walk_at "ev"
          refine ⟨fun j acc => ∃ os : List Int, acc = os.map PyData.int ∧ os.length = j ∧ ∀ n ∈ os, n ≠ 0 ∧ n.natAbs ≤ 10 ^ 60, by rw [List.length_map]; omega, ⟨[], rfl, rfl, fun n hn => nomatch hn⟩, fun p B2 j dd acc hB2 hdd hI hjl => ?_, fun acc hI hjl => ?_⟩
          · obtain ⟨os, rfl, hol, hos⟩ := hI
            rw [List.getElem?_map] at hdd
            obtain ⟨n, hn, rfl⟩ := Option.map_eq_some_iff.mp hdd
            obtain ⟨n1, n2⟩ := hok.2 n (List.mem_of_getElem? hn)
            walk_at "ev"
            unfold Turn1
            refine evt_yes ?_
            refine ⟨rfl, fun _ => ?_, fun e => (nomatch e)⟩
            refine ev_ifE (evt_test ?_)
            walk_at "ev"
            refine ev_draw ?_
            walk_at "ev"
            refine ⟨_, l, _, rfl, hd, by decide, by decide +kernel, fun r2 r21 r22 => ?_⟩
            walk_at "ev"
            refine ⟨fun e1 => ?_, fun e1 => ?_⟩
            · walk_at "ev"
              refine ⟨rfl, _, rfl, os ++ [-n], by rw [List.map_append]; rfl, by rw [List.length_append, hol]; rfl, fun x hx => ?_⟩
              rcases List.mem_append.mp hx with hx | hx
              · exact hos x hx
              · rw [List.mem_singleton.mp hx]
                exact ⟨by omega, by omega⟩
            · walk_at "ev"
              refine ⟨rfl, _, rfl, os ++ [n], by rw [List.map_append]; rfl, by rw [List.length_append, hol]; rfl, fun x hx => ?_⟩
              rcases List.mem_append.mp hx with hx | hx
              · exact hos x hx
              · rw [List.mem_singleton.mp hx]
                exact ⟨n1, n2⟩
          obtain ⟨os, rfl, hol, hos⟩ := hI
          rw [List.length_map] at hol
          walk_at "go"
          exact Rt.dropL (X := ⟨K, dk, Δ⟩) (Γ := Γ) (a := .dat (intsT os)) (R := Q) (k os ⟨by omega, hos⟩)

theorem ok_law_many {f : Addr} {fd : FuncData} (F : Fun K "_law_many" "_law_many" s_law_many f fd) (nb : NB mg bnames) (F_law_coprime : Fd P w K mg base "_law_coprime" 2 ["base", "number"] (sp_law_coprime K)) (F_law_draw : Fd P w K mg base "_law_draw" 1 ["deck", "many"] (sp_law_draw K))    : FnOk P w K mg base CX0 3 f fd ["deck", "base", "top"] (sp_law_many K) := by
  refine F.ok sc_law_many (fun vs H Q E h => ?_) (fun cdv A outer s H vs Q E hr h => ?_)
  · obtain ⟨dk, Γ, Δ, as, hS, hE, d, l, b, ps, t, rfl, _⟩ := h
    exact hE.len

  · obtain ⟨dk, Γ, Δ, as, hS, hE, d, l, b, ps, t, rfl, hd, hp, b1, b2, t1, t2, k⟩ := h
    refine ⟨_, (pss_cons (ps_par (by rfl) (i := 3) (j := 4) sc_law_many.nd rfl rfl (by decide) rfl rfl (pa_cons (pe_lst pa_nil) (pa_cons pe_int pa_nil)) (by rfl))
        (pss_cons (ps_for PassesOwn.never rfl (pi_range1 (by rfl) (nb "range" rfl) (pa_cons pe_int pa_nil)) (pg_name (i := 5) sc_law_many.nd rfl (.inl rfl))
        (pss_cons (ps_set (i := 6) sc_law_many.nd rfl (.inl rfl) (pe_fd F_law_coprime (hr.mono (by decide)) (by rfl) (pa_cons (pv 1) (pa_cons (pe_op op_add pe_int (pe_fd F_law_draw (hr.mono (by decide)) (by rfl) (pa_cons (pv 0) (pa_cons pe_int pa_nil)))) pa_nil))))
        (pss_one (ps_if (pt_cmpR op_lt (pe_op op_mulX (pv 4) (pv 6)) (pv 2) (nomark _)) (pss_cons (ps_expr (pe_bm PySem.F.plainAttrs_list PySem.F.slot_list_append PySem.F.type_list_append mt_append (pv 3) (pa_cons (pv 6) pa_nil)))
        (pss_one (ps_set (i := 4) sc_law_many.nd rfl (.inl rfl) (pe_op op_mulX (pv 4) (pv 6))))) pss_nil))))
        (pss_cons (ps_expr (pe_bm PySem.F.plainAttrs_list PySem.F.slot_list_append PySem.F.type_list_append mt_append (pv 3) (pa_cons (pe_callB (call_max2 rfl) (by rfl) (nb "max" rfl) (by decide +kernel) (pa_cons pe_int (pa_cons (pe_callB (call_min2 rfl) (by rfl) (nb "min" rfl) (by decide +kernel) (pa_cons (pe_op op_powW pe_int pe_int) (pa_cons (pe_op op_add (pe_op op_fdivW (pe_op op_sub (pv 2) pe_int) (pv 4)) (pe_fd F_law_draw (hr.mono (by decide)) (by rfl) (pa_cons (pv 0) (pa_cons pe_int pa_nil)))) pa_nil))) pa_nil))) pa_nil)))
        (pss_one (ps_ret (pe_callTy call_tuple_of (by rfl) (nb "tuple" rfl) (by decide +kernel) (pa_cons (pe_lc (own := [("own", 6)]) (by rfl) sc_law_many.nd (pi_list (pe_revL (pv 3))) (blkOk_by (own := [("own", 6)]) (N := ["deck", "base", "top", "found", "product", "turn", "own"]) (sc := defScope s_law_many) (by decide +kernel)) (fun _ _ _ _ _ => by exact (pg_name (i := 6) sc_law_many.nd rfl (.inl rfl))) (fun _ _ _ _ _ => by exact pts_nil) (fun _ _ _ _ _ => by exact (pe_ifExp (pt_cmpR op_eq (pe_fd F_law_draw (hr.mono (by decide)) (by rfl) (pa_cons (pv 0) (pa_cons pe_int pa_nil))) pe_int (nomark _)) (pe_un un_neg (pv 6)) (pv 6)))) pa_nil))))))), ?_⟩
    refine Do.go (X := ⟨K, dk, Δ⟩) (A := startA 7 _) ?_ .rfl' hS (rel_start hE)
    dsimp only [startA, cxOf]
    obtain ⟨e190, h190⟩ : ∃ e : Int, e = 10 ^ 190 := ⟨_, rfl⟩
    have h180 : (10 : Int) ^ 180 + 10 ^ 6 ≤ e190 := by rw [h190]; decide +kernel
    have h200 : e190 + 10 ^ 6 ≤ 10 ^ 200 := by rw [h190]; decide +kernel
    have q60 : (10 : Int) ^ Int.toNat 60 = 10 ^ 60 := rfl
    walk_at "go"
    rename_i c
    refine do_seq (do_forI ?_)
    refine evi_R ?_
    walk_at "ev"
    refine ⟨by decide, by decide, fun i A Γ1 => ∃ (ns : List Int) (P : Int) (x y z : Option AV), A = [some (.ref d), some (dI (b : Int)), some (dI t), some (.ref c), some (dI P), x, y] ∧ Γ1 = (c, ns.map PyData.int) :: Γ ∧ ns.length ≤ i ∧ 1 ≤ P ∧ P < t ∧ ∀ n ∈ ns, 1 ≤ n ∧ n ≤ 10 ^ 60,
      ⟨[], 1, _, _, none, rfl, rfl, Nat.le_refl _, by decide, by omega, fun n hn => nomatch hn⟩, fun _ _ _ _ => trivial, fun B i dd A1 Γ2 hB hdd hI => ?_, fun A1 Γ2 hI => ?_⟩
    · obtain ⟨ns, P, x, y, z, rfl, rfl, hl, P1, P2, hns⟩ := hI
      obtain ⟨hi, rfl⟩ := range_is hdd
      have hi : i < 39 := hi
      walk_at "go"
      refine ev_call ?_
      walk_at "ev"
      refine ev_draw ?_
      walk_at "ev"
      refine ⟨_, l, _, rfl, hd, by decide, by decide +kernel, fun r2 r21 r22 => ?_⟩
      walk_at "ev"
      refine fun R hR => ⟨b, 2 + r2, rfl, b1, b2, ?_, fun r3 r31 r32 r33 => hR _ _ ?_⟩
      · have : (100 : Int) ≤ 10 ^ 190 := by decide +kernel
        omega
      clear hR
      have hr3 : r3 ≤ 10 ^ 60 := by
        have : (10000 : Int) ≤ 10 ^ 60 := by decide
        omega
      have hm : CMulX P r3 := mulx_dec (by omega) (by omega) (by omega) (by omega)
      walk_at "go"
      refine do_if (evt_test ?_)
      walk_at "ev"
      refine ⟨fun e1 => ?_, fun e1 => ?_⟩
      · have e1 : P * r3 < t := of_decide_eq_true e1
        have e2 : P * 1 ≤ P * r3 := Int.mul_le_mul_of_nonneg_left (by omega) (by omega)
        walk_at "go"
        · rw [List.length_map]; omega
        refine fin_nx ⟨ns ++ [r3], _, _, _, none, rfl, by rw [List.map_append]; rfl, by rw [List.length_append]; show _ + 1 ≤ _; omega, by omega, e1, fun n hn => ?_⟩
        rcases List.mem_append.mp hn with hn | hn
        · exact hns n hn
        · rw [List.mem_singleton.mp hn]
          exact ⟨r31, hr3⟩
      · walk_at "go"
        exact fin_nx ⟨ns, P, _, _, none, rfl, rfl, by omega, P1, P2, hns⟩
    · obtain ⟨ns, P, x, y, z, rfl, rfl, hl, P1, P2, hns⟩ := hI
      have hl : ns.length ≤ 39 := by rw [range_len] at hl; exact hl
      have hdv : CDivW (t - 1) P := divw_dec (by omega) (by omega)
      walk_at "go"
      refine ev_draw ?_
      walk_at "ev"
      refine ⟨_, l, _, rfl, hd, by decide, by decide +kernel, fun r2 r21 r22 => ?_⟩
      obtain ⟨v, hv, v1, v2⟩ : ∃ v : Int, v = (if (if (t - 1) / P + r2 < 10 ^ Int.toNat 60 then (t - 1) / P + r2 else 10 ^ Int.toNat 60) > 1 then (if (t - 1) / P + r2 < 10 ^ Int.toNat 60 then (t - 1) / P + r2 else 10 ^ Int.toNat 60) else 1) ∧ 1 ≤ v ∧ v ≤ 10 ^ 60 := by
        have : (1 : Int) ≤ 10 ^ 60 := by decide
        exact ⟨_, rfl, by split <;> omega, by split <;> split <;> omega⟩
      walk_at "go"
      · rw [List.length_map]; omega
      rw [← hv]
      refine ev_lc (.name (List.mem_cons_self ..)) (evi_L (ev_rev ?_))
      walk_at "ev"
      rw [show (ns.map PyData.int ++ [PyData.int v]).reverse = ((ns ++ [v]).reverse).map PyData.int by rw [List.map_reverse, List.map_append]; rfl]
      have hok : ((ns ++ [v]).reverse).length ≤ 40 ∧ ∀ n ∈ (ns ++ [v]).reverse, n ≠ 0 ∧ n.natAbs ≤ 10 ^ 60 := ⟨by rw [List.length_reverse, List.length_append]; show _ + 1 ≤ _; omega, fun n hn => by
        rw [List.mem_reverse] at hn
        rcases List.mem_append.mp hn with hn | hn
        · have := hns n hn
          exact ⟨by omega, by omega⟩
        · rw [List.mem_singleton.mp hn]
          exact ⟨by omega, by omega⟩⟩
      generalize (ns ++ [v]).reverse = ms at hok
      refine ⟨fun j acc => ∃ os : List Int, acc = os.map PyData.int ∧ os.length = j ∧ ∀ n ∈ os, n ≠ 0 ∧ n.natAbs ≤ 10 ^ 60, by rw [List.length_map]; omega, ⟨[], rfl, rfl, fun n hn => nomatch hn⟩, fun p B2 j dd acc hB2 hdd hI hjl => ?_, fun acc hI hjl => ?_⟩
      · obtain ⟨os, rfl, hol, hos⟩ := hI
        rw [List.getElem?_map] at hdd
        obtain ⟨n, hn, rfl⟩ := Option.map_eq_some_iff.mp hdd
        obtain ⟨n1, n2⟩ := hok.2 n (List.mem_of_getElem? hn)
        walk_at "ev"
        unfold Turn1
        refine evt_yes ?_
        refine ⟨rfl, fun _ => ?_, fun e => (nomatch e)⟩
        refine ev_ifE (evt_test ?_)
        walk_at "ev"
        refine ev_draw ?_
        walk_at "ev"
        refine ⟨_, l, _, rfl, hd, by decide, by decide +kernel, fun r2 r21 r22 => ?_⟩
        walk_at "ev"
        refine ⟨fun e1 => ?_, fun e1 => ?_⟩
        · walk_at "ev"
          refine ⟨rfl, _, rfl, os ++ [-n], by rw [List.map_append]; rfl, by rw [List.length_append, hol]; rfl, fun x hx => ?_⟩
          rcases List.mem_append.mp hx with hx | hx
          · exact hos x hx
          · rw [List.mem_singleton.mp hx]
            exact ⟨by omega, by omega⟩
        · walk_at "ev"
          refine ⟨rfl, _, rfl, os ++ [n], by rw [List.map_append]; rfl, by rw [List.length_append, hol]; rfl, fun x hx => ?_⟩
          rcases List.mem_append.mp hx with hx | hx
          · exact hos x hx
          · rw [List.mem_singleton.mp hx]
            exact ⟨n1, n2⟩
      obtain ⟨os, rfl, hol, hos⟩ := hI
      rw [List.length_map] at hol
      walk_at "go"
      exact Rt.drop .here (k os ⟨by omega, hos⟩)

theorem ok_law_is_bad {f : Addr} {fd : FuncData} (F : Fun K "_law_is_bad" "_law_is_bad" s_law_is_bad f fd) (nb : NB mg bnames) (F_law_power : Fd P w K mg base "_law_power" 1 ["base", "times"] (sp_law_power K)) (F_law_whole : Fd P w K mg base "_law_whole" 1 ["base", "number"] (sp_law_whole K))    : FnOk P w K mg base CX0 2 f fd ["base", "figures", "numbers", "told"] (sp_law_is_bad K) := by
  refine F.ok sc_law_is_bad (fun vs H Q E h => ?_) (fun cdv A outer s H vs Q E hr h => ?_)
  · obtain ⟨dk, Γ, Δ, as, hS, hE, b, f, p, ps, ns, rfl, _⟩ := h
    exact hE.len

  · obtain ⟨dk, Γ, Δ, as, hS, hE, b, f, p, ps, ns, rfl, hP, hp, hb2, hb, hf, hN, hn, k⟩ := h
    refine ⟨_, (pss_cons (ps_if (pt_not (pt_val (pe_callB call_isi (by rfl) (nb "isinstance" rfl) (by decide +kernel) (pa_cons (pv 3) (pa_cons (pe_bltn (v := .ty "tuple") (u := .type "tuple") (by rfl) (nb "tuple" rfl) (by decide +kernel) (by rfl)) pa_nil))))) (pss_one (ps_ret pe_bl)) pss_nil)
        (pss_cons (ps_asg (pe_tup (pa_cons pe_int (pa_cons (pe_un un_neg pe_int) pa_nil))) (pg_tup (by rfl) (pgs_cons (pg_name (i := 4) sc_law_is_bad.nd rfl (.inl rfl)) (pgs_cons (pg_name (i := 5) sc_law_is_bad.nd rfl (.inl rfl)) pgs_nil))))
        (pss_cons (ps_for PassesOwn.never rfl (pi_tup (pv 3)) (pg_name (i := 6) sc_law_is_bad.nd rfl (.inl rfl))
        (pss_cons (ps_if (PW.pt (pw_or (pt_not (pt_val (pe_callB call_isi (by rfl) (nb "isinstance" rfl) (by decide +kernel) (pa_cons (pv 6) (pa_cons (pe_bltn (v := .ty "int") (u := .type "int") (by rfl) (nb "int" rfl) (by decide +kernel) (by rfl)) pa_nil))))) (pw_or (pt_val (pe_callB call_isi (by rfl) (nb "isinstance" rfl) (by decide +kernel) (pa_cons (pv 6) (pa_cons (pe_bltn (v := .ty "bool") (u := .type "bool") (by rfl) (nb "bool" rfl) (by decide +kernel) (by rfl)) pa_nil)))) (pw_or (pt_cmpR op_le (pv 6) (pv 5) (nomark _)) (pw_or1 (pt_cmpR op_ge (pv 6) (pe_callB call_len_seq (by rfl) (nb "len" rfl) PySem.boot_len (pa_cons (pv 2) pa_nil)) (nomark _))))))) (pss_one (ps_ret pe_bl)) pss_nil)
        (pss_one (ps_par (by rfl) (i := 4) (j := 5) sc_law_is_bad.nd rfl rfl (by decide) rfl rfl (pa_cons (pe_op op_mulX (pv 4) (pe_ix ix_tup (pv 2) (pv 6) (fun _ _ => rfl))) (pa_cons (pv 6) pa_nil)) (by rfl)))))
        (pss_one (ps_ret (pe_cmpR op_ge (pe_ix ix_tup (pe_fd F_law_whole (hr.mono (by decide)) (by rfl) (pa_cons (pv 0) (pa_cons (pv 4) pa_nil))) pe_int (fun _ _ => rfl)) (pe_fd F_law_power (hr.mono (by decide)) (by rfl) (pa_cons (pv 0) (pa_cons (pv 1) pa_nil))) (nomark _))))))), ?_⟩
    refine Do.go (X := ⟨K, dk, Δ⟩) (A := startA 7 _) ?_ .rfl' hS (rel_start hE)
    dsimp only [startA, cxOf]
    have hasc := heavy_asc b p ns
    have hfst := heavy_fst (b := b) (p := p) (ns := ns)
    have hat : ∀ x ∈ heavyL b p ns, ns[x.2]? = some x.1 := fun x hx => heavy_at hx
    have hbad : ¬ KeepN b f (prodN ((heavyL b p ns).map fun x => x.1.natAbs)) := fun z => hn (by
      rw [hfst] at z
      exact heavy_bad hP hb2 (okn_nat hN).1 hp z)
    have hlen : (heavyL b p ns).length ≤ 40 := Nat.le_trans heavy_len hN.1
    unfold heavyD at *
    have hbnd : ∀ i, prodN (((heavyL b p ns).take i).map fun x => x.1.natAbs) < 2 ^ 8001 := fun i => by
      have h1 := prod_le (B := 200) (xs := ((heavyL b p ns).take i).map fun x => x.1.natAbs) fun y hy => by
        obtain ⟨x, hx, rfl⟩ := List.mem_map.mp hy
        exact n60 (hN.2 x.1 (List.mem_of_getElem? (hat x (List.mem_of_mem_take hx)))).2
      refine Nat.lt_of_lt_of_le h1 (Nat.pow_le_pow_right (by decide) ?_)
      rw [List.length_map, List.length_take]
      omega
    generalize heavyL b p ns = hs at *
    refine do_ifF (evt_not (evt_B (ev_isi ?_)))
    walk_at "ev"
    refine ⟨_, _, _, rfl, rfl, kit_same, _, rfl, rfl, ?_⟩
    refine do_asg (ev_tup ?_)
    walk_at "go"
    refine do_seq (do_forI (evi_T ?_))
    walk_at "ev"
    refine ⟨fun i A Γ1 => ∃ (a : Option AV) (P L : Int), A = [some (dI (b : Int)), some (dI (f : Int)), some (.dat (intsT ns)), some (.dat (.tuple (hs.map fun x => .int (x.2 : Int)))), some (dI P), some (dI L), a] ∧ Γ = Γ1 ∧ P.natAbs = prodN ((hs.take i).map fun x => x.1.natAbs) ∧ ∀ x ∈ hs.drop i, L < (x.2 : Int),
      ⟨none, 1, -1, rfl, rfl, rfl, fun x _ => by omega⟩, fun _ _ _ _ => trivial, fun B i dd A1 Γ2 hB hdd hI => ?_, fun A1 Γ2 hI => ?_⟩
    · obtain ⟨c1, P, L, rfl, rfl, hPn, hL⟩ := hI
      rw [List.getElem?_map] at hdd
      obtain ⟨⟨n, q⟩, hx, rfl⟩ := Option.map_eq_some_iff.mp hdd
      have hxm := List.mem_of_getElem? hx
      have hq := hat _ hxm
      have hLq : L < (q : Int) := hL (n, q) (by
        obtain ⟨hi, he⟩ := List.getElem?_eq_some_iff.mp hx
        rw [List.drop_eq_getElem_cons hi, he]
        exact List.mem_cons_self ..)
      obtain ⟨hnn, hnb⟩ : n ≠ 0 ∧ n.natAbs ≤ 10 ^ 60 := hN.2 n (List.mem_of_getElem? hq)
      have hPb : P.natAbs < 2 ^ 8001 := by rw [hPn]; exact hbnd i
      have hql : q < ns.length := (List.getElem?_eq_some_iff.mp hq).1
      have haq : atI (ns.map PyData.int) (q : Int) = some (.int n) := atI_of (by omega) (by show (ns.map PyData.int)[q]? = _; rw [List.getElem?_map, hq]; rfl)
      walk_at "go"
      refine do_ifF (evt_orF (evt_not (evt_B (ev_isi ?_))))
      walk_at "ev"
      refine ⟨_, _, _, rfl, rfl, kit_same, _, rfl, rfl, ?_⟩
      refine evt_orF (evt_B (ev_isi ?_))
      walk_at "ev"
      refine ⟨_, _, _, rfl, rfl, kit_int_bool, _, rfl, rfl, ?_⟩
      refine evt_orF (evt_test ?_)
      walk_at "ev"
      refine ⟨by simpa using hLq, ?_⟩
      refine evt_test ?_
      walk_at "ev"
      refine ⟨by simpa using hql, ?_⟩
      walk_at "go"
      refine op_ixT haq ?_
      walk_at "go"
      · exact mulx_ok (a := 8001) (b := 200) hPb (n60 hnb) (by decide)
      refine fin_nx ⟨_, _, _, rfl, rfl, ?_, fun x hxd => ?_⟩
      · rw [List.take_add_one, hx, List.map_append]
        show _ = prodN (_ ++ [n.natAbs])
        rw [prodN_snoc, Int.natAbs_mul, hPn]
      · obtain ⟨j, hj, he⟩ := List.getElem_of_mem hxd
        rw [List.getElem_drop] at he
        obtain ⟨hi, hie⟩ := List.getElem?_eq_some_iff.mp hx
        have := List.pairwise_iff_getElem.mp hasc i (i + 1 + j) hi (by rw [List.length_drop] at hj; omega) (by omega)
        rw [hie, he] at this
        exact Int.ofNat_lt.mpr this
    · obtain ⟨c1, P, L, rfl, rfl, hPn, hL⟩ := hI
      rw [List.length_map, List.take_length] at hPn
      have hP0 : 0 < P.natAbs := by
        rw [hPn]
        refine prodN_pos fun y hy => ?_
        obtain ⟨x, hx, rfl⟩ := List.mem_map.mp hy
        have := (hN.2 x.1 (List.mem_of_getElem? (hat x hx))).1
        omega
      rw [← hPn] at hbad
      walk_at "go"
      refine ev_call ?_
      walk_at "ev"
      refine fun R hR => ⟨b, P, rfl, by omega, by omega, by omega, fun r t hr0 hr hPr => hR _ _ ?_⟩
      clear hR
      walk_at "ev"
      refine ev_call ?_
      walk_at "ev"
      refine fun R hR => ⟨b, f, rfl, by omega, by omega, by omega, hR _ _ ?_⟩
      clear hR
      walk_at "ev"
      obtain ⟨rn, rfl⟩ := Int.eq_ofNat_of_zero_le (show 0 ≤ r by omega)
      obtain ⟨h1, h2⟩ := core_of hb2 hr hPr
      have h3 : ¬ rn < b ^ f := fun z => hbad ((keepN_core hb2 hP0 h1 h2).mpr z)
      rw [show decide ((b : Int) ^ f ≤ (rn : Int)) = true from decide_eq_true (by rw [← Int.natCast_pow]; omega)]
      exact k

theorem ok_law_is_told {f : Addr} {fd : FuncData} (F : Fun K "_law_is_told" "_law_is_told" s_law_is_told f fd) (nb : NB mg bnames) (F_law_is_bad : Fd P w K mg base "_law_is_bad" 2 ["base", "figures", "numbers", "told"] (sp_law_is_bad K)) (F_law_is_due : Fd P w K mg base "_law_is_due" 3 ["base", "figures", "numbers"] (sp_law_is_due K)) (F_law_power : Fd P w K mg base "_law_power" 1 ["base", "times"] (sp_law_power K)) (F_law_primes : Fd P w K mg base "_law_primes" 1 ["number"] (sp_law_primes K)) (F_law_share : Fd P w K mg base "_law_share" 2 ["base", "prime", "numbers"] (sp_law_share K)) (F_law_whole : Fd P w K mg base "_law_whole" 1 ["base", "number"] (sp_law_whole K)) (Fbad_lot : FdX P w K mg base "bad_lot" 6 ["base", "figures", "numbers"] (spbad_lot K mg)) (Fproducts_exact : FdX P w K mg base "products_exact" 7 ["base", "figures", "numbers"] (spproducts_exact K mg)) (Fshares : FdX P w K mg base "shares" 5 ["base", "numbers"] (spshares K mg)) (Kproducts_exact : FkX P w K mg base "products_exact" 7 ["base", "figures", "numbers"] ["numbers", "figures", "base"] (fun zs => zs.reverse) (spproducts_exact K mg)) (Kbad_lot : FkX P w K mg base "bad_lot" 6 ["base", "figures", "numbers"] ["numbers", "figures", "base"] (fun zs => zs.reverse) (spbad_lot K mg))  (hdg2 : PySem.W.nsIn K cStatics "sys.int_max_str_digits" = some none) : FnG P w K mg base 8 f fd ["base", "figures", "numbers"] (sp_law_is_told K) := by
  refine okG F sc_law_is_told (fun vs H Q E h => ?_) (fun cdv A outer s H vs Q E hg hr h => ?_)
  · obtain ⟨dk, Γ, Δ, as, hS, hE, b, f, ps, ns, rfl, _⟩ := h
    exact hE.len

  · obtain ⟨dk, Γ, Δ, as, hS, hE, b, f, ps, ns, rfl, hP, hb2, hb, hf, hN, k⟩ := h
    refine ⟨_, (pss_cons (ps_set (i := 3) sc_law_is_told.nd rfl (.inl rfl) (pe_fd F_law_is_due (hr.mono (by decide)) (by rfl) (pa_cons (pv 0) (pa_cons (pv 1) (pa_cons (pv 2) pa_nil)))))
        (pss_cons (ps_set (i := 4) sc_law_is_told.nd rfl (.inl rfl) (pe_lst (pa_cons (pe_fdX (E := fun _ _ _ _ => False) Fproducts_exact (hr.mono (by decide)) (by rfl) (fun σ => passes_no σ) (pa_cons (pv 0) (pa_cons (pv 1) (pa_cons (pv 2) pa_nil)))) (pa_cons (pe_fkX (E := fun _ _ _ _ => False) Kproducts_exact (hr.mono (by decide)) (by rfl) (fun σ => passes_no σ) (pk_cons (pv 2) (pk_cons (pv 1) (pk_cons (pv 0) pk_nil)))) pa_nil))))
        (pss_cons (ps_if (pt_cmpR op_ne (pe_callB (call_reprZ hg (by have := hr.units; exact this) hdg2) (by rfl) (nb "repr" rfl) (by decide +kernel) (pa_cons (pv 4) pa_nil)) (pe_callB (call_reprZ hg (by have := hr.units; exact this) hdg2) (by rfl) (nb "repr" rfl) (by decide +kernel) (pa_cons (pe_lst (pa_cons (pv 3) (pa_cons (pv 3) pa_nil))) pa_nil)) (nomark _)) (pss_one (ps_ret pe_bl)) pss_nil)
        (pss_cons (ps_set (i := 5) sc_law_is_told.nd rfl (.inl rfl) (pe_fkX (E := fun _ _ _ _ => False) Kbad_lot (hr.mono (by decide)) (by rfl) (fun σ => passes_no σ) (pk_cons (pv 2) (pk_cons (pv 1) (pk_cons (pv 0) pk_nil)))))
        (pss_cons (ps_if (PW.pt (pw_or (pt_cmpR op_ne (pv 3) (pe_cmpR op_isN (pv 5) pe_non (nomark _)) (nomark _)) (pw_or1 (PW.pt (pw_and (pt_not (pt_val (pv 3))) (pw_and1 (pt_not (pt_val (pe_fd F_law_is_bad (hr.mono (by decide)) (by rfl) (pa_cons (pv 0) (pa_cons (pv 1) (pa_cons (pv 2) (pa_cons (pv 5) pa_nil))))))))))))) (pss_one (ps_ret pe_bl)) pss_nil)
        (pss_cons (ps_for PassesOwn.never rfl (pi_tup (pe_fdX (E := fun _ _ _ _ => False) Fshares (hr.mono (by decide)) (by rfl) (fun σ => passes_no σ) (pa_cons (pv 0) (pa_cons (pv 2) pa_nil)))) (pg_tup (by rfl) (pgs_cons (pg_name (i := 6) sc_law_is_told.nd rfl (.inl rfl)) (pgs_cons (pg_name (i := 7) sc_law_is_told.nd rfl (.inl rfl)) (pgs_cons (pg_name (i := 8) sc_law_is_told.nd rfl (.inl rfl)) pgs_nil))))
        (pss_cons (ps_set (i := 9) sc_law_is_told.nd rfl (.inl rfl) (pe_fd F_law_share (hr.mono (by decide)) (by rfl) (pa_cons (pv 0) (pa_cons (pv 6) (pa_cons (pv 2) pa_nil)))))
        (pss_one (ps_if (PW.pt (pw_or (pt_cmpR op_ne (pe_op op_mulX (pv 7) (pe_ix ix_tup (pv 9) pe_int (fun _ _ => rfl))) (pe_op op_mulX (pv 8) (pe_ix ix_tup (pv 9) pe_int (fun _ _ => rfl))) (nomark _)) (pw_or1 (PW.pt (pw_and (pt_cmpR op_ge (pv 7) (pe_op op_mulX (pe_fd F_law_power (hr.mono (by decide)) (by rfl) (pa_cons (pv 0) (pa_cons (pv 1) pa_nil))) (pv 8)) (nomark _)) (pw_and1 (pt_val (pv 3)))))))) (pss_one (ps_ret pe_bl)) pss_nil))))
        (pss_cons (ps_if (pt_cmpR op_gt (pe_callB call_len_seq (by rfl) (nb "len" rfl) PySem.boot_len (pa_cons (pe_fd F_law_primes (hr.mono (by decide)) (by rfl) (pa_cons (pv 0) pa_nil)) pa_nil)) pe_int (nomark _)) (pss_one (ps_ret pe_bl)) pss_nil)
        (pss_cons (ps_set (i := 10) sc_law_is_told.nd rfl (.inl rfl) pe_int)
        (pss_cons (ps_for PassesOwn.never rfl (pi_tup (pv 2)) (pg_name (i := 11) sc_law_is_told.nd rfl (.inl rfl))
        (pss_one (ps_set (i := 10) sc_law_is_told.nd rfl (.inl rfl) (pe_op op_mulX (pv 10) (pv 11)))))
        (pss_one (ps_ret (pe_cmpR op_eq (pe_cmpR op_lt (pe_ix ix_tup (pe_fd F_law_whole (hr.mono (by decide)) (by rfl) (pa_cons (pv 0) (pa_cons (pv 10) pa_nil))) pe_int (fun _ _ => rfl)) (pe_fd F_law_power (hr.mono (by decide)) (by rfl) (pa_cons (pv 0) (pa_cons (pv 1) pa_nil))) (nomark _)) (pv 3) (nomark _))))))))))))), ?_⟩
    refine Do.go (X := ⟨K, dk, Δ⟩) (A := startA 12 _) ?_ .rfl' hS (rel_start hE)
    dsimp only [startA, cxOf]
    have hnat := okn_nat hN
    have peq : ∀ qs, Plain b qs → qs = ps := fun qs h => plain_eq hP h
    have nsq : ¬ Sq b := not_sq hP
    walk_at "go"
    refine ev_call ?_
    walk_at "ev"
    refine fun R hR => ⟨b, f, ps, ns, rfl, hP, hb2, hb, hf, hN, fun due hdue => hR _ _ ?_⟩
    clear hR
    walk_at "go"
    refine ev_callX ?_
    walk_at "ev"
    refine fun R S hR hS => ⟨b, f, ns, rfl, hb2, hb, hf, hN, fun qs hQ r hr => hR _ _ ?_, fun hq => (nsq hq).elim⟩
    obtain rfl := peq qs hQ
    clear hR hS
    obtain rfl := bool_of hdue hr
    walk_at "ev"
    refine ev_callXV ?_
    walk_at "ev"
    refine fun R S hR hS => ⟨b, f, ns, rfl, hb2, hb, hf, hN, fun ps hQ r2 hr2 => hR _ _ ?_, fun hq => (nsq hq).elim⟩
    obtain rfl := peq ps hQ
    clear hR hS
    obtain rfl := bool_of hdue hr2
    have smb : SmZ 100 1 (.list [.bool r2, .bool r2] : D) := (smz_list (n := 5) (k := 0) (ds := [.bool r2, .bool r2]) fun d hd => by
      simp only [List.mem_cons, List.not_mem_nil, or_false] at hd
      rcases hd with rfl | rfl <;> exact smz_bl r2).mono (by show 2 * (5 + 2) + 3 ≤ 100; decide) (Nat.le_refl _)
    walk_at "go"
    refine do_ifF ?_
    walk_at "ev"
    refine cb_reprZ trivial smb (by decide) (by decide) ?_
    walk_at "ev"
    refine cb_reprZ trivial smb (by decide) (by decide) ?_
    walk_at "ev"
    refine ⟨by simp, ?_⟩
    walk_at "go"
    refine ev_weak (Q' := fun a Γ1 => Γ = Γ1 ∧ ∃ lot, a = .dat lot ∧ ((lot = .none ∧ r2 = true) ∨ (r2 = false ∧ ∃ p ∈ ps, lot = heavyD b p ns ∧ ¬ Below b f ns p))) (ev_callXV ?_) ?_
    · walk_at "ev"
      refine fun R S hR hS => ⟨b, f, ns, rfl, hb2, hb, hf, hN, fun qs hQ hall => hR _ _ ?_, fun qs hQ p hp hn => hR _ _ ?_, fun hq => (nsq hq).elim⟩
      · obtain rfl := peq qs hQ
        exact ⟨rfl, _, rfl, .inl ⟨rfl, hdue.mpr hall⟩⟩
      · obtain rfl := peq qs hQ
        refine ⟨rfl, _, rfl, .inr ⟨?_, p, hp, rfl, hn⟩⟩
        cases h : r2
        · rfl
        · exact absurd (hdue.mp h p hp) hn
    rintro _ _ ⟨rfl, lot, rfl, hlot⟩
    walk_at "go"
    have e1 : r2 = isNon lot := by
      rcases hlot with ⟨rfl, rfl⟩ | ⟨rfl, p, hp, rfl, hn⟩ <;> rfl
    refine do_ifF (evt_orF (evt_test ?_))
    walk_at "ev"
    refine ⟨by rw [← e1]; simp, ?_⟩
    refine evt_andJ (fun z Γ1 => z = false ∧ Γ = Γ1) (evt_not (evt_B ?_)) ?_
    · walk_at "ev"
      refine ⟨fun e2 => ?_, fun _ => ⟨rfl, rfl⟩⟩
      rcases hlot with ⟨rfl, rfl⟩ | ⟨rfl, p, hp, rfl, hn⟩
      · exact nomatch e2
      refine evt_not (evt_B ?_)
      refine ev_call ?_
      walk_at "ev"
      refine fun R hR => ⟨b, f, p, ps, ns, rfl, hP, hp, hb2, hb, hf, hN, hn, hR _ _ ?_⟩
      clear hR
      exact ⟨true, rfl, rfl, rfl⟩
    rintro _ _ ⟨rfl, rfl⟩
    refine ⟨rfl, ?_⟩
    refine do_seq (do_forI (evi_T ?_))
    refine ev_callX ?_
    walk_at "ev"
    refine fun R S hR hS => ⟨b, ns, rfl, hb2, hb, hN, fun qs hQ => hR _ _ ?_, fun hq => (nsq hq).elim⟩
    obtain rfl := peq qs hQ
    clear hR hS
    walk_at "ev"
    refine ⟨fun i A Γ1 => ∃ (x6 x7 x8 x9 x10 x11 : Option AV), A = [some (dI (b : Int)), some (dI (f : Int)), some (.dat (intsT ns)), some (dB r2), some (.dat (.list [.bool r2, .bool r2])), some (.dat lot), x6, x7, x8, x9, x10, x11] ∧ Γ = Γ1,
      ⟨_, _, _, _, _, _, rfl, rfl⟩, fun _ _ _ _ => trivial, fun B i dd A1 Γ2 hB hdd hI => ?_, fun A1 Γ2 hI => ?_⟩
    · obtain ⟨x6, x7, x8, x9, x10, x11, rfl, rfl⟩ := hI
      rw [List.getElem?_map] at hdd
      obtain ⟨p, hp, rfl⟩ := Option.map_eq_some_iff.mp hdd
      have hpm := List.mem_of_getElem? hp
      obtain ⟨hpp, hpd, hps, hple⟩ := plain_mem hP (by omega) hpm
      obtain ⟨g1, g2, g3, g4⟩ := red_small (b := b) (p := p) (ns := ns) (by omega) hN
      have hBr := below_red (f := f) hb2 hN hpp.1 (p := p) (b := b) (ns := ns)
      have he : ((b : Int) ^ f).natAbs < 2 ^ 700 := by
        rw [Int.natAbs_pow]
        exact Nat.lt_of_le_of_lt (Nat.pow_le_pow_left (show (b : Int).natAbs ≤ 2 ^ 10 by omega) f) (by rw [← Nat.pow_mul]; exact Nat.pow_lt_pow_right (by decide) (by omega))
      have hA : abv b p (natsOf ns) < 2 ^ 8001 := by
        have h1 := abv_lt (b := b) (p := p) hnat.2
        have h2 : (natsOf ns).length ≤ 40 := by unfold natsOf; rw [List.length_map]; exact hN.1
        exact Nat.lt_of_lt_of_le h1 (Nat.pow_le_pow_right (by decide) (by omega))
      have hB2 := blw_le (b := b) (p := p) (ns := natsOf ns)
      have hcr : (redOf b p ns).1 * blw b p (natsOf ns) = (redOf b p ns).2 * abv b p (natsOf ns) := red_cross _ _
      have m1 : CMulX ((redOf b p ns).1 : Int) ((blw b p (natsOf ns) : Nat) : Int) := mulx_ok (a := 8001) (b := 8001) (by rw [Int.natAbs_natCast]; exact g1) (by rw [Int.natAbs_natCast]; omega) (by decide)
      have m2 : CMulX ((redOf b p ns).2 : Int) ((abv b p (natsOf ns) : Nat) : Int) := mulx_ok (a := 8001) (b := 8001) (by rw [Int.natAbs_natCast]; exact g2) (by rw [Int.natAbs_natCast]; omega) (by decide)
      have m3 : CMulX ((b : Int) ^ f) ((redOf b p ns).2 : Int) := mulx_ok (a := 700) (b := 8001) he (by rw [Int.natAbs_natCast]; exact g2) (by decide)
      have ecr : ((redOf b p ns).1 : Int) * ((blw b p (natsOf ns) : Nat) : Int) = ((redOf b p ns).2 : Int) * ((abv b p (natsOf ns) : Nat) : Int) := by exact_mod_cast hcr
      dsimp only [shareD]
      walk_at "go"
      refine ev_call ?_
      walk_at "ev"
      refine fun R hR => ⟨b, p, ns, rfl, hb2, hb, hpp.1, by omega, hN, hR _ _ ?_⟩
      clear hR
      dsimp only [wholeD]
      walk_at "go"
      refine do_ifFL (evt_orF (evt_test ?_))
      walk_at "ev"
      refine ⟨by rw [ecr]; simp, ?_⟩
      refine evt_andJ (fun z Γ1 => z = false ∧ Γ = Γ1) (evt_test ?_) ?_
      · walk_at "ev"
        refine ev_call ?_
        walk_at "ev"
        refine fun R hR => ⟨b, f, rfl, by omega, by omega, by omega, hR _ _ ?_⟩
        clear hR
        walk_at "ev"
        refine ⟨fun e2 => ?_, fun _ => ⟨rfl, rfl⟩⟩
        refine evt_B ?_
        walk_at "ev"
        refine ⟨?_, rfl⟩
        cases h : r2
        · rfl
        · exact absurd (of_decide_eq_true e2) (by rw [Int.mul_comm]; exact hBr.mp (hdue.mp h p hpm))
      rintro _ _ ⟨rfl, rfl⟩
      exact ⟨rfl, fin_nx ⟨_, _, _, _, _, _, rfl, rfl⟩⟩
    · obtain ⟨x6, x7, x8, x9, x10, x11, rfl, rfl⟩ := hI
      refine fin_do ?_
      refine do_ifS (evt_test ?_)
      walk_at "ev"
      refine ev_call ?_
      walk_at "ev"
      refine fun R hR => ⟨b, rfl, hb2, hb, fun qs' hq => hR _ _ ?_⟩
      obtain rfl := hq.uniq hP.pl
      clear hR
      walk_at "ev"
      refine ⟨fun e => ?_, fun e => ?_⟩
      · walk_at "go"
        exact k
      have hl1 : qs'.length ≤ 1 := by
        have := of_decide_eq_false e
        rw [List.length_map] at this
        omega
      obtain ⟨p, hp⟩ : ∃ p, p ∈ qs' := by
        refine List.exists_mem_of_ne_nil _ fun z => ?_
        have := hP.2.2
        rw [z] at this
        have : b = 1 := this
        omega
      have hdue1 : r2 = true ↔ KeepN b f (prodN (natsOf ns)) := by
        rw [keepN_all hP hb2 hN hl1 hp, hdue]
        refine ⟨fun h => h p hp, fun h q hq => ?_⟩
        obtain ⟨z, rfl⟩ : ∃ z, qs' = [z] := by
          match qs', hl1, hp with
          | [z], _, _ => exact ⟨z, rfl⟩
        rw [List.mem_singleton.mp hq, ← List.mem_singleton.mp hp]
        exact h
      walk_at "go"
      refine do_seq (do_forI (evi_T ?_))
      walk_at "ev"
      refine ⟨fun i A Γ1 => ∃ (P : Int) (x11 : Option AV), A = [some (dI (b : Int)), some (dI (f : Int)), some (.dat (intsT ns)), some (dB r2), some (.dat (.list [.bool r2, .bool r2])), some (.dat lot), x6, x7, x8, x9, some (dI P), x11] ∧ Γ = Γ1 ∧ P.natAbs = prodN (natsOf (ns.take i)),
        ⟨1, _, rfl, rfl, rfl⟩, fun _ _ _ _ => trivial, fun B i dd A1 Γ2 hB hdd hI => ?_, fun A1 Γ2 hI => ?_⟩
      · obtain ⟨P, x11, rfl, rfl, hPn⟩ := hI
        rw [List.getElem?_map] at hdd
        obtain ⟨n, hn, rfl⟩ := Option.map_eq_some_iff.mp hdd
        have hnm := List.mem_of_getElem? hn
        have hPb : P.natAbs < 2 ^ 8001 := by
          rw [hPn]
          have h1 := prod_le (B := 200) (xs := natsOf (ns.take i)) fun y hy => by
            obtain ⟨x, hx, rfl⟩ := List.mem_map.mp hy
            exact n60 (hN.2 x (List.mem_of_mem_take hx)).2
          refine Nat.lt_of_lt_of_le h1 (Nat.pow_le_pow_right (by decide) ?_)
          unfold natsOf
          rw [List.length_map, List.length_take]
          have := hN.1
          omega
        walk_at "go"
        · exact mulx_ok (a := 8001) (b := 200) hPb (n60 (hN.2 n hnm).2) (by decide)
        refine fin_nx ⟨_, _, rfl, rfl, ?_⟩
        rw [Int.natAbs_mul, hPn]
        unfold natsOf
        rw [List.take_add_one, hn, List.map_append]
        show _ = prodN (_ ++ [n.natAbs])
        rw [prodN_snoc]
      · obtain ⟨P, x11, rfl, rfl, hPn⟩ := hI
        rw [List.length_map, List.take_length] at hPn
        have hP0 : 0 < P.natAbs := by
          rw [hPn]
          exact prodN_pos hnat.1
        rw [← hPn] at hdue1
        walk_at "go"
        refine ev_call ?_
        walk_at "ev"
        refine fun R hR => ⟨b, P, rfl, by omega, by omega, by omega, fun r t hr0 hr hPr => hR _ _ ?_⟩
        clear hR
        walk_at "ev"
        refine ev_call ?_
        walk_at "ev"
        refine fun R hR => ⟨b, f, rfl, by omega, by omega, by omega, hR _ _ ?_⟩
        clear hR
        walk_at "ev"
        obtain ⟨rn, rfl⟩ := Int.eq_ofNat_of_zero_le (show 0 ≤ r by omega)
        obtain ⟨h1, h2⟩ := core_of hb2 hr hPr
        rw [keepN_core hb2 hP0 h1 h2] at hdue1
        have e3 : decide (decide ((rn : Int) < (b : Int) ^ f) = r2) = true := by
          cases h : r2
          · have h3 : ¬ rn < b ^ f := fun z => by rw [hdue1.mpr z] at h; cases h
            rw [show decide ((rn : Int) < (b : Int) ^ f) = false from decide_eq_false fun z => h3 (by exact_mod_cast z)]
            rfl
          · have h3 := hdue1.mp h
            rw [show decide ((rn : Int) < (b : Int) ^ f) = true from decide_eq_true (by exact_mod_cast h3)]
            rfl
        rw [e3]
        exact k

theorem ok_law_refused {f : Addr} {fd : FuncData} (F : Fun K "_law_refused" "_law_refused" s_law_refused f fd) (nb : NB mg bnames) (Fbad_lot : FdX P w K mg base "bad_lot" 6 ["base", "figures", "numbers"] (spbad_lot K mg)) (Fproducts_exact : FdX P w K mg base "products_exact" 7 ["base", "figures", "numbers"] (spproducts_exact K mg)) (Fshares : FdX P w K mg base "shares" 5 ["base", "numbers"] (spshares K mg))   {CU : Addr} (U : UnfitC K mg CU) : FnOk P w K mg base CX0 8 f fd ["base", "figures", "numbers", "way"] (sp_law_refused K) := by
  refine F.ok sc_law_refused (fun vs H Q E h => ?_) (fun cdv A outer s H vs Q E hr h => ?_)
  · obtain ⟨dk, Γ, Δ, as, hS, hE, b, f, ns, w, rfl, _⟩ := h
    exact hE.len

  · obtain ⟨dk, Γ, Δ, as, hS, hE, b, f, ns, w, rfl, b1, b2, hf, hN, hsq, k⟩ := h
    refine ⟨_, (pss_one (ps_try_only rfl rfl ⟨rfl, by decide, Or.inl U.g⟩ takes0 (fun W pn xe tk po => (pss_cons (ps_if (pt_cmpR op_eq (pv 3) pe_int (nomark _)) (pss_one (ps_ret (pe_lst (pa_cons (pe_fdX Fproducts_exact (hr.mono (by decide)) (by rfl) (fun σ => passAt tk σ) (pa_cons (pv 0) (pa_cons (pv 1) (pa_cons (pv 2) pa_nil)))) pa_nil)))) pss_nil)
        (pss_cons (ps_if (pt_cmpR op_eq (pv 3) pe_int (nomark _)) (pss_one (ps_ret (pe_lst (pa_cons (pe_fdX Fshares (hr.mono (by decide)) (by rfl) (fun σ => passAt tk σ) (pa_cons (pv 0) (pa_cons (pv 2) pa_nil))) pa_nil)))) pss_nil)
        (pss_one (ps_ret (pe_lst (pa_cons (pe_fdX Fbad_lot (hr.mono (by decide)) (by rfl) (fun σ => passAt tk σ) (pa_cons (pv 0) (pa_cons (pv 1) (pa_cons (pv 2) pa_nil)))) pa_nil))))))) (fun a oe cls d pn hz hf => (pss_one (ps_ret (pe_lst (pa_cons pe_str pa_nil))))))), ?_⟩
    refine Do.go (X := ⟨K, dk, Δ⟩) (A := startA 4 _) ?_ .rfl' hS (rel_start hE)
    dsimp only [startA, cxOf]
    have bad : ∀ ps, Plain b ps → False := fun ps h => not_sq h hsq
    have cu : ∀ C, mg "Unfit" = some (.ref C) → C = CU := fun C hC => Value.ref.inj (Option.some.inj (hC.symm.trans U.g))
    refine do_at ?_
    refine do_un ?_
    refine do_ifS ?_
    walk_at "ev"
    refine ⟨fun e => ?_, fun e => ?_⟩
    · walk_at "go"
      refine ev_callX ?_
      walk_at "ev"
      refine fun R S hR hS => ⟨b, f, ns, rfl, b1, b2, hf, hN, fun ps hP => (bad ps hP).elim, fun _ C hC => hS _ _ ?_⟩
      obtain rfl := cu C hC
      refine xc_only U.e fun a => ?_
      walk_at "go"
      exact k
    walk_at "go"
    refine do_ifS ?_
    walk_at "ev"
    refine ⟨fun e => ?_, fun e => ?_⟩
    · walk_at "go"
      refine ev_callX ?_
      walk_at "ev"
      refine fun R S hR hS => ⟨b, ns, rfl, b1, b2, hN, fun ps hP => (bad ps hP).elim, fun _ C hC => hS _ _ ?_⟩
      obtain rfl := cu C hC
      refine xc_only U.e fun a => ?_
      walk_at "go"
      exact k
    walk_at "go"
    refine ev_callX ?_
    walk_at "ev"
    refine fun R S hR hS => ⟨b, f, ns, rfl, b1, b2, hf, hN, fun ps hP => (bad ps hP).elim, fun ps hP => (bad ps hP).elim, fun _ C hC => hS _ _ ?_⟩
    obtain rfl := cu C hC
    refine xc_only U.e fun a => ?_
    walk_at "go"
    exact k

theorem ok_law_are_refused {f : Addr} {fd : FuncData} (F : Fun K "_law_are_refused" "_law_are_refused" s_law_are_refused f fd) (nb : NB mg bnames) (F_law_draw : Fd P w K mg base "_law_draw" 1 ["deck", "many"] (sp_law_draw K)) (F_law_pick : Fd P w K mg base "_law_pick" 2 ["deck", "things"] (sp_law_pick K)) (F_law_refused : Fd P w K mg base "_law_refused" 8 ["base", "figures", "numbers", "way"] (sp_law_refused K)) (Fkeepable : Fd P w K mg base "keepable" 2 ["base", "figures", "number"] (spkeepable K))    : FnOk P w K mg base CX0 9 f fd ["deck"] (sp_law_are_refused K) := by
  refine F.ok sc_law_are_refused (fun vs H Q E h => ?_) (fun cdv A outer s H vs Q E hr h => ?_)
  · obtain ⟨dk, Γ, Δ, as, hS, hE, d, l, rfl, _⟩ := h
    exact hE.len

  · obtain ⟨dk, Γ, Δ, as, hS, hE, d, l, rfl, hd, k⟩ := h
    refine ⟨_, (pss_cons (ps_set (i := 1) sc_law_are_refused.nd rfl (.inr rfl) (pe_fd F_law_pick (hr.mono (by decide)) (by rfl) (pa_cons (pv 0) (pa_cons (pe_lst (pa_cons pe_int (pa_cons pe_int (pa_cons pe_int (pa_cons pe_int (pa_cons pe_int (pa_cons pe_int (pa_cons pe_int (pa_cons pe_int (pa_cons pe_int (pa_cons pe_int pa_nil))))))))))) pa_nil))))
        (pss_cons (ps_set (i := 2) sc_law_are_refused.nd rfl (.inl rfl) (pe_fd F_law_pick (hr.mono (by decide)) (by rfl) (pa_cons (pv 0) (pa_cons (pe_lst (pa_cons pe_int (pa_cons pe_int (pa_cons pe_int (pa_cons pe_int (pa_cons pe_int (pa_cons pe_int (pa_cons pe_int (pa_cons pe_int (pa_cons pe_int (pa_cons pe_int (pa_cons pe_int pa_nil)))))))))))) pa_nil))))
        (Evl.pss_cut (ps_if (pt_cmpR op_eq (pe_fd F_law_draw (hr.mono (by decide)) (by rfl) (pa_cons (pv 0) (pa_cons pe_int pa_nil))) pe_int (nomark _)) (pss_one (ps_set (i := 1) sc_law_are_refused.nd rfl (.inr rfl) (pe_op op_mulX (pe_op op_mulX (pv 2) (pv 2)) (pe_op op_add pe_int (pe_fd F_law_draw (hr.mono (by decide)) (by rfl) (pa_cons (pv 0) (pa_cons (pe_op op_fdivW pe_int (pe_op op_mulX (pv 2) (pv 2))) pa_nil))))))) pss_nil)
        (pss_cons (ps_set (i := 3) sc_law_are_refused.nd rfl (.inr rfl) (pe_fd F_law_pick (hr.mono (by decide)) (by rfl) (pa_cons (pv 0) (pa_cons (pe_lst (pa_cons (pe_tup pa_nil) (pa_cons (pe_tup (pa_cons pe_int pa_nil)) (pa_cons (pe_tup (pa_cons (pv 1) pa_nil)) (pa_cons (pe_tup (pa_cons pe_int (pa_cons pe_int (pa_cons (pe_un un_neg pe_int) pa_nil)))) (pa_cons (pe_op op_repA (pe_tup (pa_cons (pe_op op_powW pe_int pe_int) pa_nil)) pe_int) pa_nil)))))) pa_nil))))
        (pss_cons (ps_setLc (i := 4) (own := [("way", 5)]) (by rfl) sc_law_are_refused.nd rfl rfl (sw_true rfl rfl rfl (by decide +kernel)) (pi_range1 (by rfl) (nb "range" rfl) (pa_cons pe_int pa_nil)) (blkOk_by (own := [("way", 5)]) (N := ["deck", "base", "prime", "numbers", "told", "way"]) (sc := defScope s_law_are_refused) (by decide +kernel)) (fun _ _ _ _ _ => by exact (pg_name (i := 5) sc_law_are_refused.nd rfl (.inl rfl))) (fun _ _ _ _ _ => by exact pts_nil) (fun _ _ _ _ _ => by exact (pe_fd F_law_refused (hr.mono (by decide)) (by rfl) (pa_cons (pv 1) (pa_cons (pe_op op_add pe_int (pe_fd F_law_draw (hr.mono (by decide)) (by rfl) (pa_cons (pv 0) (pa_cons pe_int pa_nil)))) (pa_cons (pv 3) (pa_cons (pv 5) pa_nil)))))))
        (pss_one (ps_ret (pe_and (pe_cmpR (op_eqD hr.units) (pv 4) (pe_op op_rep (pe_lst (pa_cons (pe_lst (pa_cons pe_str pa_nil)) pa_nil)) pe_int) (nomark _)) (pe_and (pe_cmpR op_isBl (pe_fd Fkeepable (hr.mono (by decide)) (by rfl) (pa_cons (pv 1) (pa_cons pe_int (pa_cons (pe_op op_mulX (pv 1) (pv 1)) pa_nil)))) pe_bl (nomark _)) (pe_one (pe_cmpR op_isBl (pe_fd Fkeepable (hr.mono (by decide)) (by rfl) (pa_cons (pv 1) (pa_cons pe_int (pa_cons (pe_op op_add (pv 1) pe_int) pa_nil)))) pe_bl (nomark _)))))))))))), ?_⟩
    refine Do.go (X := ⟨K, dk, Δ⟩) (A := startA 6 _) ?_ .rfl' hS (rel_start hE)
    dsimp only [startA, cxOf]
    walk_at "go"
    refine ev_pick ?_
    walk_at "ev"
    refine ⟨_, l, _, rfl, hd, by simp, (by show 10 ≤ 10000; decide), fun x hx => ?_⟩
    obtain ⟨b0, rfl, b01, b02, hsq0⟩ : ∃ b : Nat, x = .int (b : Int) ∧ 2 ≤ b ∧ b ≤ 1000 ∧ Sq b := by
      have p2 : Pr 2 := pr_dec rfl
      have p3 : Pr 3 := pr_dec rfl
      have p5 : Pr 5 := pr_dec rfl
      have p7 : Pr 7 := pr_dec rfl
      have p31 : Pr 31 := pr_dec rfl
      have p11 : Pr 11 := pr_dec rfl
      simp only [List.mem_cons, List.not_mem_nil, or_false] at hx
      rcases hx with rfl | rfl | rfl | rfl | rfl | rfl | rfl | rfl | rfl | rfl
      · exact ⟨4, rfl, by decide, by decide, 2, p2, by decide⟩
      · exact ⟨8, rfl, by decide, by decide, 2, p2, by decide⟩
      · exact ⟨9, rfl, by decide, by decide, 3, p3, by decide⟩
      · exact ⟨12, rfl, by decide, by decide, 2, p2, by decide⟩
      · exact ⟨18, rfl, by decide, by decide, 3, p3, by decide⟩
      · exact ⟨49, rfl, by decide, by decide, 7, p7, by decide⟩
      · exact ⟨100, rfl, by decide, by decide, 2, p2, by decide⟩
      · exact ⟨961, rfl, by decide, by decide, 31, p31, by decide⟩
      · exact ⟨968, rfl, by decide, by decide, 2, p2, by decide⟩
      · exact ⟨1000, rfl, by decide, by decide, 2, p2, by decide⟩
    clear hx
    walk_at "go"
    refine ev_pick ?_
    walk_at "ev"
    refine ⟨_, l, _, rfl, hd, by simp, (by show 11 ≤ 10000; decide), fun x hx => ?_⟩
    obtain ⟨p, rfl, hp, p31⟩ : ∃ p : Nat, x = .int (p : Int) ∧ Pr p ∧ p ≤ 31 := by
      simp only [List.mem_cons, List.not_mem_nil, or_false] at hx
      rcases hx with rfl | rfl | rfl | rfl | rfl | rfl | rfl | rfl | rfl | rfl | rfl
      · exact ⟨2, rfl, pr_dec rfl, by decide⟩
      · exact ⟨3, rfl, pr_dec rfl, by decide⟩
      · exact ⟨5, rfl, pr_dec rfl, by decide⟩
      · exact ⟨7, rfl, pr_dec rfl, by decide⟩
      · exact ⟨11, rfl, pr_dec rfl, by decide⟩
      · exact ⟨13, rfl, pr_dec rfl, by decide⟩
      · exact ⟨17, rfl, pr_dec rfl, by decide⟩
      · exact ⟨19, rfl, pr_dec rfl, by decide⟩
      · exact ⟨23, rfl, pr_dec rfl, by decide⟩
      · exact ⟨29, rfl, pr_dec rfl, by decide⟩
      · exact ⟨31, rfl, pr_dec rfl, by decide⟩
    clear hx
    walk_at "go"
    refine do_cut (fun A Γ1 => ∃ b : Nat, A = [some (.ref d), some (dI (b : Int)), some (dI (p : Int)), none, none, none] ∧ Γ1 = Γ ∧ 2 ≤ b ∧ b ≤ 1000 ∧ Sq b) ?_ ?_
    · refine do_if (evt_test ?_)
      walk_at "ev"
      refine ev_draw ?_
      walk_at "ev"
      refine ⟨_, l, _, rfl, hd, by decide, by decide +kernel, fun r2 r21 r22 => ?_⟩
      walk_at "ev"
      refine ⟨fun e1 => ?_, fun e1 => ?_⟩
      · have hpp : 4 ≤ p * p := Nat.mul_le_mul hp.1 hp.1
        have hpq : p * p ≤ 31 * 31 := Nat.mul_le_mul p31 p31
        have e1' : (p : Int) * (p : Int) = ((p * p : Nat) : Int) := (Int.natCast_mul p p).symm
        have hdv : CDivW 1000 ((p : Int) * (p : Int)) := divw_dec (by omega) (by omega)
        walk_at "go"
        refine ev_draw ?_
        walk_at "ev"
        have hq1 : 1 ≤ 1000 / (p * p) := Nat.div_pos (by omega) (by omega)
        have hq2 : 1000 / (p * p) * (p * p) ≤ 1000 := Nat.div_mul_le_self ..
        have e2 : (1000 : Int) / ((p : Int) * (p : Int)) = ((1000 / (p * p) : Nat) : Int) := by rw [e1']; rfl
        rw [e2]
        refine ⟨_, l, _, rfl, hd, by omega, small8000 (by have := Nat.div_le_self 1000 (p * p); omega), fun r3 r31 r32 => ?_⟩
        obtain ⟨r, rfl⟩ := Int.eq_ofNat_of_zero_le r31
        have hr : 1 + r ≤ 1000 / (p * p) := by omega
        have hb : p * p * (1 + r) ≤ 1000 := by
          have := Nat.mul_le_mul_left (p * p) hr
          rw [Nat.mul_comm (p * p) (1000 / (p * p))] at this
          omega
        have hb2 : p * p * 1 ≤ p * p * (1 + r) := Nat.mul_le_mul_left _ (by omega)
        have hq3 := Nat.div_le_self 1000 (p * p)
        have hm : CMulX ((p : Int) * (p : Int)) (1 + (r : Int)) := mulx_dec (by omega) (by omega) (by omega) (by omega)
        walk_at "ev"
        exact fin_nx ⟨p * p * (1 + r), by rw [e1', ← Int.natCast_one, ← Int.natCast_add, ← Int.natCast_mul], rfl, by omega, hb, p, hp, Nat.dvd_mul_right ..⟩
      · walk_at "go"
        exact fin_nx ⟨b0, rfl, rfl, b01, b02, hsq0⟩
    rintro _ _ ⟨b, rfl, rfl, b1, b2, hsq⟩
    walk_at "go"
    refine ev_pick ?_
    walk_at "ev"
    refine op_repT1 (by decide) (by decide) ?_
    walk_at "ev"
    refine ⟨_, l, _, rfl, hd, by simp, (by show 5 ≤ 10000; decide), fun x hx => ?_⟩
    obtain ⟨ns, rfl, hN⟩ : ∃ ns, x = intsT ns ∧ OkN ns := by
      have e3 : (1000 : Nat) ≤ 10 ^ 60 := by decide
      simp only [List.mem_cons, List.not_mem_nil, or_false] at hx
      rcases hx with rfl | rfl | rfl | rfl | rfl
      · exact ⟨[], rfl, by decide, fun n hn => nomatch hn⟩
      · exact ⟨[1], rfl, by decide, fun n hn => by rw [List.mem_singleton.mp hn]; decide⟩
      · exact ⟨[(b : Int)], rfl, (by show 1 ≤ 40; decide), fun n hn => by rw [List.mem_singleton.mp hn]; omega⟩
      · exact ⟨[3, 5, -7], rfl, by decide, fun n hn => by
          simp only [List.mem_cons, List.not_mem_nil, or_false] at hn
          rcases hn with rfl | rfl | rfl <;> decide⟩
      · exact ⟨List.replicate 40 (10 ^ 60), by unfold intsT; rw [List.map_replicate]; rfl, by rw [List.length_replicate]; exact Nat.le_refl _, fun n hn => by rw [(List.mem_replicate.mp hn).2]; decide⟩
    clear hx
    walk_at "go"
    refine ev_lc (.name (by decide)) (evi_R ?_)
    walk_at "ev"
    refine ⟨by decide, by decide, fun j acc => acc = List.replicate j (PyData.list [.str "unfit"]), by decide, rfl, fun p B2 j dd acc hB2 hdd hI hjl => ?_, fun acc hI hjl => ?_⟩
    · obtain rfl := hI
      obtain ⟨hi, rfl⟩ := range_is hdd
      walk_at "ev"
      unfold Turn1
      refine evt_yes ?_
      refine ⟨rfl, fun _ => ?_, fun e => (nomatch e)⟩
      walk_at "ev"
      refine ev_call ?_
      walk_at "ev"
      refine ev_draw ?_
      walk_at "ev"
      refine ⟨_, l, _, rfl, hd, by decide, by decide +kernel, fun r2 r21 r22 => ?_⟩
      walk_at "ev"
      refine fun R hR => ⟨b, (1 + r2).toNat, ns, _, by congr 2; simp; omega, b1, b2, by omega, hN, hsq, hR _ _ ⟨rfl, _, rfl, ?_⟩⟩
      rw [List.replicate_succ']
    obtain rfl := hI
    rw [show (rangeD 0 (Int.toNat 3)).length = 3 from rfl]
    refine do_ret (ev_andV (ev_op (ev_var rfl (ev_op (ev_lstM ?_)))))
    walk_at "ev"
    intro q
    walk_at "ev"
    refine op_repDrop .here (by decide) (by decide) (by decide) ?_
    refine op_eqD2 (lay_list (lay_unf 3)) (lay_list (lay_unf 3)) ?_
    have e : PyData.eqv (.list (List.replicate 3 (.list [.str "unfit"]))) (.list (List.replicate (Int.toNat 3) [PyData.list [.str "unfit"]]).flatten) = true := by decide
    rw [e]
    walk_at "ev"
    refine ⟨fun _ => ?_, fun z => nomatch z⟩
    have hbb : CMulX (b : Int) (b : Int) := mulx_dec (by omega) (by omega) (by omega) (by omega)
    refine ev_andV ?_
    walk_at "ev"
    refine ev_call ?_
    walk_at "ev"
    refine fun R hR => ⟨b, 1, _, rfl, by omega, by omega, by decide, fun z hz => hR _ _ ?_⟩
    clear hR
    have hz : z = true := hz.mpr ⟨1, 2, by rw [Int.one_mul, Int.pow_succ, Int.pow_succ, Int.pow_zero, Int.one_mul], by rw [Int.pow_succ, Int.pow_zero, Int.one_mul]; show ((1 : Nat) : Int) < (b : Int); omega⟩
    subst hz
    walk_at "ev"
    refine ⟨fun _ => ?_, fun z => nomatch z⟩
    walk_at "ev"
    refine ev_call ?_
    walk_at "ev"
    refine fun R hR => ⟨b, 1, _, rfl, by omega, by omega, by decide, fun z hz => hR _ _ ?_⟩
    clear hR
    have hm : ((b : Int) + 1) % (b : Int) ≠ 0 := by
      rw [Int.add_emod, Int.emod_self, Int.zero_add, Int.emod_emod]
      rw [Int.emod_eq_of_lt (by decide) (by omega)]
      decide
    have hk : ¬ Keep (b : Int) 1 ((b : Int) + 1) := fun h => by
      have := (keep_strip (by omega) (.inr ⟨by omega, hm, 0, by rw [Int.pow_zero, Int.mul_one]⟩)).mp h
      rw [Int.pow_succ, Int.pow_zero, Int.one_mul] at this
      omega
    have hz : z = false := by
      cases z
      · rfl
      · exact absurd (hz.mp rfl) hk
    subst hz
    walk_at "ev"
    exact k

theorem oklaw {f : Addr} {fd : FuncData} (F : Fun K "law" "law" slaw f fd) (nb : NB mg bnames) (F_law_are_refused : Fd P w K mg base "_law_are_refused" 9 ["deck"] (sp_law_are_refused K)) (F_law_deck : Fd P w K mg base "_law_deck" 1 ["script"] (sp_law_deck K)) (F_law_draw : Fd P w K mg base "_law_draw" 1 ["deck", "many"] (sp_law_draw K)) (F_law_is_due : Fd P w K mg base "_law_is_due" 3 ["base", "figures", "numbers"] (sp_law_is_due K)) (F_law_is_told : FdG P w K mg base "_law_is_told" 8 ["base", "figures", "numbers"] (sp_law_is_told K)) (F_law_many : Fd P w K mg base "_law_many" 3 ["deck", "base", "top"] (sp_law_many K)) (F_law_numbers : Fd P w K mg base "_law_numbers" 4 ["deck", "base", "top"] (sp_law_numbers K)) (F_law_pick : Fd P w K mg base "_law_pick" 2 ["deck", "things"] (sp_law_pick K)) (F_law_plain : Fd P w K mg base "_law_plain" 3 ["deck"] (sp_law_plain K)) (F_law_power : Fd P w K mg base "_law_power" 1 ["base", "times"] (sp_law_power K)) (Fproducts_exact : FdX P w K mg base "products_exact" 7 ["base", "figures", "numbers"] (spproducts_exact K mg))   (hdg2 : PySem.W.nsIn K cStatics "sys.int_max_str_digits" = some none) : FnG P w K mg base 10 f fd ["script"] (splaw K) := by
  refine okG F sclaw (fun vs H Q E h => ?_) (fun cdv A outer s H vs Q E hg hr h => ?_)
  · obtain ⟨a, ns, rfl, _⟩ := h
    rfl
  · obtain ⟨a0, ns0, rfl, hS, hlen, q⟩ := h
    refine ⟨_, (pss_cons (ps_set (i := 1) sclaw.nd rfl (.inr rfl) (pe_fd F_law_deck (hr.mono (by decide)) (by rfl) (pa_cons (pv 0) pa_nil)))
        (pss_cons (ps_for PassesOwn.never rfl (pi_range1 (by rfl) (nb "range" rfl) (pa_cons pe_int pa_nil)) (pg_name (i := 2) sclaw.nd rfl (.inl rfl))
        (pss_cons (ps_par (by rfl) (i := 3) (j := 4) sclaw.nd rfl rfl (by decide) rfl rfl (pa_cons (pe_fd F_law_plain (hr.mono (by decide)) (by rfl) (pa_cons (pv 1) pa_nil)) (pa_cons (pe_fd F_law_pick (hr.mono (by decide)) (by rfl) (pa_cons (pv 1) (pa_cons (pe_lst (pa_cons pe_int (pa_cons pe_int (pa_cons pe_int (pa_cons pe_int (pa_cons (pe_op op_add pe_int (pe_fd F_law_draw (hr.mono (by decide)) (by rfl) (pa_cons (pv 1) (pa_cons pe_int pa_nil)))) pa_nil)))))) pa_nil))) pa_nil)) (by rfl))
        (pss_cons (ps_set (i := 5) sclaw.nd rfl (.inl rfl) (pe_fd F_law_numbers (hr.mono (by decide)) (by rfl) (pa_cons (pv 1) (pa_cons (pv 3) (pa_cons (pe_fd F_law_power (hr.mono (by decide)) (by rfl) (pa_cons (pv 3) (pa_cons (pv 4) pa_nil))) pa_nil)))))
        (Evl.pss_cut (ps_if (PW.pt (pw_and (pt_cmpR op_eq (pv 2) pe_int (nomark _)) (pw_and1 (pt_cmpR op_eq (pe_fd F_law_draw (hr.mono (by decide)) (by rfl) (pa_cons (pv 1) (pa_cons pe_int pa_nil))) pe_int (nomark _))))) (pss_cons (ps_set (i := 4) sclaw.nd rfl (.inl rfl) (pe_ifExp (pt_cmpR op_lt (pv 3) pe_int (nomark _)) pe_int (pe_op op_add pe_int (pe_fd F_law_draw (hr.mono (by decide)) (by rfl) (pa_cons (pv 1) (pa_cons pe_int pa_nil))))))
        (pss_one (ps_set (i := 5) sclaw.nd rfl (.inl rfl) (pe_fd F_law_many (hr.mono (by decide)) (by rfl) (pa_cons (pv 1) (pa_cons (pv 3) (pa_cons (pe_fd F_law_power (hr.mono (by decide)) (by rfl) (pa_cons (pv 3) (pa_cons (pv 4) pa_nil))) pa_nil))))))) pss_nil)
        (pss_cons (ps_set (i := 6) sclaw.nd rfl (.inl rfl) (pe_callB (call_reprZ hg (by have := hr.units; exact this) hdg2) (by rfl) (nb "repr" rfl) (by decide +kernel) (pa_cons (pv 5) pa_nil)))
        (pss_cons (ps_if (PW.pt (pw_or (pt_not (pt_val (pe_fdG F_law_is_told hg (hr.mono (by decide)) (by rfl) (pa_cons (pv 3) (pa_cons (pv 4) (pa_cons (pv 5) pa_nil)))))) (pw_or1 (pt_cmpR op_ne (pe_callB (call_reprZ hg (by have := hr.units; exact this) hdg2) (by rfl) (nb "repr" rfl) (by decide +kernel) (pa_cons (pv 5) pa_nil)) (pv 6) (nomark _))))) (pss_one (ps_ret pe_bl)) pss_nil)
        (pss_cons (ps_set (i := 7) sclaw.nd rfl (.inl rfl) (pe_callTy call_tuple_of (by rfl) (nb "tuple" rfl) (by decide +kernel) (pa_cons (pe_lc (own := [("number", 8)]) (by rfl) sclaw.nd (pi_tup (pv 5)) (blkOk_by (own := [("number", 8)]) (N := ["script", "deck", "turn", "base", "figures", "numbers", "known", "some", "number"]) (sc := defScope slaw) (by decide +kernel)) (fun _ _ _ _ _ => by exact (pg_name (i := 8) sclaw.nd rfl (.inl rfl))) (fun _ _ _ _ _ => by exact (pts_one (pt_cmpR op_eq (pe_fd F_law_draw (hr.mono (by decide)) (by rfl) (pa_cons (pv 1) (pa_cons pe_int pa_nil))) pe_int (nomark _)))) (fun _ _ _ _ _ => by exact (pv 8))) pa_nil)))
        (pss_one (ps_if (PW.pt (pw_and (pt_val (pe_fd F_law_is_due (hr.mono (by decide)) (by rfl) (pa_cons (pv 3) (pa_cons (pv 4) (pa_cons (pv 5) pa_nil))))) (pw_and1 (pt_cmpR op_notBl (pe_fdX (E := fun _ _ _ _ => False) Fproducts_exact (hr.mono (by decide)) (by rfl) (fun σ => passes_no σ) (pa_cons (pv 3) (pa_cons (pv 4) (pa_cons (pv 7) pa_nil)))) pe_bl (nomark _))))) (pss_one (ps_ret pe_bl)) pss_nil)))))))))
        (pss_one (ps_ret (pe_fd F_law_are_refused (hr.mono (by decide)) (by rfl) (pa_cons (pv 1) pa_nil)))))), ?_⟩
    refine go_set ⟨_, rfl, a0, ns0, rfl, hS, hlen, fun H1 d l hS1 => ?_⟩
    try dsimp only [L2.start]
    refine Do.go (X := ⟨K, some (d, l), []⟩) (A := [none, some (.ref d), none, none, none, none, none, none, none]) (Γ := []) ?_ .rfl' hS1 (.cons trivial (.cons ⟨_, rfl, rfl⟩ (rel_rep _)))
    try dsimp only [cxOf]
    refine do_seq (do_forI ?_)
    walk_at "ev"
    refine ⟨by decide, by decide, fun i A Γ => (∃ (a b c e f g h : Option AV), A = [none, some (.ref d), a, b, c, e, f, g, h]) ∧ Γ = [], ⟨⟨_, _, _, _, _, _, _, rfl⟩, rfl⟩, fun _ _ _ _ => trivial, fun B i dd A Γ _ hd hI => ?_, fun A Γ hI => ?_⟩
    · obtain ⟨⟨a1, a2, a3, a4, a5, a6, a7, rfl⟩, rfl⟩ := hI
      obtain ⟨hi, rfl⟩ := range_is hd
      walk_at "go"
      refine ev_call ?_
      walk_at "ev"
      refine fun R hR => ⟨d, l, rfl, rfl, fun b ps hP hb2 hb => hR _ _ ?_⟩
      clear hR
      walk_at "ev"
      refine ev_pick ?_
      walk_at "ev"
      refine ev_draw ?_
      walk_at "ev"
      refine ⟨_, l, _, rfl, rfl, by decide, by decide +kernel, fun r0 r01 r02 => ?_⟩
      walk_at "ev"
      refine ⟨_, l, _, rfl, rfl, by simp, (by show 5 ≤ 10000; decide), fun x hx => ?_⟩
      obtain ⟨f0, rfl, f01, f02⟩ : ∃ f : Nat, x = .int (f : Int) ∧ 1 ≤ f ∧ f ≤ 60 := by
        simp only [List.mem_cons, List.not_mem_nil, or_false] at hx
        rcases hx with rfl | rfl | rfl | rfl | rfl
        · exact ⟨1, rfl, by decide, by decide⟩
        · exact ⟨2, rfl, by decide, by decide⟩
        · exact ⟨3, rfl, by decide, by decide⟩
        · exact ⟨10, rfl, by decide, by decide⟩
        · exact ⟨(1 + r0).toNat, by rw [Int.toNat_of_nonneg (by omega)], by omega, by omega⟩
      clear hx
      have top : ∀ f : Nat, 1 ≤ f → f ≤ 60 → 2 ≤ (b : Int) ^ f ∧ (b : Int) ^ f ≤ 10 ^ 180 := fun f h1 h2 => by
        have e1 : b ^ 1 ≤ b ^ f := Nat.pow_le_pow_right (by omega) h1
        have e2 : b ^ f ≤ 1000 ^ 60 := Nat.le_trans (Nat.pow_le_pow_left hb f) (Nat.pow_le_pow_right (by decide) h2)
        have e3 : (1000 : Nat) ^ 60 = 10 ^ 180 := by decide +kernel
        rw [Nat.pow_one] at e1
        rw [e3] at e2
        rw [← Int.natCast_pow]
        constructor
        · omega
        · exact_mod_cast e2
      walk_at "go"
      refine ev_call ?_
      walk_at "ev"
      refine ev_call ?_
      walk_at "ev"
      refine fun R hR => ⟨b, f0, rfl, by omega, by omega, by omega, hR _ _ ?_⟩
      clear hR
      walk_at "ev"
      refine fun R hR => ⟨d, l, b, ps, _, rfl, rfl, hP, hb2, hb, (top f0 f01 f02).1, (top f0 f01 f02).2, fun ns hN => hR _ _ ?_⟩
      clear hR
      walk_at "go"
      refine do_cut (fun A Γ => ∃ (f : Nat) (ns : List Int), A = [none, some (.ref d), some (dI (0 + (i : Nat))), some (dI (b : Int)), some (dI (f : Int)), some (.dat (intsT ns)), a5, a6, a7] ∧ Γ = [] ∧ 1 ≤ f ∧ f ≤ 60 ∧ OkN ns) ?_ ?_
      · refine do_if (evt_andJ (fun z Γ1 => Γ1 = []) (evt_test ?_) ?_)
        · walk_at "ev"
          refine ⟨fun e => ?_, fun _ => rfl⟩
          refine evt_test ?_
          walk_at "ev"
          refine ev_draw ?_
          walk_at "ev"
          refine ⟨_, l, _, rfl, rfl, by decide, by decide +kernel, fun r1 r11 r12 => ?_⟩
          walk_at "ev"
        rintro z _ rfl
        refine ⟨fun e => ?_, fun e => ?_⟩
        · walk_at "go"
          refine ev_ifJ (fun a Γ1 => Γ1 = [] ∧ ∃ f : Nat, a = dI (f : Int) ∧ 1 ≤ f ∧ f ≤ 60) (evt_test ?_) ?_
          · walk_at "ev"
            refine ⟨fun e => ?_, fun e => ?_⟩
            · walk_at "ev"
              exact ⟨rfl, 60, rfl, by decide, by decide⟩
            · walk_at "ev"
              refine ev_draw ?_
              walk_at "ev"
              refine ⟨_, l, _, rfl, rfl, by decide, by decide +kernel, fun r1 r11 r12 => ?_⟩
              walk_at "ev"
              exact ⟨rfl, (30 + r1).toNat, by rw [Int.toNat_of_nonneg (by omega)], by omega, by omega⟩
          rintro _ _ ⟨rfl, f, rfl, f1, f2⟩
          walk_at "go"
          refine ev_call ?_
          walk_at "ev"
          refine ev_call ?_
          walk_at "ev"
          refine fun R hR => ⟨b, f, rfl, by omega, by omega, by omega, hR _ _ ?_⟩
          clear hR
          walk_at "ev"
          refine fun R hR => ⟨d, l, b, ps, _, rfl, rfl, hP, hb2, hb, (top f f1 f2).1, (top f f1 f2).2, fun ms hM => hR _ _ ?_⟩
          clear hR
          exact fin_nx ⟨f, ms, rfl, rfl, f1, f2, hM⟩
        · walk_at "go"
          exact fin_nx ⟨f0, ns, rfl, rfl, f01, f02, hN⟩
      clear hN f01 f02
      rintro _ _ ⟨f, ns, rfl, rfl, f1, f2, hN⟩
      have hl40 := hN.1
      walk_at "go"
      refine cb_reprZ trivial (smz_nums hN) (by decide) (by decide) ?_
      walk_at "go"
      refine do_ifF (evt_orF (evt_not (evt_B ?_)))
      refine ev_call ?_
      walk_at "ev"
      refine fun R hR => ⟨b, f, ps, ns, rfl, hP, hb2, hb, f2, hN, hR _ _ ⟨true, rfl, rfl, ?_⟩⟩
      clear hR
      refine evt_test ?_
      walk_at "ev"
      refine cb_reprZ trivial (smz_nums hN) (by decide) (by decide) ?_
      walk_at "ev"
      refine ⟨by simp, ?_⟩
      walk_at "go"
      refine ev_lc (.name (List.mem_cons_self ..)) (evi_T ?_)
      walk_at "ev"
      refine ⟨fun j acc => ∃ os : List Int, acc = os.map PyData.int ∧ os.Sublist (ns.take j), by rw [List.length_map]; omega, ⟨[], rfl, .slnil⟩, fun p B2 j dd acc hB2 hdd hI hjl => ?_, fun acc hI hjl => ?_⟩
      · obtain ⟨os, rfl, hos⟩ := hI
        rw [List.getElem?_map] at hdd
        obtain ⟨n, hn, rfl⟩ := Option.map_eq_some_iff.mp hdd
        walk_at "ev"
        unfold Turn1
        refine evt_test ?_
        walk_at "ev"
        refine ev_draw ?_
        walk_at "ev"
        refine ⟨_, l, _, rfl, rfl, by decide, by decide +kernel, fun r1 r11 r12 => ?_⟩
        walk_at "ev"
        refine ⟨rfl, fun _ => ?_, fun e => ?_⟩
        · walk_at "ev"
          refine ⟨rfl, _, rfl, os ++ [n], by rw [List.map_append]; rfl, ?_⟩
          rw [List.take_add_one, hn]
          exact hos.append (List.Sublist.refl _)
        · refine ⟨os, rfl, ?_⟩
          rw [List.take_add_one, hn]
          exact hos.trans (List.sublist_append_left ..)
      obtain ⟨os, rfl, hos⟩ := hI
      rw [List.length_map, List.take_length] at hos
      have hO : OkN os := ⟨Nat.le_trans hos.length_le hN.1, fun n hn => hN.2 n (hos.subset hn)⟩
      walk_at "go"
      refine do_ifFL (evt_andJ (fun z Γ1 => z = false ∧ Γ1 = []) (evt_B ?_) ?_)
      · refine ev_call ?_
        walk_at "ev"
        refine fun R hR => ⟨b, f, ps, ns, rfl, hP, hb2, hb, f2, hN, fun r hr => hR _ _ ⟨r, rfl, fun e => ?_, fun _ => ⟨rfl, rfl⟩⟩⟩
        clear hR
        have hall := hr.mp e
        have hall2 : ∀ p ∈ ps, Below b f os p := (lots_keep hP hb2 (okn_nat hO).1).mp fun L hL => (lots_keep hP hb2 (okn_nat hN).1).mpr hall L (hL.trans (hos.map _))
        refine evt_test ?_
        walk_at "ev"
        refine ev_callX ?_
        walk_at "ev"
        refine fun R S hR hS => ⟨b, f, os, rfl, hb2, hb, f2, hO, fun qs hQ r2 hr2 => hR _ _ ?_, fun hq => (not_sq hP hq).elim⟩
        clear hR hS
        obtain rfl := plain_eq hP hQ
        have : r2 = true := hr2.mpr hall2
        subst this
        walk_at "ev"
        exact ⟨rfl, rfl⟩
      rintro _ _ ⟨rfl, rfl⟩
      exact ⟨rfl, fin_nx ⟨⟨_, _, _, _, _, _, _, rfl⟩, rfl⟩⟩
    · obtain ⟨⟨a1, a2, a3, a4, a5, a6, a7, rfl⟩, rfl⟩ := hI
      refine fin_do ?_
      refine do_ret ?_
      refine ev_call ?_
      walk_at "ev"
      refine fun R hR => ⟨d, l, rfl, rfl, hR _ _ ?_⟩
      exact fun v H Δ sb hS ra => by obtain rfl := ra.isB hS; exact q H

end
theorem all_mk {l : PySem.W.OpenLaw} {w : World} {K : PySem.W.Frag} {h : Heap} {mg : Str → Option Value} {fa : Addr} (X : K.In h) (G : h.Ns mainGlobals mg) (hfa : mg "law" = some (.ref fa))
    {f0 : Addr} {od0 an0 : Option Addr} {sl0 : Array (Option Value)} {oc0 kV0 dc0 pm0 cd0 ct0 : Value}
    {f1 : Addr} {od1 an1 : Option Addr} {sl1 : Array (Option Value)} {oc1 kV1 dc1 pm1 cd1 ct1 : Value}
    {f2 : Addr} {od2 an2 : Option Addr} {sl2 : Array (Option Value)} {oc2 kV2 dc2 pm2 cd2 ct2 : Value}
    {f3 : Addr} {od3 an3 : Option Addr} {sl3 : Array (Option Value)} {oc3 kV3 dc3 pm3 cd3 ct3 : Value}
    {f4 : Addr} {od4 an4 : Option Addr} {sl4 : Array (Option Value)} {oc4 kV4 dc4 pm4 cd4 ct4 : Value}
    {f5 : Addr} {od5 an5 : Option Addr} {sl5 : Array (Option Value)} {oc5 kV5 dc5 pm5 cd5 ct5 : Value}
    {f6 : Addr} {od6 an6 : Option Addr} {sl6 : Array (Option Value)} {oc6 kV6 dc6 pm6 cd6 ct6 : Value}
    {f7 : Addr} {od7 an7 : Option Addr} {sl7 : Array (Option Value)} {oc7 kV7 dc7 pm7 cd7 ct7 : Value}
    {f8 : Addr} {od8 an8 : Option Addr} {sl8 : Array (Option Value)} {oc8 kV8 dc8 pm8 cd8 ct8 : Value}
    {f9 : Addr} {od9 an9 : Option Addr} {sl9 : Array (Option Value)} {oc9 kV9 dc9 pm9 cd9 ct9 : Value}
    {f10 : Addr} {od10 an10 : Option Addr} {sl10 : Array (Option Value)} {oc10 kV10 dc10 pm10 cd10 ct10 : Value}
    {f11 : Addr} {od11 an11 : Option Addr} {sl11 : Array (Option Value)} {oc11 kV11 dc11 pm11 cd11 ct11 : Value}
    {f12 : Addr} {od12 an12 : Option Addr} {sl12 : Array (Option Value)} {oc12 kV12 dc12 pm12 cd12 ct12 : Value}
    {f13 : Addr} {od13 an13 : Option Addr} {sl13 : Array (Option Value)} {oc13 kV13 dc13 pm13 cd13 ct13 : Value}
    {f14 : Addr} {od14 an14 : Option Addr} {sl14 : Array (Option Value)} {oc14 kV14 dc14 pm14 cd14 ct14 : Value}
    {f15 : Addr} {od15 an15 : Option Addr} {sl15 : Array (Option Value)} {oc15 kV15 dc15 pm15 cd15 ct15 : Value}
    {f16 : Addr} {od16 an16 : Option Addr} {sl16 : Array (Option Value)} {oc16 kV16 dc16 pm16 cd16 ct16 : Value}
    {f17 : Addr} {od17 an17 : Option Addr} {sl17 : Array (Option Value)} {oc17 kV17 dc17 pm17 cd17 ct17 : Value}
    {f18 : Addr} {od18 an18 : Option Addr} {sl18 : Array (Option Value)} {oc18 kV18 dc18 pm18 cd18 ct18 : Value}
    {f19 : Addr} {od19 an19 : Option Addr} {sl19 : Array (Option Value)} {oc19 kV19 dc19 pm19 cd19 ct19 : Value}
    {f20 : Addr} {od20 an20 : Option Addr} {sl20 : Array (Option Value)} {oc20 kV20 dc20 pm20 cd20 ct20 : Value}
    {f21 : Addr} {od21 an21 : Option Addr} {sl21 : Array (Option Value)} {oc21 kV21 dc21 pm21 cd21 ct21 : Value}
    {f22 : Addr} {od22 an22 : Option Addr} {sl22 : Array (Option Value)} {oc22 kV22 dc22 pm22 cd22 ct22 : Value}
    {f23 : Addr} {od23 an23 : Option Addr} {sl23 : Array (Option Value)} {oc23 kV23 dc23 pm23 cd23 ct23 : Value}
    {f24 : Addr} {od24 an24 : Option Addr} {sl24 : Array (Option Value)} {oc24 kV24 dc24 pm24 cd24 ct24 : Value}
    {f25 : Addr} {od25 an25 : Option Addr} {sl25 : Array (Option Value)} {oc25 kV25 dc25 pm25 cd25 ct25 : Value}
    {f26 : Addr} {od26 an26 : Option Addr} {sl26 : Array (Option Value)} {oc26 kV26 dc26 pm26 cd26 ct26 : Value}
    {f27 : Addr} {od27 an27 : Option Addr} {sl27 : Array (Option Value)} {oc27 kV27 dc27 pm27 cd27 ct27 : Value}
    {f28 : Addr} {od28 an28 : Option Addr} {sl28 : Array (Option Value)} {oc28 kV28 dc28 pm28 cd28 ct28 : Value}
    {f29 : Addr} {od29 an29 : Option Addr} {sl29 : Array (Option Value)} {oc29 kV29 dc29 pm29 cd29 ct29 : Value}
    {f30 : Addr} {od30 an30 : Option Addr} {sl30 : Array (Option Value)} {oc30 kV30 dc30 pm30 cd30 ct30 : Value}
    (a0 : PySem.W.nsIn K mainGlobals "power" = some (some (.ref f0))) (l0 : K.lookup f0 = some ⟨oc0, od0, .func (PySem.W.fnOf "power" "power" (defArgs spower) (defBody spower) (defScope spower) .none kV0 dc0 pm0 an0 cd0 ct0), sl0⟩) (c0 : PySem.W.codeIn K cd0 "power" = true) (k0 : PySem.W.keepIn K (.ref f0) = true)
    (a1 : PySem.W.nsIn K mainGlobals "goes" = some (some (.ref f1))) (l1 : K.lookup f1 = some ⟨oc1, od1, .func (PySem.W.fnOf "goes" "goes" (defArgs sgoes) (defBody sgoes) (defScope sgoes) .none kV1 dc1 pm1 an1 cd1 ct1), sl1⟩) (c1 : PySem.W.codeIn K cd1 "goes" = true) (k1 : PySem.W.keepIn K (.ref f1) = true)
    (a2 : PySem.W.nsIn K mainGlobals "stripped" = some (some (.ref f2))) (l2 : K.lookup f2 = some ⟨oc2, od2, .func (PySem.W.fnOf "stripped" "stripped" (defArgs sstripped) (defBody sstripped) (defScope sstripped) .none kV2 dc2 pm2 an2 cd2 ct2), sl2⟩) (c2 : PySem.W.codeIn K cd2 "stripped" = true) (k2 : PySem.W.keepIn K (.ref f2) = true)
    (a3 : PySem.W.nsIn K mainGlobals "keepable" = some (some (.ref f3))) (l3 : K.lookup f3 = some ⟨oc3, od3, .func (PySem.W.fnOf "keepable" "keepable" (defArgs skeepable) (defBody skeepable) (defScope skeepable) .none kV3 dc3 pm3 an3 cd3 ct3), sl3⟩) (c3 : PySem.W.codeIn K cd3 "keepable" = true) (k3 : PySem.W.keepIn K (.ref f3) = true)
    (a4 : PySem.W.nsIn K mainGlobals "primes_of" = some (some (.ref f4))) (l4 : K.lookup f4 = some ⟨oc4, od4, .func (PySem.W.fnOf "primes_of" "primes_of" (defArgs sprimes_of) (defBody sprimes_of) (defScope sprimes_of) .none kV4 dc4 pm4 an4 cd4 ct4), sl4⟩) (c4 : PySem.W.codeIn K cd4 "primes_of" = true) (k4 : PySem.W.keepIn K (.ref f4) = true)
    (a5 : PySem.W.nsIn K mainGlobals "divisor" = some (some (.ref f5))) (l5 : K.lookup f5 = some ⟨oc5, od5, .func (PySem.W.fnOf "divisor" "divisor" (defArgs sdivisor) (defBody sdivisor) (defScope sdivisor) .none kV5 dc5 pm5 an5 cd5 ct5), sl5⟩) (c5 : PySem.W.codeIn K cd5 "divisor" = true) (k5 : PySem.W.keepIn K (.ref f5) = true)
    (a6 : PySem.W.nsIn K mainGlobals "heavy_places" = some (some (.ref f6))) (l6 : K.lookup f6 = some ⟨oc6, od6, .func (PySem.W.fnOf "heavy_places" "heavy_places" (defArgs sheavy_places) (defBody sheavy_places) (defScope sheavy_places) .none kV6 dc6 pm6 an6 cd6 ct6), sl6⟩) (c6 : PySem.W.codeIn K cd6 "heavy_places" = true) (k6 : PySem.W.keepIn K (.ref f6) = true)
    (a7 : PySem.W.nsIn K mainGlobals "share" = some (some (.ref f7))) (l7 : K.lookup f7 = some ⟨oc7, od7, .func (PySem.W.fnOf "share" "share" (defArgs sshare) (defBody sshare) (defScope sshare) .none kV7 dc7 pm7 an7 cd7 ct7), sl7⟩) (c7 : PySem.W.codeIn K cd7 "share" = true) (k7 : PySem.W.keepIn K (.ref f7) = true)
    (a8 : PySem.W.nsIn K mainGlobals "shares" = some (some (.ref f8))) (l8 : K.lookup f8 = some ⟨oc8, od8, .func (PySem.W.fnOf "shares" "shares" (defArgs sshares) (defBody sshares) (defScope sshares) .none kV8 dc8 pm8 an8 cd8 ct8), sl8⟩) (c8 : PySem.W.codeIn K cd8 "shares" = true) (k8 : PySem.W.keepIn K (.ref f8) = true)
    (a9 : PySem.W.nsIn K mainGlobals "bad_lot" = some (some (.ref f9))) (l9 : K.lookup f9 = some ⟨oc9, od9, .func (PySem.W.fnOf "bad_lot" "bad_lot" (defArgs sbad_lot) (defBody sbad_lot) (defScope sbad_lot) .none kV9 dc9 pm9 an9 cd9 ct9), sl9⟩) (c9 : PySem.W.codeIn K cd9 "bad_lot" = true) (k9 : PySem.W.keepIn K (.ref f9) = true)
    (a10 : PySem.W.nsIn K mainGlobals "products_exact" = some (some (.ref f10))) (l10 : K.lookup f10 = some ⟨oc10, od10, .func (PySem.W.fnOf "products_exact" "products_exact" (defArgs sproducts_exact) (defBody sproducts_exact) (defScope sproducts_exact) .none kV10 dc10 pm10 an10 cd10 ct10), sl10⟩) (c10 : PySem.W.codeIn K cd10 "products_exact" = true) (k10 : PySem.W.keepIn K (.ref f10) = true)
    (a11 : PySem.W.nsIn K mainGlobals "_law_deck" = some (some (.ref f11))) (l11 : K.lookup f11 = some ⟨oc11, od11, .func (PySem.W.fnOf "_law_deck" "_law_deck" (defArgs s_law_deck) (defBody s_law_deck) (defScope s_law_deck) .none kV11 dc11 pm11 an11 cd11 ct11), sl11⟩) (c11 : PySem.W.codeIn K cd11 "_law_deck" = true) (k11 : PySem.W.keepIn K (.ref f11) = true)
    (a12 : PySem.W.nsIn K mainGlobals "_law_draw" = some (some (.ref f12))) (l12 : K.lookup f12 = some ⟨oc12, od12, .func (PySem.W.fnOf "_law_draw" "_law_draw" (defArgs s_law_draw) (defBody s_law_draw) (defScope s_law_draw) .none kV12 dc12 pm12 an12 cd12 ct12), sl12⟩) (c12 : PySem.W.codeIn K cd12 "_law_draw" = true) (k12 : PySem.W.keepIn K (.ref f12) = true)
    (a13 : PySem.W.nsIn K mainGlobals "_law_pick" = some (some (.ref f13))) (l13 : K.lookup f13 = some ⟨oc13, od13, .func (PySem.W.fnOf "_law_pick" "_law_pick" (defArgs s_law_pick) (defBody s_law_pick) (defScope s_law_pick) .none kV13 dc13 pm13 an13 cd13 ct13), sl13⟩) (c13 : PySem.W.codeIn K cd13 "_law_pick" = true) (k13 : PySem.W.keepIn K (.ref f13) = true)
    (a14 : PySem.W.nsIn K mainGlobals "_law_great" = some (some (.ref f14))) (l14 : K.lookup f14 = some ⟨oc14, od14, .func (PySem.W.fnOf "_law_great" "_law_great" (defArgs s_law_great) (defBody s_law_great) (defScope s_law_great) .none kV14 dc14 pm14 an14 cd14 ct14), sl14⟩) (c14 : PySem.W.codeIn K cd14 "_law_great" = true) (k14 : PySem.W.keepIn K (.ref f14) = true)
    (a15 : PySem.W.nsIn K mainGlobals "_law_power" = some (some (.ref f15))) (l15 : K.lookup f15 = some ⟨oc15, od15, .func (PySem.W.fnOf "_law_power" "_law_power" (defArgs s_law_power) (defBody s_law_power) (defScope s_law_power) .none kV15 dc15 pm15 an15 cd15 ct15), sl15⟩) (c15 : PySem.W.codeIn K cd15 "_law_power" = true) (k15 : PySem.W.keepIn K (.ref f15) = true)
    (a16 : PySem.W.nsIn K mainGlobals "_law_whole" = some (some (.ref f16))) (l16 : K.lookup f16 = some ⟨oc16, od16, .func (PySem.W.fnOf "_law_whole" "_law_whole" (defArgs s_law_whole) (defBody s_law_whole) (defScope s_law_whole) .none kV16 dc16 pm16 an16 cd16 ct16), sl16⟩) (c16 : PySem.W.codeIn K cd16 "_law_whole" = true) (k16 : PySem.W.keepIn K (.ref f16) = true)
    (a17 : PySem.W.nsIn K mainGlobals "_law_primes" = some (some (.ref f17))) (l17 : K.lookup f17 = some ⟨oc17, od17, .func (PySem.W.fnOf "_law_primes" "_law_primes" (defArgs s_law_primes) (defBody s_law_primes) (defScope s_law_primes) .none kV17 dc17 pm17 an17 cd17 ct17), sl17⟩) (c17 : PySem.W.codeIn K cd17 "_law_primes" = true) (k17 : PySem.W.keepIn K (.ref f17) = true)
    (a18 : PySem.W.nsIn K mainGlobals "_law_plain" = some (some (.ref f18))) (l18 : K.lookup f18 = some ⟨oc18, od18, .func (PySem.W.fnOf "_law_plain" "_law_plain" (defArgs s_law_plain) (defBody s_law_plain) (defScope s_law_plain) .none kV18 dc18 pm18 an18 cd18 ct18), sl18⟩) (c18 : PySem.W.codeIn K cd18 "_law_plain" = true) (k18 : PySem.W.keepIn K (.ref f18) = true)
    (a19 : PySem.W.nsIn K mainGlobals "_law_factor" = some (some (.ref f19))) (l19 : K.lookup f19 = some ⟨oc19, od19, .func (PySem.W.fnOf "_law_factor" "_law_factor" (defArgs s_law_factor) (defBody s_law_factor) (defScope s_law_factor) .none kV19 dc19 pm19 an19 cd19 ct19), sl19⟩) (c19 : PySem.W.codeIn K cd19 "_law_factor" = true) (k19 : PySem.W.keepIn K (.ref f19) = true)
    (a20 : PySem.W.nsIn K mainGlobals "_law_weight" = some (some (.ref f20))) (l20 : K.lookup f20 = some ⟨oc20, od20, .func (PySem.W.fnOf "_law_weight" "_law_weight" (defArgs s_law_weight) (defBody s_law_weight) (defScope s_law_weight) .none kV20 dc20 pm20 an20 cd20 ct20), sl20⟩) (c20 : PySem.W.codeIn K cd20 "_law_weight" = true) (k20 : PySem.W.keepIn K (.ref f20) = true)
    (a21 : PySem.W.nsIn K mainGlobals "_law_share" = some (some (.ref f21))) (l21 : K.lookup f21 = some ⟨oc21, od21, .func (PySem.W.fnOf "_law_share" "_law_share" (defArgs s_law_share) (defBody s_law_share) (defScope s_law_share) .none kV21 dc21 pm21 an21 cd21 ct21), sl21⟩) (c21 : PySem.W.codeIn K cd21 "_law_share" = true) (k21 : PySem.W.keepIn K (.ref f21) = true)
    (a22 : PySem.W.nsIn K mainGlobals "_law_is_due" = some (some (.ref f22))) (l22 : K.lookup f22 = some ⟨oc22, od22, .func (PySem.W.fnOf "_law_is_due" "_law_is_due" (defArgs s_law_is_due) (defBody s_law_is_due) (defScope s_law_is_due) .none kV22 dc22 pm22 an22 cd22 ct22), sl22⟩) (c22 : PySem.W.codeIn K cd22 "_law_is_due" = true) (k22 : PySem.W.keepIn K (.ref f22) = true)
    (a23 : PySem.W.nsIn K mainGlobals "_law_coprime" = some (some (.ref f23))) (l23 : K.lookup f23 = some ⟨oc23, od23, .func (PySem.W.fnOf "_law_coprime" "_law_coprime" (defArgs s_law_coprime) (defBody s_law_coprime) (defScope s_law_coprime) .none kV23 dc23 pm23 an23 cd23 ct23), sl23⟩) (c23 : PySem.W.codeIn K cd23 "_law_coprime" = true) (k23 : PySem.W.keepIn K (.ref f23) = true)
    (a24 : PySem.W.nsIn K mainGlobals "_law_numbers" = some (some (.ref f24))) (l24 : K.lookup f24 = some ⟨oc24, od24, .func (PySem.W.fnOf "_law_numbers" "_law_numbers" (defArgs s_law_numbers) (defBody s_law_numbers) (defScope s_law_numbers) .none kV24 dc24 pm24 an24 cd24 ct24), sl24⟩) (c24 : PySem.W.codeIn K cd24 "_law_numbers" = true) (k24 : PySem.W.keepIn K (.ref f24) = true)
    (a25 : PySem.W.nsIn K mainGlobals "_law_many" = some (some (.ref f25))) (l25 : K.lookup f25 = some ⟨oc25, od25, .func (PySem.W.fnOf "_law_many" "_law_many" (defArgs s_law_many) (defBody s_law_many) (defScope s_law_many) .none kV25 dc25 pm25 an25 cd25 ct25), sl25⟩) (c25 : PySem.W.codeIn K cd25 "_law_many" = true) (k25 : PySem.W.keepIn K (.ref f25) = true)
    (a26 : PySem.W.nsIn K mainGlobals "_law_is_bad" = some (some (.ref f26))) (l26 : K.lookup f26 = some ⟨oc26, od26, .func (PySem.W.fnOf "_law_is_bad" "_law_is_bad" (defArgs s_law_is_bad) (defBody s_law_is_bad) (defScope s_law_is_bad) .none kV26 dc26 pm26 an26 cd26 ct26), sl26⟩) (c26 : PySem.W.codeIn K cd26 "_law_is_bad" = true) (k26 : PySem.W.keepIn K (.ref f26) = true)
    (a27 : PySem.W.nsIn K mainGlobals "_law_is_told" = some (some (.ref f27))) (l27 : K.lookup f27 = some ⟨oc27, od27, .func (PySem.W.fnOf "_law_is_told" "_law_is_told" (defArgs s_law_is_told) (defBody s_law_is_told) (defScope s_law_is_told) .none kV27 dc27 pm27 an27 cd27 ct27), sl27⟩) (c27 : PySem.W.codeIn K cd27 "_law_is_told" = true) (k27 : PySem.W.keepIn K (.ref f27) = true)
    (a28 : PySem.W.nsIn K mainGlobals "_law_refused" = some (some (.ref f28))) (l28 : K.lookup f28 = some ⟨oc28, od28, .func (PySem.W.fnOf "_law_refused" "_law_refused" (defArgs s_law_refused) (defBody s_law_refused) (defScope s_law_refused) .none kV28 dc28 pm28 an28 cd28 ct28), sl28⟩) (c28 : PySem.W.codeIn K cd28 "_law_refused" = true) (k28 : PySem.W.keepIn K (.ref f28) = true)
    (a29 : PySem.W.nsIn K mainGlobals "_law_are_refused" = some (some (.ref f29))) (l29 : K.lookup f29 = some ⟨oc29, od29, .func (PySem.W.fnOf "_law_are_refused" "_law_are_refused" (defArgs s_law_are_refused) (defBody s_law_are_refused) (defScope s_law_are_refused) .none kV29 dc29 pm29 an29 cd29 ct29), sl29⟩) (c29 : PySem.W.codeIn K cd29 "_law_are_refused" = true) (k29 : PySem.W.keepIn K (.ref f29) = true)
    (a30 : PySem.W.nsIn K mainGlobals "law" = some (some (.ref f30))) (l30 : K.lookup f30 = some ⟨oc30, od30, .func (PySem.W.fnOf "law" "law" (defArgs slaw) (defBody slaw) (defScope slaw) .none kV30 dc30 pm30 an30 cd30 ct30), sl30⟩) (c30 : PySem.W.codeIn K cd30 "law" = true) (k30 : PySem.W.keepIn K (.ref f30) = true)
    {CU : Addr}
    (hdg2 : PySem.W.nsIn K cStatics "sys.int_max_str_digits" = some none)
    (ggcd : PySem.W.nsIn K mainGlobals "gcd" = some (some (.builtin "math.gcd")))
    (u1 : PySem.W.nsIn K mainGlobals "Unfit" = some (some (.ref CU)))
    (u3 : PySem.W.excIn K CU [.type "ValueError", .type "Exception", .type "BaseException", .type "object"] "ValueError.__new__" = true)
    (u4 : PySem.W.keepIn K (.ref CU) = true)
    (u5 : PySem.W.subIn K (.ref CU) (.type "BaseException") = some true)
    (u6 : PySem.W.typeIn K (.ref CU) = some (.type "type"))
    (u7 : PySem.W.isClsIn K CU = true)
    (u8 : PySem.W.subIn K (.ref CU) (.ref CU) = some true)
    (hz : ∀ x : Str, bnames.contains x = true → PySem.W.nsIn K mainGlobals x = some none) :
    ∃ fd : FuncData, (∀ (s : Shared) (v : Value), BindsTo s fd ⟨[v], []⟩ [("script", v)]) ∧ ∀ base : Heap, K.In base → base.Ns mainGlobals mg → FnG l.prog w K mg base 10 fa fd ["script"] (splaw K) := by
  have e := hfa.symm.trans (PySem.W.mg_of X G a30)
  cases e
  have U : UnfitC K mg CU := ⟨PySem.W.mg_of X G u1, u3, u4, u5, u6, exm_self u5 u7 u6 u8⟩
  have nb : NB mg bnames := fun x hx => PySem.W.mg_none_of X G (hz x hx)
  have F0 := fun_mk (st := spower) l0 c0 k0
  have b0 := F0.binds (ps := ["base", "exponent"]) fun _ _ _ _ _ _ us hl => match us, hl with | [_, _], _ => rfl
  have F1 := fun_mk (st := sgoes) l1 c1 k1
  have b1 := F1.binds (ps := ["base", "number"]) fun _ _ _ _ _ _ us hl => match us, hl with | [_, _], _ => rfl
  have F2 := fun_mk (st := sstripped) l2 c2 k2
  have b2 := F2.binds (ps := ["base", "number"]) fun _ _ _ _ _ _ us hl => match us, hl with | [_, _], _ => rfl
  have F3 := fun_mk (st := skeepable) l3 c3 k3
  have b3 := F3.binds (ps := ["base", "figures", "number"]) fun _ _ _ _ _ _ us hl => match us, hl with | [_, _, _], _ => rfl
  have F4 := fun_mk (st := sprimes_of) l4 c4 k4
  have b4 := F4.binds (ps := ["base"]) fun _ _ _ _ _ _ us hl => match us, hl with | [_], _ => rfl
  have F5 := fun_mk (st := sdivisor) l5 c5 k5
  have b5 := F5.binds (ps := ["base", "prime", "number"]) fun _ _ _ _ _ _ us hl => match us, hl with | [_, _, _], _ => rfl
  have F6 := fun_mk (st := sheavy_places) l6 c6 k6
  have b6 := F6.binds (ps := ["base", "prime", "numbers"]) fun _ _ _ _ _ _ us hl => match us, hl with | [_, _, _], _ => rfl
  have F7 := fun_mk (st := sshare) l7 c7 k7
  have b7 := F7.binds (ps := ["base", "prime", "numbers"]) fun _ _ _ _ _ _ us hl => match us, hl with | [_, _, _], _ => rfl
  have F8 := fun_mk (st := sshares) l8 c8 k8
  have b8 := F8.binds (ps := ["base", "numbers"]) fun _ _ _ _ _ _ us hl => match us, hl with | [_, _], _ => rfl
  have F9 := fun_mk (st := sbad_lot) l9 c9 k9
  have b9 := F9.binds (ps := ["base", "figures", "numbers"]) fun _ _ _ _ _ _ us hl => match us, hl with | [_, _, _], _ => rfl
  have F10 := fun_mk (st := sproducts_exact) l10 c10 k10
  have b10 := F10.binds (ps := ["base", "figures", "numbers"]) fun _ _ _ _ _ _ us hl => match us, hl with | [_, _, _], _ => rfl
  have F11 := fun_mk (st := s_law_deck) l11 c11 k11
  have b11 := F11.binds (ps := ["script"]) fun _ _ _ _ _ _ us hl => match us, hl with | [_], _ => rfl
  have F12 := fun_mk (st := s_law_draw) l12 c12 k12
  have b12 := F12.binds (ps := ["deck", "many"]) fun _ _ _ _ _ _ us hl => match us, hl with | [_, _], _ => rfl
  have F13 := fun_mk (st := s_law_pick) l13 c13 k13
  have b13 := F13.binds (ps := ["deck", "things"]) fun _ _ _ _ _ _ us hl => match us, hl with | [_, _], _ => rfl
  have F14 := fun_mk (st := s_law_great) l14 c14 k14
  have b14 := F14.binds (ps := ["deck", "many"]) fun _ _ _ _ _ _ us hl => match us, hl with | [_, _], _ => rfl
  have F15 := fun_mk (st := s_law_power) l15 c15 k15
  have b15 := F15.binds (ps := ["base", "times"]) fun _ _ _ _ _ _ us hl => match us, hl with | [_, _], _ => rfl
  have F16 := fun_mk (st := s_law_whole) l16 c16 k16
  have b16 := F16.binds (ps := ["base", "number"]) fun _ _ _ _ _ _ us hl => match us, hl with | [_, _], _ => rfl
  have F17 := fun_mk (st := s_law_primes) l17 c17 k17
  have b17 := F17.binds (ps := ["number"]) fun _ _ _ _ _ _ us hl => match us, hl with | [_], _ => rfl
  have F18 := fun_mk (st := s_law_plain) l18 c18 k18
  have b18 := F18.binds (ps := ["deck"]) fun _ _ _ _ _ _ us hl => match us, hl with | [_], _ => rfl
  have F19 := fun_mk (st := s_law_factor) l19 c19 k19
  have b19 := F19.binds (ps := ["deck", "base"]) fun _ _ _ _ _ _ us hl => match us, hl with | [_, _], _ => rfl
  have F20 := fun_mk (st := s_law_weight) l20 c20 k20
  have b20 := F20.binds (ps := ["base", "prime", "number"]) fun _ _ _ _ _ _ us hl => match us, hl with | [_, _, _], _ => rfl
  have F21 := fun_mk (st := s_law_share) l21 c21 k21
  have b21 := F21.binds (ps := ["base", "prime", "numbers"]) fun _ _ _ _ _ _ us hl => match us, hl with | [_, _, _], _ => rfl
  have F22 := fun_mk (st := s_law_is_due) l22 c22 k22
  have b22 := F22.binds (ps := ["base", "figures", "numbers"]) fun _ _ _ _ _ _ us hl => match us, hl with | [_, _, _], _ => rfl
  have F23 := fun_mk (st := s_law_coprime) l23 c23 k23
  have b23 := F23.binds (ps := ["base", "number"]) fun _ _ _ _ _ _ us hl => match us, hl with | [_, _], _ => rfl
  have F24 := fun_mk (st := s_law_numbers) l24 c24 k24
  have b24 := F24.binds (ps := ["deck", "base", "top"]) fun _ _ _ _ _ _ us hl => match us, hl with | [_, _, _], _ => rfl
  have F25 := fun_mk (st := s_law_many) l25 c25 k25
  have b25 := F25.binds (ps := ["deck", "base", "top"]) fun _ _ _ _ _ _ us hl => match us, hl with | [_, _, _], _ => rfl
  have F26 := fun_mk (st := s_law_is_bad) l26 c26 k26
  have b26 := F26.binds (ps := ["base", "figures", "numbers", "told"]) fun _ _ _ _ _ _ us hl => match us, hl with | [_, _, _, _], _ => rfl
  have F27 := fun_mk (st := s_law_is_told) l27 c27 k27
  have b27 := F27.binds (ps := ["base", "figures", "numbers"]) fun _ _ _ _ _ _ us hl => match us, hl with | [_, _, _], _ => rfl
  have F28 := fun_mk (st := s_law_refused) l28 c28 k28
  have b28 := F28.binds (ps := ["base", "figures", "numbers", "way"]) fun _ _ _ _ _ _ us hl => match us, hl with | [_, _, _, _], _ => rfl
  have F29 := fun_mk (st := s_law_are_refused) l29 c29 k29
  have b29 := F29.binds (ps := ["deck"]) fun _ _ _ _ _ _ us hl => match us, hl with | [_], _ => rfl
  have F30 := fun_mk (st := slaw) l30 c30 k30
  refine ⟨PySem.W.fnOf "law" "law" (defArgs slaw) (defBody slaw) (defScope slaw) .none kV30 dc30 pm30 an30 cd30 ct30, fun s v => .of_eq rfl, fun base _ _ => ?_⟩
  have D_law_draw : Fd l.prog w K mg base "_law_draw" 1 ["deck", "many"] (sp_law_draw K) := .mk' F12 (ok_law_draw F12 nb    ) (PySem.W.mg_of X G a12) b12
  have D_law_pick : Fd l.prog w K mg base "_law_pick" 2 ["deck", "things"] (sp_law_pick K) := .mk' F13 (ok_law_pick F13 nb D_law_draw   ) (PySem.W.mg_of X G a13) b13
  have Dgoes : Fd l.prog w K mg base "goes" 1 ["base", "number"] (spgoes K) := .mk' F1 (okgoes F1 nb    ) (PySem.W.mg_of X G a1) b1
  have Dpower : Fd l.prog w K mg base "power" 1 ["base", "exponent"] (sppower K) := .mk' F0 (okpower F0 nb    ) (PySem.W.mg_of X G a0) b0
  have Ddivisor : Fd l.prog w K mg base "divisor" 2 ["base", "prime", "number"] (spdivisor K) := .mk' F5 (okdivisor F5 nb Dgoes Dpower   ) (PySem.W.mg_of X G a5) b5
  have Dheavy_places : Fd l.prog w K mg base "heavy_places" 3 ["base", "prime", "numbers"] (spheavy_places K) := .mk' F6 (okheavy_places F6 nb Ddivisor   ) (PySem.W.mg_of X G a6) b6
  have Dprimes_of : FdX l.prog w K mg base "primes_of" 1 ["base"] (spprimes_of K mg) := .mk' F4 (okprimes_of F4 nb    U) (PySem.W.mg_of X G a4) b4
  have Dshare : Fd l.prog w K mg base "share" 4 ["base", "prime", "numbers"] (spshare K) := .mk' F7 (okshare F7 nb Ddivisor Dheavy_places   (PySem.W.mg_of X G ggcd)) (PySem.W.mg_of X G a7) b7
  have Dshares : FdX l.prog w K mg base "shares" 5 ["base", "numbers"] (spshares K mg) := .mk' F8 (okshares F8 nb Dprimes_of Dshare   ) (PySem.W.mg_of X G a8) b8
  have Dbad_lot : FdX l.prog w K mg base "bad_lot" 6 ["base", "figures", "numbers"] (spbad_lot K mg) := .mk' F9 (okbad_lot F9 nb Dheavy_places Dpower Dshares   ) (PySem.W.mg_of X G a9) b9
  have Ebad_lot : FkX l.prog w K mg base "bad_lot" 6 ["base", "figures", "numbers"] ["numbers", "figures", "base"] (fun zs => zs.reverse) (spbad_lot K mg) := ⟨_, _, _, okbad_lot F9 nb Dheavy_places Dpower Dshares   , PySem.W.mg_of X G a9, F9.kp, F9.kb fun _ _ _ _ _ _ us hl => match us, hl with | [_, _, _], _ => rfl⟩
  have Dproducts_exact : FdX l.prog w K mg base "products_exact" 7 ["base", "figures", "numbers"] (spproducts_exact K mg) := .mk' F10 (okproducts_exact F10 nb Dbad_lot   ) (PySem.W.mg_of X G a10) b10
  have Eproducts_exact : FkX l.prog w K mg base "products_exact" 7 ["base", "figures", "numbers"] ["numbers", "figures", "base"] (fun zs => zs.reverse) (spproducts_exact K mg) := ⟨_, _, _, okproducts_exact F10 nb Dbad_lot   , PySem.W.mg_of X G a10, F10.kp, F10.kb fun _ _ _ _ _ _ us hl => match us, hl with | [_, _, _], _ => rfl⟩
  have D_law_refused : Fd l.prog w K mg base "_law_refused" 8 ["base", "figures", "numbers", "way"] (sp_law_refused K) := .mk' F28 (ok_law_refused F28 nb Dbad_lot Dproducts_exact Dshares   U) (PySem.W.mg_of X G a28) b28
  have Dstripped : Fd l.prog w K mg base "stripped" 1 ["base", "number"] (spstripped K) := .mk' F2 (okstripped F2 nb    ) (PySem.W.mg_of X G a2) b2
  have Dkeepable : Fd l.prog w K mg base "keepable" 2 ["base", "figures", "number"] (spkeepable K) := .mk' F3 (okkeepable F3 nb Dpower Dstripped   ) (PySem.W.mg_of X G a3) b3
  have D_law_are_refused : Fd l.prog w K mg base "_law_are_refused" 9 ["deck"] (sp_law_are_refused K) := .mk' F29 (ok_law_are_refused F29 nb D_law_draw D_law_pick D_law_refused Dkeepable   ) (PySem.W.mg_of X G a29) b29
  have D_law_deck : Fd l.prog w K mg base "_law_deck" 1 ["script"] (sp_law_deck K) := .mk' F11 (ok_law_deck F11 nb    ) (PySem.W.mg_of X G a11) b11
  have D_law_power : Fd l.prog w K mg base "_law_power" 1 ["base", "times"] (sp_law_power K) := .mk' F15 (ok_law_power F15 nb    ) (PySem.W.mg_of X G a15) b15
  have D_law_primes : Fd l.prog w K mg base "_law_primes" 1 ["number"] (sp_law_primes K) := .mk' F17 (ok_law_primes F17 nb    ) (PySem.W.mg_of X G a17) b17
  have D_law_weight : Fd l.prog w K mg base "_law_weight" 1 ["base", "prime", "number"] (sp_law_weight K) := .mk' F20 (ok_law_weight F20 nb    ) (PySem.W.mg_of X G a20) b20
  have D_law_share : Fd l.prog w K mg base "_law_share" 2 ["base", "prime", "numbers"] (sp_law_share K) := .mk' F21 (ok_law_share F21 nb D_law_weight   ) (PySem.W.mg_of X G a21) b21
  have D_law_is_due : Fd l.prog w K mg base "_law_is_due" 3 ["base", "figures", "numbers"] (sp_law_is_due K) := .mk' F22 (ok_law_is_due F22 nb D_law_power D_law_primes D_law_share   ) (PySem.W.mg_of X G a22) b22
  have D_law_whole : Fd l.prog w K mg base "_law_whole" 1 ["base", "number"] (sp_law_whole K) := .mk' F16 (ok_law_whole F16 nb    ) (PySem.W.mg_of X G a16) b16
  have D_law_is_bad : Fd l.prog w K mg base "_law_is_bad" 2 ["base", "figures", "numbers", "told"] (sp_law_is_bad K) := .mk' F26 (ok_law_is_bad F26 nb D_law_power D_law_whole   ) (PySem.W.mg_of X G a26) b26
  have D_law_is_told : FdG l.prog w K mg base "_law_is_told" 8 ["base", "figures", "numbers"] (sp_law_is_told K) := .mk' F27 (ok_law_is_told F27 nb D_law_is_bad D_law_is_due D_law_power D_law_primes D_law_share D_law_whole Dbad_lot Dproducts_exact Dshares Eproducts_exact Ebad_lot  hdg2) (PySem.W.mg_of X G a27) b27
  have D_law_coprime : Fd l.prog w K mg base "_law_coprime" 2 ["base", "number"] (sp_law_coprime K) := .mk' F23 (ok_law_coprime F23 nb D_law_primes   ) (PySem.W.mg_of X G a23) b23
  have D_law_many : Fd l.prog w K mg base "_law_many" 3 ["deck", "base", "top"] (sp_law_many K) := .mk' F25 (ok_law_many F25 nb D_law_coprime D_law_draw   ) (PySem.W.mg_of X G a25) b25
  have D_law_factor : Fd l.prog w K mg base "_law_factor" 3 ["deck", "base"] (sp_law_factor K) := .mk' F19 (ok_law_factor F19 nb D_law_draw D_law_pick D_law_primes   ) (PySem.W.mg_of X G a19) b19
  have D_law_great : Fd l.prog w K mg base "_law_great" 2 ["deck", "many"] (sp_law_great K) := .mk' F14 (ok_law_great F14 nb D_law_draw   ) (PySem.W.mg_of X G a14) b14
  have D_law_numbers : Fd l.prog w K mg base "_law_numbers" 4 ["deck", "base", "top"] (sp_law_numbers K) := .mk' F24 (ok_law_numbers F24 nb D_law_coprime D_law_draw D_law_factor D_law_great D_law_pick D_law_primes   ) (PySem.W.mg_of X G a24) b24
  have D_law_plain : Fd l.prog w K mg base "_law_plain" 3 ["deck"] (sp_law_plain K) := .mk' F18 (ok_law_plain F18 nb D_law_draw D_law_pick D_law_primes   ) (PySem.W.mg_of X G a18) b18
  exact oklaw F30 nb D_law_are_refused D_law_deck D_law_draw D_law_is_due D_law_is_told D_law_many D_law_numbers D_law_pick D_law_plain D_law_power Dproducts_exact   hdg2
end K49
open PySem PySem.W PyProof.Rows
set_option maxRecDepth 100000 in
set_option maxHeartbeats 0 in
theorem PySem.Challenge.cw_everyexact_k49_whole_products_exactly_by_holds : PySem.Challenge.rw_everyexact_k49_whole_products_exactly_by.Holds := by
  w_on; o_law; k_head; (case hw => w_witness2)
  k_fill
  refine EE.walk_ofG (l := PySem.Challenge.rw_everyexact_k49_whole_products_exactly_by) (n := 63) (k := 10) (x := "script") (sp := K49.splaw) rfl (by decide) rfl ⟨rfl, by decide, by decide⟩ (fun w h Y => PySem.W.kIn_of Y) ?F (fun K H a ns hl _ hS => ⟨a, ns, rfl, hS, hl, fun _ => rfl⟩)
  case F =>
    intro w mg fa h KX G hmg
    refine' K49.all_mk KX G hmg ?a0 ?l0 ?c0 ?k0 ?a1 ?l1 ?c1 ?k1 ?a2 ?l2 ?c2 ?k2 ?a3 ?l3 ?c3 ?k3 ?a4 ?l4 ?c4 ?k4 ?a5 ?l5 ?c5 ?k5 ?a6 ?l6 ?c6 ?k6 ?a7 ?l7 ?c7 ?k7 ?a8 ?l8 ?c8 ?k8 ?a9 ?l9 ?c9 ?k9 ?a10 ?l10 ?c10 ?k10 ?a11 ?l11 ?c11 ?k11 ?a12 ?l12 ?c12 ?k12 ?a13 ?l13 ?c13 ?k13 ?a14 ?l14 ?c14 ?k14 ?a15 ?l15 ?c15 ?k15 ?a16 ?l16 ?c16 ?k16 ?a17 ?l17 ?c17 ?k17 ?a18 ?l18 ?c18 ?k18 ?a19 ?l19 ?c19 ?k19 ?a20 ?l20 ?c20 ?k20 ?a21 ?l21 ?c21 ?k21 ?a22 ?l22 ?c22 ?k22 ?a23 ?l23 ?c23 ?k23 ?a24 ?l24 ?c24 ?k24 ?a25 ?l25 ?c25 ?k25 ?a26 ?l26 ?c26 ?k26 ?a27 ?l27 ?c27 ?k27 ?a28 ?l28 ?c28 ?k28 ?a29 ?l29 ?c29 ?k29 ?a30 ?l30 ?c30 ?k30  ?hdg2 ?ggcd ?u1 ?u3 ?u4 ?u5 ?u6 ?u7 ?u8 ?hz
    (case a0 => k_is); (case l0 => k_is); (case c0 => k_is); (case k0 => k_is)
    (case a1 => k_is); (case l1 => k_is); (case c1 => k_is); (case k1 => k_is)
    (case a2 => k_is); (case l2 => k_is); (case c2 => k_is); (case k2 => k_is)
    (case a3 => k_is); (case l3 => k_is); (case c3 => k_is); (case k3 => k_is)
    (case a4 => k_is); (case l4 => k_is); (case c4 => k_is); (case k4 => k_is)
    (case a5 => k_is); (case l5 => k_is); (case c5 => k_is); (case k5 => k_is)
    (case a6 => k_is); (case l6 => k_is); (case c6 => k_is); (case k6 => k_is)
    (case a7 => k_is); (case l7 => k_is); (case c7 => k_is); (case k7 => k_is)
    (case a8 => k_is); (case l8 => k_is); (case c8 => k_is); (case k8 => k_is)
    (case a9 => k_is); (case l9 => k_is); (case c9 => k_is); (case k9 => k_is)
    (case a10 => k_is); (case l10 => k_is); (case c10 => k_is); (case k10 => k_is)
    (case a11 => k_is); (case l11 => k_is); (case c11 => k_is); (case k11 => k_is)
    (case a12 => k_is); (case l12 => k_is); (case c12 => k_is); (case k12 => k_is)
    (case a13 => k_is); (case l13 => k_is); (case c13 => k_is); (case k13 => k_is)
    (case a14 => k_is); (case l14 => k_is); (case c14 => k_is); (case k14 => k_is)
    (case a15 => k_is); (case l15 => k_is); (case c15 => k_is); (case k15 => k_is)
    (case a16 => k_is); (case l16 => k_is); (case c16 => k_is); (case k16 => k_is)
    (case a17 => k_is); (case l17 => k_is); (case c17 => k_is); (case k17 => k_is)
    (case a18 => k_is); (case l18 => k_is); (case c18 => k_is); (case k18 => k_is)
    (case a19 => k_is); (case l19 => k_is); (case c19 => k_is); (case k19 => k_is)
    (case a20 => k_is); (case l20 => k_is); (case c20 => k_is); (case k20 => k_is)
    (case a21 => k_is); (case l21 => k_is); (case c21 => k_is); (case k21 => k_is)
    (case a22 => k_is); (case l22 => k_is); (case c22 => k_is); (case k22 => k_is)
    (case a23 => k_is); (case l23 => k_is); (case c23 => k_is); (case k23 => k_is)
    (case a24 => k_is); (case l24 => k_is); (case c24 => k_is); (case k24 => k_is)
    (case a25 => k_is); (case l25 => k_is); (case c25 => k_is); (case k25 => k_is)
    (case a26 => k_is); (case l26 => k_is); (case c26 => k_is); (case k26 => k_is)
    (case a27 => k_is); (case l27 => k_is); (case c27 => k_is); (case k27 => k_is)
    (case a28 => k_is); (case l28 => k_is); (case c28 => k_is); (case k28 => k_is)
    (case a29 => k_is); (case l29 => k_is); (case c29 => k_is); (case k29 => k_is)
    (case a30 => k_is); (case l30 => k_is); (case c30 => k_is); (case k30 => k_is)
    (case hdg2 => k_is)
    (case ggcd => k_is)
    (case u1 => k_is)
    (case u3 => k_exc)
    (case u4 => k_is)
    (case u5 => k_is)
    (case u6 => k_is)
    (case u7 => k_is)
    (case u8 => first | rfl | k_is)
    case hz =>
      intro x hx
      simp only [EE.bnames, List.contains_cons, List.contains_nil, Bool.or_false, Bool.or_eq_true, beq_iff_eq] at hx
      rcases hx with rfl | rfl | rfl | rfl | rfl | rfl | rfl | rfl | rfl | rfl | rfl | rfl | rfl | rfl | rfl | rfl | rfl | rfl | rfl | rfl <;> k_is
