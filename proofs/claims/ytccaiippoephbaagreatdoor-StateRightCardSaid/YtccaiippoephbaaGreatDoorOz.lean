/- State: states and configs opened out of an argument's reading, with what they weigh. -/
import Derived.Test.YtccaiippoephbaaGreatDoorZa
import Derived.Test.YtccaiippoephbaaGreatDoorWa
import Derived.OneCell
import Derived.SizedLaws
import Derived.Deep.Slices
import Derived.Deep.Fields
set_option linter.unusedVariables false
set_option linter.unusedSimpArgs false
set_option maxRecDepth 100000
namespace Go.Proofs.YtccaiippoephbaaGreatDoor.Sta
open Go.RowKit Go.Lib Go.Proofs.YtccaiippoephbaaGreatDoor.Bx Go.Proofs.YtccaiippoephbaaGreatDoor.Frm Go.Proofs.YtccaiippoephbaaGreatDoor.Wds

abbrev Usr := List UInt8 × List UInt8 × List UInt8
abbrev Cfg := List Usr × List Lab × Int × Int × Int × Int × Int × Int × Int
def usrM : Rep Usr := pairM textM (pairM textM textM)
def cfgM : Rep Cfg := pairM (listM usrM) (pairM (listM labM) (pairM numM (pairM numM (pairM numM (pairM numM (pairM numM (pairM numM numM)))))))
theorem usrM_ok : usrM.Ok := pairM_ok textM_ok (pairM_ok textM_ok textM_ok)
theorem cfgM_ok : cfgM.Ok := pairM_ok (listM_ok usrM_ok) (pairM_ok (listM_ok labM_ok) (pairM_ok numM_ok (pairM_ok numM_ok (pairM_ok numM_ok (pairM_ok numM_ok (pairM_ok numM_ok (pairM_ok numM_ok numM_ok)))))))
/-- What came in weighs so much at most. -/
abbrev B47 : Nat := 140737488355328
def textG (t : List UInt8) : Prop := t.length ≤ B47
def flagG (_ : Bool) : Prop := True
def listG {α : Type} (g : α → Prop) (xs : List α) : Prop := xs.length ≤ B47 ∧ ∀ x ∈ xs, g x
def pairG {α β : Type} (g : α → Prop) (h : β → Prop) (x : α × β) : Prop := g x.1 ∧ h x.2
def spnG : Spn → Prop := pairG n64 (pairG n64 (n64))
def sitG : Sit → Prop := pairG n64 (n64)
def labG : Lab → Prop := pairG n64 (pairG n64 (pairG (listG n64) ((listG n64))))
def segG : Seg → Prop := pairG n64 (pairG n64 (pairG textG (pairG (listG spnG) ((listG sitG)))))
def docG : Doc → Prop := pairG flagG ((listG segG))
def thgG : Thg → Prop := pairG n64 (pairG n64 (pairG n64 (pairG n64 (textG))))
def seaG : Sea → Prop := pairG textG (pairG n64 (pairG n64 (pairG n64 (textG))))
def entG : Ent → Prop := pairG n64 (pairG n64 (pairG n64 (pairG (listG n64) ((listG n64)))))
def staG : Sta → Prop := pairG n64 (pairG n64 (pairG n64 (pairG (listG labG) (pairG (listG docG) (pairG (listG (listG thgG)) (pairG (listG seaG) ((listG entG))))))))
def usrG : Usr → Prop := pairG textG (pairG textG (textG))
def cfgG : Cfg → Prop := pairG (listG usrG) (pairG (listG labG) (pairG n64 (pairG n64 (pairG n64 (pairG n64 (pairG n64 (pairG n64 (n64))))))))
section
open Go.ChangeShapes Go.WideShapes Go.Deep
variable {H : Type} {enc : TypeId × Value → H}
theorem kc_int : Tryz.prog.cellsOf 3 = 1 := by kernel_rfl
theorem kc_lint : Tryz.prog.cellsOf 43 = 1 := by kernel_rfl
theorem kc_string : Tryz.prog.cellsOf 9 = 1 := by kernel_rfl
theorem kc_lapi_Span : Tryz.prog.cellsOf 64 = 1 := by kernel_rfl
theorem kc_lapi_Site : Tryz.prog.cellsOf 65 = 1 := by kernel_rfl
theorem kc_bool : Tryz.prog.cellsOf 4 = 1 := by kernel_rfl
theorem kc_lapi_Seg : Tryz.prog.cellsOf 49 = 1 := by kernel_rfl
theorem kc_lapi_Label : Tryz.prog.cellsOf 23 = 1 := by kernel_rfl
theorem kc_lapi_Doc : Tryz.prog.cellsOf 26 = 1 := by kernel_rfl
theorem kc_llapi_Undo : Tryz.prog.cellsOf 27 = 1 := by kernel_rfl
theorem kc_lapi_Seat : Tryz.prog.cellsOf 28 = 1 := by kernel_rfl
theorem kc_lapi_Entry : Tryz.prog.cellsOf 29 = 1 := by kernel_rfl
theorem kc_lapi_User : Tryz.prog.cellsOf 22 = 1 := by kernel_rfl
theorem kc_lapi_Undo : Tryz.prog.cellsOf 53 = 1 := by kernel_rfl
theorem kb_int : 1 ≤ Tryz.prog.bytesOf 3 := by decide +kernel
theorem kc_api_Span : Tryz.prog.cellsOf 108 = 3 := by kernel_rfl
theorem kb_api_Span : 1 ≤ Tryz.prog.bytesOf 108 := by decide +kernel
theorem kc_api_Site : Tryz.prog.cellsOf 112 = 2 := by kernel_rfl
theorem kb_api_Site : 1 ≤ Tryz.prog.bytesOf 112 := by decide +kernel
theorem kc_api_Label : Tryz.prog.cellsOf 45 = 4 := by kernel_rfl
theorem kb_api_Label : 1 ≤ Tryz.prog.bytesOf 45 := by decide +kernel
theorem kc_api_Seg : Tryz.prog.cellsOf 67 = 5 := by kernel_rfl
theorem kb_api_Seg : 1 ≤ Tryz.prog.bytesOf 67 := by decide +kernel
theorem kc_api_Doc : Tryz.prog.cellsOf 51 = 2 := by kernel_rfl
theorem kb_api_Doc : 1 ≤ Tryz.prog.bytesOf 51 := by decide +kernel
theorem kc_api_Undo : Tryz.prog.cellsOf 55 = 5 := by kernel_rfl
theorem kb_api_Undo : 1 ≤ Tryz.prog.bytesOf 55 := by decide +kernel
theorem kb_lapi_Undo : 1 ≤ Tryz.prog.bytesOf 53 := by decide +kernel
theorem kc_api_Seat : Tryz.prog.cellsOf 57 = 5 := by kernel_rfl
theorem kb_api_Seat : 1 ≤ Tryz.prog.bytesOf 57 := by decide +kernel
theorem kc_api_Entry : Tryz.prog.cellsOf 59 = 5 := by kernel_rfl
theorem kb_api_Entry : 1 ≤ Tryz.prog.bytesOf 59 := by decide +kernel
theorem kc_api_User : Tryz.prog.cellsOf 42 = 3 := by kernel_rfl
theorem kb_api_User : 1 ≤ Tryz.prog.bytesOf 42 := by decide +kernel
theorem n64_of {a : Int} (h : (Lit.int .i64 a).wf = true) : n64 a := by
  unfold n64
  simpa [Lit.wf, IntKind.min, IntKind.max, IntKind.signed, IntKind.bits] using h
theorem mk_data (b : ByteArray) : mkB b.data.toList = b := by cases b; rfl
/-- How a thing of a kind is opened. -/
def Opn {α : Type} (M : Rep α) (g : α → Prop) (ty : TypeId) : Prop := ∀ {H : Type} {enc : TypeId × Value → H} {W : World} {m : Nat} {x : DataW H × List MemPlace} {cs : List Value}, cs.length = M.k → DataW.trod enc Tryz.prog W 0 (fun _ => true) true m ty cs = some x → (∀ n ∈ x.1.weights Tryz.prog ty, n ≤ B47) → ∃ y, M.R (fun _ => True) W cs y ∧ g y
theorem op_num : Opn numM n64 3 := fun hl ht hw => by
  obtain ⟨a, e, -, w⟩ := DataW.trod_int Tryz.underlying3 ht
  exact ⟨a, e, n64_of w⟩
theorem op_text : Opn textM textG 9 := fun hl ht hw => by
  obtain ⟨a, e, e2, w⟩ := DataW.trod_string Tryz.underlying9 ht
  refine ⟨a.data.toList, by rw [e]; show _ = [Value.string (mkB a.data.toList)]; rw [mk_data], ?_⟩
  exact hw _ (by rw [e2]; simp [DataW.weights])
theorem op_flag : Opn flagM flagG 4 := fun hl ht hw => by
  obtain ⟨a, e, -⟩ := DataW.trod_bool Tryz.underlying4 ht
  exact ⟨a, e, trivial⟩
theorem row_len {tS e : TypeId} (ht : Tryz.prog.underlying tS = some (.slice e)) (hb : 1 ≤ Tryz.prog.bytesOf e) {W : World} {n : Nat} {x : DataW H × List MemPlace} {ad : Option Addr} {l cap : Nat} (h : DataW.trod enc Tryz.prog W 0 (fun _ => true) true n tS [.slice ad l cap] = some x) (hw : ∀ n ∈ x.1.weights Tryz.prog tS, n ≤ B47) : l ≤ B47 := by
  rcases open_slice ht h with ⟨hcs, _⟩ | ⟨a, len, cap, m, n', D, Pl, hcs, _, hl, hm, hmm, hd, hel⟩
  · simp at hcs
    omega
  · simp at hcs
    obtain ⟨_, rfl, _⟩ := hcs
    have hd1 : x.1 = .slice ((List.range l).map D) ((List.range (m - l)).map fun j => D (l + j)) := congrArg Prod.fst hd
    have := hw ((((List.range l).map D).length + ((List.range (m - l)).map fun j => D (l + j)).length) * Tryz.prog.bytesOf e) (by rw [hd1]; simp only [DataW.weights, ht]; exact List.mem_cons_self)
    rw [List.length_map, List.length_range] at this
    have h2 := Nat.le_mul_of_pos_right (l + ((List.range (m - l)).map fun j => D (l + j)).length) hb
    omega
theorem op_list {α : Type} {M : Rep α} {g : α → Prop} {tS e : TypeId} (hM : M.Ok) (h : Opn M g e) (ht : Tryz.prog.underlying tS = some (.slice e)) (hk : Tryz.prog.cellsOf e = M.k) (h0 : 0 < M.k) (hb : 1 ≤ Tryz.prog.bytesOf e) : Opn (listM M) (listG g) tS := fun {H enc W m x cs} hl htr hw => by
  match cs, (show cs.length = 1 from hl) with
  | [c], _ =>
    obtain ⟨A, p, hA, hr, hp⟩ := Rk.rows_atw (R := fun W cs y => M.R (fun _ => True) W cs y ∧ g y) ht hk h0 htr B47 hw fun m cs x hl' ht' hw' => h hl' ht' hw'
    have hrow : Rk.Rows M.k (M.R fun _ => True) W c A := ⟨p, hA, hr, fun x hx => (hp x hx).1⟩
    obtain ⟨ad, cap, rfl⟩ := hrow.is_slice
    refine ⟨A, ⟨_, rfl, RowP.of_rows hrow⟩, row_len ht hb htr hw, fun y hy => ?_⟩
    rw [← hA] at hy
    obtain ⟨z, hz, rfl⟩ := List.mem_map.1 hy
    exact (hp z hz).2
theorem op_lint : Opn (listM numM) (listG n64) 43 := op_list numM_ok op_num Tryz.underlying43 kc_int (by decide) kb_int
theorem op_Span : Opn spnM spnG 108 := fun {H enc W m x cs} hl ht hw => by
  obtain ⟨xs, m, _, hx, _, hxl, hg⟩ := DataW.trod_struct Tryz.underlying108 ht
  match cs, (show cs.length = 3 from hl) with
  | [c0, c1, c2], _ =>
    have hxs : xs.length = 3 := hxl
    match xs, hxs with
    | [x0, x1, x2], _ =>
      have hd : x.1 = .agg (([x0, x1, x2] : List (DataW H × List MemPlace)).map Prod.fst) := by rw [hx]
      have g0 : DataW.trod enc Tryz.prog W 0 (fun _ => true) true m 3 ((([c0, c1, c2] : List Value).drop 0).take (Tryz.prog.cellsOf 3)) = some x0 := hg 0 _ rfl
      rw [kc_int] at g0
      have h0 : DataW.trod enc Tryz.prog W 0 (fun _ => true) true m 3 [c0] = some x0 := by simpa using g0
      obtain ⟨y0, r0, b0⟩ := op_num rfl h0 (fun n hn => hw n (by rw [hd]; simp only [DataW.weights, Tryz.underlying108]; exact DataW.weights_mem_each (j := 0) (t := 3) (d := x0.1) rfl rfl n hn))
      have g1 : DataW.trod enc Tryz.prog W 0 (fun _ => true) true m 3 ((([c0, c1, c2] : List Value).drop 1).take (Tryz.prog.cellsOf 3)) = some x1 := hg 1 _ rfl
      rw [kc_int] at g1
      have h1 : DataW.trod enc Tryz.prog W 0 (fun _ => true) true m 3 [c1] = some x1 := by simpa using g1
      obtain ⟨y1, r1, b1⟩ := op_num rfl h1 (fun n hn => hw n (by rw [hd]; simp only [DataW.weights, Tryz.underlying108]; exact DataW.weights_mem_each (j := 1) (t := 3) (d := x1.1) rfl rfl n hn))
      have g2 : DataW.trod enc Tryz.prog W 0 (fun _ => true) true m 3 ((([c0, c1, c2] : List Value).drop 2).take (Tryz.prog.cellsOf 3)) = some x2 := hg 2 _ rfl
      rw [kc_int] at g2
      have h2 : DataW.trod enc Tryz.prog W 0 (fun _ => true) true m 3 [c2] = some x2 := by simpa using g2
      obtain ⟨y2, r2, b2⟩ := op_num rfl h2 (fun n hn => hw n (by rw [hd]; simp only [DataW.weights, Tryz.underlying108]; exact DataW.weights_mem_each (j := 2) (t := 3) (d := x2.1) rfl rfl n hn))
      exact ⟨(y0, y1, y2), ⟨[c0], _, rfl, r0, [c1], _, rfl, r1, r2⟩, b0, b1, b2⟩
theorem op_Site : Opn sitM sitG 112 := fun {H enc W m x cs} hl ht hw => by
  obtain ⟨xs, m, _, hx, _, hxl, hg⟩ := DataW.trod_struct Tryz.underlying112 ht
  match cs, (show cs.length = 2 from hl) with
  | [c0, c1], _ =>
    have hxs : xs.length = 2 := hxl
    match xs, hxs with
    | [x0, x1], _ =>
      have hd : x.1 = .agg (([x0, x1] : List (DataW H × List MemPlace)).map Prod.fst) := by rw [hx]
      have g0 : DataW.trod enc Tryz.prog W 0 (fun _ => true) true m 3 ((([c0, c1] : List Value).drop 0).take (Tryz.prog.cellsOf 3)) = some x0 := hg 0 _ rfl
      rw [kc_int] at g0
      have h0 : DataW.trod enc Tryz.prog W 0 (fun _ => true) true m 3 [c0] = some x0 := by simpa using g0
      obtain ⟨y0, r0, b0⟩ := op_num rfl h0 (fun n hn => hw n (by rw [hd]; simp only [DataW.weights, Tryz.underlying112]; exact DataW.weights_mem_each (j := 0) (t := 3) (d := x0.1) rfl rfl n hn))
      have g1 : DataW.trod enc Tryz.prog W 0 (fun _ => true) true m 3 ((([c0, c1] : List Value).drop 1).take (Tryz.prog.cellsOf 3)) = some x1 := hg 1 _ rfl
      rw [kc_int] at g1
      have h1 : DataW.trod enc Tryz.prog W 0 (fun _ => true) true m 3 [c1] = some x1 := by simpa using g1
      obtain ⟨y1, r1, b1⟩ := op_num rfl h1 (fun n hn => hw n (by rw [hd]; simp only [DataW.weights, Tryz.underlying112]; exact DataW.weights_mem_each (j := 1) (t := 3) (d := x1.1) rfl rfl n hn))
      exact ⟨(y0, y1), ⟨[c0], _, rfl, r0, r1⟩, b0, b1⟩
theorem op_Label : Opn labM labG 45 := fun {H enc W m x cs} hl ht hw => by
  obtain ⟨xs, m, _, hx, _, hxl, hg⟩ := DataW.trod_struct Tryz.underlying45 ht
  match cs, (show cs.length = 4 from hl) with
  | [c0, c1, c2, c3], _ =>
    have hxs : xs.length = 4 := hxl
    match xs, hxs with
    | [x0, x1, x2, x3], _ =>
      have hd : x.1 = .agg (([x0, x1, x2, x3] : List (DataW H × List MemPlace)).map Prod.fst) := by rw [hx]
      have g0 : DataW.trod enc Tryz.prog W 0 (fun _ => true) true m 3 ((([c0, c1, c2, c3] : List Value).drop 0).take (Tryz.prog.cellsOf 3)) = some x0 := hg 0 _ rfl
      rw [kc_int] at g0
      have h0 : DataW.trod enc Tryz.prog W 0 (fun _ => true) true m 3 [c0] = some x0 := by simpa using g0
      obtain ⟨y0, r0, b0⟩ := op_num rfl h0 (fun n hn => hw n (by rw [hd]; simp only [DataW.weights, Tryz.underlying45]; exact DataW.weights_mem_each (j := 0) (t := 3) (d := x0.1) rfl rfl n hn))
      have g1 : DataW.trod enc Tryz.prog W 0 (fun _ => true) true m 3 ((([c0, c1, c2, c3] : List Value).drop 1).take (Tryz.prog.cellsOf 3)) = some x1 := hg 1 _ rfl
      rw [kc_int] at g1
      have h1 : DataW.trod enc Tryz.prog W 0 (fun _ => true) true m 3 [c1] = some x1 := by simpa using g1
      obtain ⟨y1, r1, b1⟩ := op_num rfl h1 (fun n hn => hw n (by rw [hd]; simp only [DataW.weights, Tryz.underlying45]; exact DataW.weights_mem_each (j := 1) (t := 3) (d := x1.1) rfl rfl n hn))
      have g2 : DataW.trod enc Tryz.prog W 0 (fun _ => true) true m 43 ((([c0, c1, c2, c3] : List Value).drop 2).take (Tryz.prog.cellsOf 43)) = some x2 := hg 2 _ rfl
      rw [kc_lint] at g2
      have h2 : DataW.trod enc Tryz.prog W 0 (fun _ => true) true m 43 [c2] = some x2 := by simpa using g2
      obtain ⟨y2, r2, b2⟩ := op_lint rfl h2 (fun n hn => hw n (by rw [hd]; simp only [DataW.weights, Tryz.underlying45]; exact DataW.weights_mem_each (j := 2) (t := 43) (d := x2.1) rfl rfl n hn))
      have g3 : DataW.trod enc Tryz.prog W 0 (fun _ => true) true m 43 ((([c0, c1, c2, c3] : List Value).drop 3).take (Tryz.prog.cellsOf 43)) = some x3 := hg 3 _ rfl
      rw [kc_lint] at g3
      have h3 : DataW.trod enc Tryz.prog W 0 (fun _ => true) true m 43 [c3] = some x3 := by simpa using g3
      obtain ⟨y3, r3, b3⟩ := op_lint rfl h3 (fun n hn => hw n (by rw [hd]; simp only [DataW.weights, Tryz.underlying45]; exact DataW.weights_mem_each (j := 3) (t := 43) (d := x3.1) rfl rfl n hn))
      exact ⟨(y0, y1, y2, y3), ⟨[c0], _, rfl, r0, [c1], _, rfl, r1, [c2], _, rfl, r2, r3⟩, b0, b1, b2, b3⟩
theorem op_lSpan : Opn (listM spnM) (listG spnG) 64 := op_list spnM_ok op_Span Tryz.underlying64 kc_api_Span (by decide) kb_api_Span
theorem op_lSite : Opn (listM sitM) (listG sitG) 65 := op_list sitM_ok op_Site Tryz.underlying65 kc_api_Site (by decide) kb_api_Site
theorem op_Seg : Opn segM segG 67 := fun {H enc W m x cs} hl ht hw => by
  obtain ⟨xs, m, _, hx, _, hxl, hg⟩ := DataW.trod_struct Tryz.underlying67 ht
  match cs, (show cs.length = 5 from hl) with
  | [c0, c1, c2, c3, c4], _ =>
    have hxs : xs.length = 5 := hxl
    match xs, hxs with
    | [x0, x1, x2, x3, x4], _ =>
      have hd : x.1 = .agg (([x0, x1, x2, x3, x4] : List (DataW H × List MemPlace)).map Prod.fst) := by rw [hx]
      have g0 : DataW.trod enc Tryz.prog W 0 (fun _ => true) true m 3 ((([c0, c1, c2, c3, c4] : List Value).drop 0).take (Tryz.prog.cellsOf 3)) = some x0 := hg 0 _ rfl
      rw [kc_int] at g0
      have h0 : DataW.trod enc Tryz.prog W 0 (fun _ => true) true m 3 [c0] = some x0 := by simpa using g0
      obtain ⟨y0, r0, b0⟩ := op_num rfl h0 (fun n hn => hw n (by rw [hd]; simp only [DataW.weights, Tryz.underlying67]; exact DataW.weights_mem_each (j := 0) (t := 3) (d := x0.1) rfl rfl n hn))
      have g1 : DataW.trod enc Tryz.prog W 0 (fun _ => true) true m 3 ((([c0, c1, c2, c3, c4] : List Value).drop 1).take (Tryz.prog.cellsOf 3)) = some x1 := hg 1 _ rfl
      rw [kc_int] at g1
      have h1 : DataW.trod enc Tryz.prog W 0 (fun _ => true) true m 3 [c1] = some x1 := by simpa using g1
      obtain ⟨y1, r1, b1⟩ := op_num rfl h1 (fun n hn => hw n (by rw [hd]; simp only [DataW.weights, Tryz.underlying67]; exact DataW.weights_mem_each (j := 1) (t := 3) (d := x1.1) rfl rfl n hn))
      have g2 : DataW.trod enc Tryz.prog W 0 (fun _ => true) true m 9 ((([c0, c1, c2, c3, c4] : List Value).drop 2).take (Tryz.prog.cellsOf 9)) = some x2 := hg 2 _ rfl
      rw [kc_string] at g2
      have h2 : DataW.trod enc Tryz.prog W 0 (fun _ => true) true m 9 [c2] = some x2 := by simpa using g2
      obtain ⟨y2, r2, b2⟩ := op_text rfl h2 (fun n hn => hw n (by rw [hd]; simp only [DataW.weights, Tryz.underlying67]; exact DataW.weights_mem_each (j := 2) (t := 9) (d := x2.1) rfl rfl n hn))
      have g3 : DataW.trod enc Tryz.prog W 0 (fun _ => true) true m 64 ((([c0, c1, c2, c3, c4] : List Value).drop 3).take (Tryz.prog.cellsOf 64)) = some x3 := hg 3 _ rfl
      rw [kc_lapi_Span] at g3
      have h3 : DataW.trod enc Tryz.prog W 0 (fun _ => true) true m 64 [c3] = some x3 := by simpa using g3
      obtain ⟨y3, r3, b3⟩ := op_lSpan rfl h3 (fun n hn => hw n (by rw [hd]; simp only [DataW.weights, Tryz.underlying67]; exact DataW.weights_mem_each (j := 3) (t := 64) (d := x3.1) rfl rfl n hn))
      have g4 : DataW.trod enc Tryz.prog W 0 (fun _ => true) true m 65 ((([c0, c1, c2, c3, c4] : List Value).drop 4).take (Tryz.prog.cellsOf 65)) = some x4 := hg 4 _ rfl
      rw [kc_lapi_Site] at g4
      have h4 : DataW.trod enc Tryz.prog W 0 (fun _ => true) true m 65 [c4] = some x4 := by simpa using g4
      obtain ⟨y4, r4, b4⟩ := op_lSite rfl h4 (fun n hn => hw n (by rw [hd]; simp only [DataW.weights, Tryz.underlying67]; exact DataW.weights_mem_each (j := 4) (t := 65) (d := x4.1) rfl rfl n hn))
      exact ⟨(y0, y1, y2, y3, y4), ⟨[c0], _, rfl, r0, [c1], _, rfl, r1, [c2], _, rfl, r2, [c3], _, rfl, r3, r4⟩, b0, b1, b2, b3, b4⟩
theorem op_lSeg : Opn (listM segM) (listG segG) 49 := op_list segM_ok op_Seg Tryz.underlying49 kc_api_Seg (by decide) kb_api_Seg
theorem op_Doc : Opn docM docG 51 := fun {H enc W m x cs} hl ht hw => by
  obtain ⟨xs, m, _, hx, _, hxl, hg⟩ := DataW.trod_struct Tryz.underlying51 ht
  match cs, (show cs.length = 2 from hl) with
  | [c0, c1], _ =>
    have hxs : xs.length = 2 := hxl
    match xs, hxs with
    | [x0, x1], _ =>
      have hd : x.1 = .agg (([x0, x1] : List (DataW H × List MemPlace)).map Prod.fst) := by rw [hx]
      have g0 : DataW.trod enc Tryz.prog W 0 (fun _ => true) true m 4 ((([c0, c1] : List Value).drop 0).take (Tryz.prog.cellsOf 4)) = some x0 := hg 0 _ rfl
      rw [kc_bool] at g0
      have h0 : DataW.trod enc Tryz.prog W 0 (fun _ => true) true m 4 [c0] = some x0 := by simpa using g0
      obtain ⟨y0, r0, b0⟩ := op_flag rfl h0 (fun n hn => hw n (by rw [hd]; simp only [DataW.weights, Tryz.underlying51]; exact DataW.weights_mem_each (j := 0) (t := 4) (d := x0.1) rfl rfl n hn))
      have g1 : DataW.trod enc Tryz.prog W 0 (fun _ => true) true m 49 ((([c0, c1] : List Value).drop 1).take (Tryz.prog.cellsOf 49)) = some x1 := hg 1 _ rfl
      rw [kc_lapi_Seg] at g1
      have h1 : DataW.trod enc Tryz.prog W 0 (fun _ => true) true m 49 [c1] = some x1 := by simpa using g1
      obtain ⟨y1, r1, b1⟩ := op_lSeg rfl h1 (fun n hn => hw n (by rw [hd]; simp only [DataW.weights, Tryz.underlying51]; exact DataW.weights_mem_each (j := 1) (t := 49) (d := x1.1) rfl rfl n hn))
      exact ⟨(y0, y1), ⟨[c0], _, rfl, r0, r1⟩, b0, b1⟩
theorem op_Undo : Opn thgM thgG 55 := fun {H enc W m x cs} hl ht hw => by
  obtain ⟨xs, m, _, hx, _, hxl, hg⟩ := DataW.trod_struct Tryz.underlying55 ht
  match cs, (show cs.length = 5 from hl) with
  | [c0, c1, c2, c3, c4], _ =>
    have hxs : xs.length = 5 := hxl
    match xs, hxs with
    | [x0, x1, x2, x3, x4], _ =>
      have hd : x.1 = .agg (([x0, x1, x2, x3, x4] : List (DataW H × List MemPlace)).map Prod.fst) := by rw [hx]
      have g0 : DataW.trod enc Tryz.prog W 0 (fun _ => true) true m 3 ((([c0, c1, c2, c3, c4] : List Value).drop 0).take (Tryz.prog.cellsOf 3)) = some x0 := hg 0 _ rfl
      rw [kc_int] at g0
      have h0 : DataW.trod enc Tryz.prog W 0 (fun _ => true) true m 3 [c0] = some x0 := by simpa using g0
      obtain ⟨y0, r0, b0⟩ := op_num rfl h0 (fun n hn => hw n (by rw [hd]; simp only [DataW.weights, Tryz.underlying55]; exact DataW.weights_mem_each (j := 0) (t := 3) (d := x0.1) rfl rfl n hn))
      have g1 : DataW.trod enc Tryz.prog W 0 (fun _ => true) true m 3 ((([c0, c1, c2, c3, c4] : List Value).drop 1).take (Tryz.prog.cellsOf 3)) = some x1 := hg 1 _ rfl
      rw [kc_int] at g1
      have h1 : DataW.trod enc Tryz.prog W 0 (fun _ => true) true m 3 [c1] = some x1 := by simpa using g1
      obtain ⟨y1, r1, b1⟩ := op_num rfl h1 (fun n hn => hw n (by rw [hd]; simp only [DataW.weights, Tryz.underlying55]; exact DataW.weights_mem_each (j := 1) (t := 3) (d := x1.1) rfl rfl n hn))
      have g2 : DataW.trod enc Tryz.prog W 0 (fun _ => true) true m 3 ((([c0, c1, c2, c3, c4] : List Value).drop 2).take (Tryz.prog.cellsOf 3)) = some x2 := hg 2 _ rfl
      rw [kc_int] at g2
      have h2 : DataW.trod enc Tryz.prog W 0 (fun _ => true) true m 3 [c2] = some x2 := by simpa using g2
      obtain ⟨y2, r2, b2⟩ := op_num rfl h2 (fun n hn => hw n (by rw [hd]; simp only [DataW.weights, Tryz.underlying55]; exact DataW.weights_mem_each (j := 2) (t := 3) (d := x2.1) rfl rfl n hn))
      have g3 : DataW.trod enc Tryz.prog W 0 (fun _ => true) true m 3 ((([c0, c1, c2, c3, c4] : List Value).drop 3).take (Tryz.prog.cellsOf 3)) = some x3 := hg 3 _ rfl
      rw [kc_int] at g3
      have h3 : DataW.trod enc Tryz.prog W 0 (fun _ => true) true m 3 [c3] = some x3 := by simpa using g3
      obtain ⟨y3, r3, b3⟩ := op_num rfl h3 (fun n hn => hw n (by rw [hd]; simp only [DataW.weights, Tryz.underlying55]; exact DataW.weights_mem_each (j := 3) (t := 3) (d := x3.1) rfl rfl n hn))
      have g4 : DataW.trod enc Tryz.prog W 0 (fun _ => true) true m 9 ((([c0, c1, c2, c3, c4] : List Value).drop 4).take (Tryz.prog.cellsOf 9)) = some x4 := hg 4 _ rfl
      rw [kc_string] at g4
      have h4 : DataW.trod enc Tryz.prog W 0 (fun _ => true) true m 9 [c4] = some x4 := by simpa using g4
      obtain ⟨y4, r4, b4⟩ := op_text rfl h4 (fun n hn => hw n (by rw [hd]; simp only [DataW.weights, Tryz.underlying55]; exact DataW.weights_mem_each (j := 4) (t := 9) (d := x4.1) rfl rfl n hn))
      exact ⟨(y0, y1, y2, y3, y4), ⟨[c0], _, rfl, r0, [c1], _, rfl, r1, [c2], _, rfl, r2, [c3], _, rfl, r3, r4⟩, b0, b1, b2, b3, b4⟩
theorem op_Seat : Opn seaM seaG 57 := fun {H enc W m x cs} hl ht hw => by
  obtain ⟨xs, m, _, hx, _, hxl, hg⟩ := DataW.trod_struct Tryz.underlying57 ht
  match cs, (show cs.length = 5 from hl) with
  | [c0, c1, c2, c3, c4], _ =>
    have hxs : xs.length = 5 := hxl
    match xs, hxs with
    | [x0, x1, x2, x3, x4], _ =>
      have hd : x.1 = .agg (([x0, x1, x2, x3, x4] : List (DataW H × List MemPlace)).map Prod.fst) := by rw [hx]
      have g0 : DataW.trod enc Tryz.prog W 0 (fun _ => true) true m 9 ((([c0, c1, c2, c3, c4] : List Value).drop 0).take (Tryz.prog.cellsOf 9)) = some x0 := hg 0 _ rfl
      rw [kc_string] at g0
      have h0 : DataW.trod enc Tryz.prog W 0 (fun _ => true) true m 9 [c0] = some x0 := by simpa using g0
      obtain ⟨y0, r0, b0⟩ := op_text rfl h0 (fun n hn => hw n (by rw [hd]; simp only [DataW.weights, Tryz.underlying57]; exact DataW.weights_mem_each (j := 0) (t := 9) (d := x0.1) rfl rfl n hn))
      have g1 : DataW.trod enc Tryz.prog W 0 (fun _ => true) true m 3 ((([c0, c1, c2, c3, c4] : List Value).drop 1).take (Tryz.prog.cellsOf 3)) = some x1 := hg 1 _ rfl
      rw [kc_int] at g1
      have h1 : DataW.trod enc Tryz.prog W 0 (fun _ => true) true m 3 [c1] = some x1 := by simpa using g1
      obtain ⟨y1, r1, b1⟩ := op_num rfl h1 (fun n hn => hw n (by rw [hd]; simp only [DataW.weights, Tryz.underlying57]; exact DataW.weights_mem_each (j := 1) (t := 3) (d := x1.1) rfl rfl n hn))
      have g2 : DataW.trod enc Tryz.prog W 0 (fun _ => true) true m 3 ((([c0, c1, c2, c3, c4] : List Value).drop 2).take (Tryz.prog.cellsOf 3)) = some x2 := hg 2 _ rfl
      rw [kc_int] at g2
      have h2 : DataW.trod enc Tryz.prog W 0 (fun _ => true) true m 3 [c2] = some x2 := by simpa using g2
      obtain ⟨y2, r2, b2⟩ := op_num rfl h2 (fun n hn => hw n (by rw [hd]; simp only [DataW.weights, Tryz.underlying57]; exact DataW.weights_mem_each (j := 2) (t := 3) (d := x2.1) rfl rfl n hn))
      have g3 : DataW.trod enc Tryz.prog W 0 (fun _ => true) true m 3 ((([c0, c1, c2, c3, c4] : List Value).drop 3).take (Tryz.prog.cellsOf 3)) = some x3 := hg 3 _ rfl
      rw [kc_int] at g3
      have h3 : DataW.trod enc Tryz.prog W 0 (fun _ => true) true m 3 [c3] = some x3 := by simpa using g3
      obtain ⟨y3, r3, b3⟩ := op_num rfl h3 (fun n hn => hw n (by rw [hd]; simp only [DataW.weights, Tryz.underlying57]; exact DataW.weights_mem_each (j := 3) (t := 3) (d := x3.1) rfl rfl n hn))
      have g4 : DataW.trod enc Tryz.prog W 0 (fun _ => true) true m 9 ((([c0, c1, c2, c3, c4] : List Value).drop 4).take (Tryz.prog.cellsOf 9)) = some x4 := hg 4 _ rfl
      rw [kc_string] at g4
      have h4 : DataW.trod enc Tryz.prog W 0 (fun _ => true) true m 9 [c4] = some x4 := by simpa using g4
      obtain ⟨y4, r4, b4⟩ := op_text rfl h4 (fun n hn => hw n (by rw [hd]; simp only [DataW.weights, Tryz.underlying57]; exact DataW.weights_mem_each (j := 4) (t := 9) (d := x4.1) rfl rfl n hn))
      exact ⟨(y0, y1, y2, y3, y4), ⟨[c0], _, rfl, r0, [c1], _, rfl, r1, [c2], _, rfl, r2, [c3], _, rfl, r3, r4⟩, b0, b1, b2, b3, b4⟩
theorem op_Entry : Opn entM entG 59 := fun {H enc W m x cs} hl ht hw => by
  obtain ⟨xs, m, _, hx, _, hxl, hg⟩ := DataW.trod_struct Tryz.underlying59 ht
  match cs, (show cs.length = 5 from hl) with
  | [c0, c1, c2, c3, c4], _ =>
    have hxs : xs.length = 5 := hxl
    match xs, hxs with
    | [x0, x1, x2, x3, x4], _ =>
      have hd : x.1 = .agg (([x0, x1, x2, x3, x4] : List (DataW H × List MemPlace)).map Prod.fst) := by rw [hx]
      have g0 : DataW.trod enc Tryz.prog W 0 (fun _ => true) true m 3 ((([c0, c1, c2, c3, c4] : List Value).drop 0).take (Tryz.prog.cellsOf 3)) = some x0 := hg 0 _ rfl
      rw [kc_int] at g0
      have h0 : DataW.trod enc Tryz.prog W 0 (fun _ => true) true m 3 [c0] = some x0 := by simpa using g0
      obtain ⟨y0, r0, b0⟩ := op_num rfl h0 (fun n hn => hw n (by rw [hd]; simp only [DataW.weights, Tryz.underlying59]; exact DataW.weights_mem_each (j := 0) (t := 3) (d := x0.1) rfl rfl n hn))
      have g1 : DataW.trod enc Tryz.prog W 0 (fun _ => true) true m 3 ((([c0, c1, c2, c3, c4] : List Value).drop 1).take (Tryz.prog.cellsOf 3)) = some x1 := hg 1 _ rfl
      rw [kc_int] at g1
      have h1 : DataW.trod enc Tryz.prog W 0 (fun _ => true) true m 3 [c1] = some x1 := by simpa using g1
      obtain ⟨y1, r1, b1⟩ := op_num rfl h1 (fun n hn => hw n (by rw [hd]; simp only [DataW.weights, Tryz.underlying59]; exact DataW.weights_mem_each (j := 1) (t := 3) (d := x1.1) rfl rfl n hn))
      have g2 : DataW.trod enc Tryz.prog W 0 (fun _ => true) true m 3 ((([c0, c1, c2, c3, c4] : List Value).drop 2).take (Tryz.prog.cellsOf 3)) = some x2 := hg 2 _ rfl
      rw [kc_int] at g2
      have h2 : DataW.trod enc Tryz.prog W 0 (fun _ => true) true m 3 [c2] = some x2 := by simpa using g2
      obtain ⟨y2, r2, b2⟩ := op_num rfl h2 (fun n hn => hw n (by rw [hd]; simp only [DataW.weights, Tryz.underlying59]; exact DataW.weights_mem_each (j := 2) (t := 3) (d := x2.1) rfl rfl n hn))
      have g3 : DataW.trod enc Tryz.prog W 0 (fun _ => true) true m 43 ((([c0, c1, c2, c3, c4] : List Value).drop 3).take (Tryz.prog.cellsOf 43)) = some x3 := hg 3 _ rfl
      rw [kc_lint] at g3
      have h3 : DataW.trod enc Tryz.prog W 0 (fun _ => true) true m 43 [c3] = some x3 := by simpa using g3
      obtain ⟨y3, r3, b3⟩ := op_lint rfl h3 (fun n hn => hw n (by rw [hd]; simp only [DataW.weights, Tryz.underlying59]; exact DataW.weights_mem_each (j := 3) (t := 43) (d := x3.1) rfl rfl n hn))
      have g4 : DataW.trod enc Tryz.prog W 0 (fun _ => true) true m 43 ((([c0, c1, c2, c3, c4] : List Value).drop 4).take (Tryz.prog.cellsOf 43)) = some x4 := hg 4 _ rfl
      rw [kc_lint] at g4
      have h4 : DataW.trod enc Tryz.prog W 0 (fun _ => true) true m 43 [c4] = some x4 := by simpa using g4
      obtain ⟨y4, r4, b4⟩ := op_lint rfl h4 (fun n hn => hw n (by rw [hd]; simp only [DataW.weights, Tryz.underlying59]; exact DataW.weights_mem_each (j := 4) (t := 43) (d := x4.1) rfl rfl n hn))
      exact ⟨(y0, y1, y2, y3, y4), ⟨[c0], _, rfl, r0, [c1], _, rfl, r1, [c2], _, rfl, r2, [c3], _, rfl, r3, r4⟩, b0, b1, b2, b3, b4⟩
theorem op_lLabel : Opn (listM labM) (listG labG) 23 := op_list labM_ok op_Label Tryz.underlying23 kc_api_Label (by decide) kb_api_Label
theorem op_lDoc : Opn (listM docM) (listG docG) 26 := op_list docM_ok op_Doc Tryz.underlying26 kc_api_Doc (by decide) kb_api_Doc
theorem op_lUndo : Opn (listM thgM) (listG thgG) 53 := op_list thgM_ok op_Undo Tryz.underlying53 kc_api_Undo (by decide) kb_api_Undo
theorem op_lStack : Opn (listM stkM) (listG (listG thgG)) 27 := op_list stkM_ok op_lUndo Tryz.underlying27 kc_lapi_Undo (by decide) kb_lapi_Undo
theorem op_lSeat : Opn (listM seaM) (listG seaG) 28 := op_list seaM_ok op_Seat Tryz.underlying28 kc_api_Seat (by decide) kb_api_Seat
theorem op_lEntry : Opn (listM entM) (listG entG) 29 := op_list entM_ok op_Entry Tryz.underlying29 kc_api_Entry (by decide) kb_api_Entry
theorem op_State : Opn staM staG 31 := fun {H enc W m x cs} hl ht hw => by
  obtain ⟨xs, m, _, hx, _, hxl, hg⟩ := DataW.trod_struct Tryz.underlying31 ht
  match cs, (show cs.length = 8 from hl) with
  | [c0, c1, c2, c3, c4, c5, c6, c7], _ =>
    have hxs : xs.length = 8 := hxl
    match xs, hxs with
    | [x0, x1, x2, x3, x4, x5, x6, x7], _ =>
      have hd : x.1 = .agg (([x0, x1, x2, x3, x4, x5, x6, x7] : List (DataW H × List MemPlace)).map Prod.fst) := by rw [hx]
      have g0 : DataW.trod enc Tryz.prog W 0 (fun _ => true) true m 3 ((([c0, c1, c2, c3, c4, c5, c6, c7] : List Value).drop 0).take (Tryz.prog.cellsOf 3)) = some x0 := hg 0 _ rfl
      rw [kc_int] at g0
      have h0 : DataW.trod enc Tryz.prog W 0 (fun _ => true) true m 3 [c0] = some x0 := by simpa using g0
      obtain ⟨y0, r0, b0⟩ := op_num rfl h0 (fun n hn => hw n (by rw [hd]; simp only [DataW.weights, Tryz.underlying31]; exact DataW.weights_mem_each (j := 0) (t := 3) (d := x0.1) rfl rfl n hn))
      have g1 : DataW.trod enc Tryz.prog W 0 (fun _ => true) true m 3 ((([c0, c1, c2, c3, c4, c5, c6, c7] : List Value).drop 1).take (Tryz.prog.cellsOf 3)) = some x1 := hg 1 _ rfl
      rw [kc_int] at g1
      have h1 : DataW.trod enc Tryz.prog W 0 (fun _ => true) true m 3 [c1] = some x1 := by simpa using g1
      obtain ⟨y1, r1, b1⟩ := op_num rfl h1 (fun n hn => hw n (by rw [hd]; simp only [DataW.weights, Tryz.underlying31]; exact DataW.weights_mem_each (j := 1) (t := 3) (d := x1.1) rfl rfl n hn))
      have g2 : DataW.trod enc Tryz.prog W 0 (fun _ => true) true m 3 ((([c0, c1, c2, c3, c4, c5, c6, c7] : List Value).drop 2).take (Tryz.prog.cellsOf 3)) = some x2 := hg 2 _ rfl
      rw [kc_int] at g2
      have h2 : DataW.trod enc Tryz.prog W 0 (fun _ => true) true m 3 [c2] = some x2 := by simpa using g2
      obtain ⟨y2, r2, b2⟩ := op_num rfl h2 (fun n hn => hw n (by rw [hd]; simp only [DataW.weights, Tryz.underlying31]; exact DataW.weights_mem_each (j := 2) (t := 3) (d := x2.1) rfl rfl n hn))
      have g3 : DataW.trod enc Tryz.prog W 0 (fun _ => true) true m 23 ((([c0, c1, c2, c3, c4, c5, c6, c7] : List Value).drop 3).take (Tryz.prog.cellsOf 23)) = some x3 := hg 3 _ rfl
      rw [kc_lapi_Label] at g3
      have h3 : DataW.trod enc Tryz.prog W 0 (fun _ => true) true m 23 [c3] = some x3 := by simpa using g3
      obtain ⟨y3, r3, b3⟩ := op_lLabel rfl h3 (fun n hn => hw n (by rw [hd]; simp only [DataW.weights, Tryz.underlying31]; exact DataW.weights_mem_each (j := 3) (t := 23) (d := x3.1) rfl rfl n hn))
      have g4 : DataW.trod enc Tryz.prog W 0 (fun _ => true) true m 26 ((([c0, c1, c2, c3, c4, c5, c6, c7] : List Value).drop 4).take (Tryz.prog.cellsOf 26)) = some x4 := hg 4 _ rfl
      rw [kc_lapi_Doc] at g4
      have h4 : DataW.trod enc Tryz.prog W 0 (fun _ => true) true m 26 [c4] = some x4 := by simpa using g4
      obtain ⟨y4, r4, b4⟩ := op_lDoc rfl h4 (fun n hn => hw n (by rw [hd]; simp only [DataW.weights, Tryz.underlying31]; exact DataW.weights_mem_each (j := 4) (t := 26) (d := x4.1) rfl rfl n hn))
      have g5 : DataW.trod enc Tryz.prog W 0 (fun _ => true) true m 27 ((([c0, c1, c2, c3, c4, c5, c6, c7] : List Value).drop 5).take (Tryz.prog.cellsOf 27)) = some x5 := hg 5 _ rfl
      rw [kc_llapi_Undo] at g5
      have h5 : DataW.trod enc Tryz.prog W 0 (fun _ => true) true m 27 [c5] = some x5 := by simpa using g5
      obtain ⟨y5, r5, b5⟩ := op_lStack rfl h5 (fun n hn => hw n (by rw [hd]; simp only [DataW.weights, Tryz.underlying31]; exact DataW.weights_mem_each (j := 5) (t := 27) (d := x5.1) rfl rfl n hn))
      have g6 : DataW.trod enc Tryz.prog W 0 (fun _ => true) true m 28 ((([c0, c1, c2, c3, c4, c5, c6, c7] : List Value).drop 6).take (Tryz.prog.cellsOf 28)) = some x6 := hg 6 _ rfl
      rw [kc_lapi_Seat] at g6
      have h6 : DataW.trod enc Tryz.prog W 0 (fun _ => true) true m 28 [c6] = some x6 := by simpa using g6
      obtain ⟨y6, r6, b6⟩ := op_lSeat rfl h6 (fun n hn => hw n (by rw [hd]; simp only [DataW.weights, Tryz.underlying31]; exact DataW.weights_mem_each (j := 6) (t := 28) (d := x6.1) rfl rfl n hn))
      have g7 : DataW.trod enc Tryz.prog W 0 (fun _ => true) true m 29 ((([c0, c1, c2, c3, c4, c5, c6, c7] : List Value).drop 7).take (Tryz.prog.cellsOf 29)) = some x7 := hg 7 _ rfl
      rw [kc_lapi_Entry] at g7
      have h7 : DataW.trod enc Tryz.prog W 0 (fun _ => true) true m 29 [c7] = some x7 := by simpa using g7
      obtain ⟨y7, r7, b7⟩ := op_lEntry rfl h7 (fun n hn => hw n (by rw [hd]; simp only [DataW.weights, Tryz.underlying31]; exact DataW.weights_mem_each (j := 7) (t := 29) (d := x7.1) rfl rfl n hn))
      exact ⟨(y0, y1, y2, y3, y4, y5, y6, y7), ⟨[c0], _, rfl, r0, [c1], _, rfl, r1, [c2], _, rfl, r2, [c3], _, rfl, r3, [c4], _, rfl, r4, [c5], _, rfl, r5, [c6], _, rfl, r6, r7⟩, b0, b1, b2, b3, b4, b5, b6, b7⟩
theorem op_User : Opn usrM usrG 42 := fun {H enc W m x cs} hl ht hw => by
  obtain ⟨xs, m, _, hx, _, hxl, hg⟩ := DataW.trod_struct Tryz.underlying42 ht
  match cs, (show cs.length = 3 from hl) with
  | [c0, c1, c2], _ =>
    have hxs : xs.length = 3 := hxl
    match xs, hxs with
    | [x0, x1, x2], _ =>
      have hd : x.1 = .agg (([x0, x1, x2] : List (DataW H × List MemPlace)).map Prod.fst) := by rw [hx]
      have g0 : DataW.trod enc Tryz.prog W 0 (fun _ => true) true m 9 ((([c0, c1, c2] : List Value).drop 0).take (Tryz.prog.cellsOf 9)) = some x0 := hg 0 _ rfl
      rw [kc_string] at g0
      have h0 : DataW.trod enc Tryz.prog W 0 (fun _ => true) true m 9 [c0] = some x0 := by simpa using g0
      obtain ⟨y0, r0, b0⟩ := op_text rfl h0 (fun n hn => hw n (by rw [hd]; simp only [DataW.weights, Tryz.underlying42]; exact DataW.weights_mem_each (j := 0) (t := 9) (d := x0.1) rfl rfl n hn))
      have g1 : DataW.trod enc Tryz.prog W 0 (fun _ => true) true m 9 ((([c0, c1, c2] : List Value).drop 1).take (Tryz.prog.cellsOf 9)) = some x1 := hg 1 _ rfl
      rw [kc_string] at g1
      have h1 : DataW.trod enc Tryz.prog W 0 (fun _ => true) true m 9 [c1] = some x1 := by simpa using g1
      obtain ⟨y1, r1, b1⟩ := op_text rfl h1 (fun n hn => hw n (by rw [hd]; simp only [DataW.weights, Tryz.underlying42]; exact DataW.weights_mem_each (j := 1) (t := 9) (d := x1.1) rfl rfl n hn))
      have g2 : DataW.trod enc Tryz.prog W 0 (fun _ => true) true m 9 ((([c0, c1, c2] : List Value).drop 2).take (Tryz.prog.cellsOf 9)) = some x2 := hg 2 _ rfl
      rw [kc_string] at g2
      have h2 : DataW.trod enc Tryz.prog W 0 (fun _ => true) true m 9 [c2] = some x2 := by simpa using g2
      obtain ⟨y2, r2, b2⟩ := op_text rfl h2 (fun n hn => hw n (by rw [hd]; simp only [DataW.weights, Tryz.underlying42]; exact DataW.weights_mem_each (j := 2) (t := 9) (d := x2.1) rfl rfl n hn))
      exact ⟨(y0, y1, y2), ⟨[c0], _, rfl, r0, [c1], _, rfl, r1, r2⟩, b0, b1, b2⟩
theorem op_lUser : Opn (listM usrM) (listG usrG) 22 := op_list usrM_ok op_User Tryz.underlying22 kc_api_User (by decide) kb_api_User
theorem op_Config : Opn cfgM cfgG 25 := fun {H enc W m x cs} hl ht hw => by
  obtain ⟨xs, m, _, hx, _, hxl, hg⟩ := DataW.trod_struct Tryz.underlying25 ht
  match cs, (show cs.length = 9 from hl) with
  | [c0, c1, c2, c3, c4, c5, c6, c7, c8], _ =>
    have hxs : xs.length = 9 := hxl
    match xs, hxs with
    | [x0, x1, x2, x3, x4, x5, x6, x7, x8], _ =>
      have hd : x.1 = .agg (([x0, x1, x2, x3, x4, x5, x6, x7, x8] : List (DataW H × List MemPlace)).map Prod.fst) := by rw [hx]
      have g0 : DataW.trod enc Tryz.prog W 0 (fun _ => true) true m 22 ((([c0, c1, c2, c3, c4, c5, c6, c7, c8] : List Value).drop 0).take (Tryz.prog.cellsOf 22)) = some x0 := hg 0 _ rfl
      rw [kc_lapi_User] at g0
      have h0 : DataW.trod enc Tryz.prog W 0 (fun _ => true) true m 22 [c0] = some x0 := by simpa using g0
      obtain ⟨y0, r0, b0⟩ := op_lUser rfl h0 (fun n hn => hw n (by rw [hd]; simp only [DataW.weights, Tryz.underlying25]; exact DataW.weights_mem_each (j := 0) (t := 22) (d := x0.1) rfl rfl n hn))
      have g1 : DataW.trod enc Tryz.prog W 0 (fun _ => true) true m 23 ((([c0, c1, c2, c3, c4, c5, c6, c7, c8] : List Value).drop 1).take (Tryz.prog.cellsOf 23)) = some x1 := hg 1 _ rfl
      rw [kc_lapi_Label] at g1
      have h1 : DataW.trod enc Tryz.prog W 0 (fun _ => true) true m 23 [c1] = some x1 := by simpa using g1
      obtain ⟨y1, r1, b1⟩ := op_lLabel rfl h1 (fun n hn => hw n (by rw [hd]; simp only [DataW.weights, Tryz.underlying25]; exact DataW.weights_mem_each (j := 1) (t := 23) (d := x1.1) rfl rfl n hn))
      have g2 : DataW.trod enc Tryz.prog W 0 (fun _ => true) true m 3 ((([c0, c1, c2, c3, c4, c5, c6, c7, c8] : List Value).drop 2).take (Tryz.prog.cellsOf 3)) = some x2 := hg 2 _ rfl
      rw [kc_int] at g2
      have h2 : DataW.trod enc Tryz.prog W 0 (fun _ => true) true m 3 [c2] = some x2 := by simpa using g2
      obtain ⟨y2, r2, b2⟩ := op_num rfl h2 (fun n hn => hw n (by rw [hd]; simp only [DataW.weights, Tryz.underlying25]; exact DataW.weights_mem_each (j := 2) (t := 3) (d := x2.1) rfl rfl n hn))
      have g3 : DataW.trod enc Tryz.prog W 0 (fun _ => true) true m 3 ((([c0, c1, c2, c3, c4, c5, c6, c7, c8] : List Value).drop 3).take (Tryz.prog.cellsOf 3)) = some x3 := hg 3 _ rfl
      rw [kc_int] at g3
      have h3 : DataW.trod enc Tryz.prog W 0 (fun _ => true) true m 3 [c3] = some x3 := by simpa using g3
      obtain ⟨y3, r3, b3⟩ := op_num rfl h3 (fun n hn => hw n (by rw [hd]; simp only [DataW.weights, Tryz.underlying25]; exact DataW.weights_mem_each (j := 3) (t := 3) (d := x3.1) rfl rfl n hn))
      have g4 : DataW.trod enc Tryz.prog W 0 (fun _ => true) true m 3 ((([c0, c1, c2, c3, c4, c5, c6, c7, c8] : List Value).drop 4).take (Tryz.prog.cellsOf 3)) = some x4 := hg 4 _ rfl
      rw [kc_int] at g4
      have h4 : DataW.trod enc Tryz.prog W 0 (fun _ => true) true m 3 [c4] = some x4 := by simpa using g4
      obtain ⟨y4, r4, b4⟩ := op_num rfl h4 (fun n hn => hw n (by rw [hd]; simp only [DataW.weights, Tryz.underlying25]; exact DataW.weights_mem_each (j := 4) (t := 3) (d := x4.1) rfl rfl n hn))
      have g5 : DataW.trod enc Tryz.prog W 0 (fun _ => true) true m 3 ((([c0, c1, c2, c3, c4, c5, c6, c7, c8] : List Value).drop 5).take (Tryz.prog.cellsOf 3)) = some x5 := hg 5 _ rfl
      rw [kc_int] at g5
      have h5 : DataW.trod enc Tryz.prog W 0 (fun _ => true) true m 3 [c5] = some x5 := by simpa using g5
      obtain ⟨y5, r5, b5⟩ := op_num rfl h5 (fun n hn => hw n (by rw [hd]; simp only [DataW.weights, Tryz.underlying25]; exact DataW.weights_mem_each (j := 5) (t := 3) (d := x5.1) rfl rfl n hn))
      have g6 : DataW.trod enc Tryz.prog W 0 (fun _ => true) true m 3 ((([c0, c1, c2, c3, c4, c5, c6, c7, c8] : List Value).drop 6).take (Tryz.prog.cellsOf 3)) = some x6 := hg 6 _ rfl
      rw [kc_int] at g6
      have h6 : DataW.trod enc Tryz.prog W 0 (fun _ => true) true m 3 [c6] = some x6 := by simpa using g6
      obtain ⟨y6, r6, b6⟩ := op_num rfl h6 (fun n hn => hw n (by rw [hd]; simp only [DataW.weights, Tryz.underlying25]; exact DataW.weights_mem_each (j := 6) (t := 3) (d := x6.1) rfl rfl n hn))
      have g7 : DataW.trod enc Tryz.prog W 0 (fun _ => true) true m 3 ((([c0, c1, c2, c3, c4, c5, c6, c7, c8] : List Value).drop 7).take (Tryz.prog.cellsOf 3)) = some x7 := hg 7 _ rfl
      rw [kc_int] at g7
      have h7 : DataW.trod enc Tryz.prog W 0 (fun _ => true) true m 3 [c7] = some x7 := by simpa using g7
      obtain ⟨y7, r7, b7⟩ := op_num rfl h7 (fun n hn => hw n (by rw [hd]; simp only [DataW.weights, Tryz.underlying25]; exact DataW.weights_mem_each (j := 7) (t := 3) (d := x7.1) rfl rfl n hn))
      have g8 : DataW.trod enc Tryz.prog W 0 (fun _ => true) true m 3 ((([c0, c1, c2, c3, c4, c5, c6, c7, c8] : List Value).drop 8).take (Tryz.prog.cellsOf 3)) = some x8 := hg 8 _ rfl
      rw [kc_int] at g8
      have h8 : DataW.trod enc Tryz.prog W 0 (fun _ => true) true m 3 [c8] = some x8 := by simpa using g8
      obtain ⟨y8, r8, b8⟩ := op_num rfl h8 (fun n hn => hw n (by rw [hd]; simp only [DataW.weights, Tryz.underlying25]; exact DataW.weights_mem_each (j := 8) (t := 3) (d := x8.1) rfl rfl n hn))
      exact ⟨(y0, y1, y2, y3, y4, y5, y6, y7, y8), ⟨[c0], _, rfl, r0, [c1], _, rfl, r1, [c2], _, rfl, r2, [c3], _, rfl, r3, [c4], _, rfl, r4, [c5], _, rfl, r5, [c6], _, rfl, r6, [c7], _, rfl, r7, r8⟩, b0, b1, b2, b3, b4, b5, b6, b7, b8⟩
theorem op_arg {α : Type} {M : Rep α} {g : α → Prop} {ty : TypeId} (h : Opn M g ty) {fs} (hu : Tryz.prog.underlying ty = some (.struct fs)) (hk : Tryz.prog.cellsOf ty = M.k) {W : World} {v : Value} {d : DataW H} {p : List MemPlace} {base : Nat} (hv : Value.okWide Tryz.prog W .any base ty v) (ht : DataW.Trod enc Tryz.prog W 0 (fun _ => true) true ty v d p) (hw : ∀ n ∈ d.weights Tryz.prog ty, n ≤ B47) : ∃ (cs : List Value) (y : α), v = .agg cs.toArray ∧ M.R (fun _ => True) W cs y ∧ g y := by
  obtain ⟨cs, rfl, hsz⟩ := okWide_struct hu hv
  obtain ⟨fuel, hf⟩ := ht
  obtain ⟨l⟩ := cs
  obtain ⟨y, h1, h2⟩ := h (x := (d, p)) (show l.length = M.k from by rw [← hk]; exact hsz) hf hw
  exact ⟨l, y, rfl, h1, h2⟩
theorem kc_api_State : Tryz.prog.cellsOf 31 = 8 := by kernel_rfl
theorem open_state {W : World} {v : Value} {d : DataW H} {p : List MemPlace} {base : Nat} (hv : Value.okWide Tryz.prog W .any base 31 v) (ht : DataW.Trod enc Tryz.prog W 0 (fun _ => true) true 31 v d p) (hw : ∀ n ∈ d.weights Tryz.prog 31, n ≤ B47) : ∃ (cs : List Value) (y : Sta), v = .agg cs.toArray ∧ staM.R (fun _ => True) W cs y ∧ staG y := op_arg op_State Tryz.underlying31 kc_api_State hv ht hw
theorem kc_api_Config : Tryz.prog.cellsOf 25 = 9 := by kernel_rfl
theorem open_config {W : World} {v : Value} {d : DataW H} {p : List MemPlace} {base : Nat} (hv : Value.okWide Tryz.prog W .any base 25 v) (ht : DataW.Trod enc Tryz.prog W 0 (fun _ => true) true 25 v d p) (hw : ∀ n ∈ d.weights Tryz.prog 25, n ≤ B47) : ∃ (cs : List Value) (y : Cfg), v = .agg cs.toArray ∧ cfgM.R (fun _ => True) W cs y ∧ cfgG y := op_arg op_Config Tryz.underlying25 kc_api_Config hv ht hw
end
end Go.Proofs.YtccaiippoephbaaGreatDoor.Sta
