import PyProof.Rows.All
import Wide.All
import OpenK.AllK
import Wide.FinOn
import HandS.ForMost
import HandS.Exc
import HandS.ExcInit
import HandS.ExcIs
import HandS.ExcField
import PyProof.ReprReads
import HandS.NoneIn
import PyProof.TupleOfSeq
import PyProof.Rows.SortStr
import HandS.Flow
import HandS.IsInst
import HandS.Walk
import HandS.More
import HandS.Text
import HandS.SetKeys
import HandS.Rev
import HandS.GenList
import HandS.ExcValue
import PyProof.ListNew
import HandS.TupAny
import HandS.Style
import PySem.Challenge.RW_foldsame_k50_partitions
set_option Elab.async false
set_option linter.all false
set_option maxRecDepth 100000
set_option maxHeartbeats 4000000
/-! Own rules: exceptions of own classes as values (made, read, asked by isinstance), repr of lists of plain values. -/
namespace PySem.W
open PySem PySem.Spec PySem.Calls PyProof.Rows
section
variable {prog : Program} {w : World} {A : Around} {E : Value → Shared → Prop} {s : Shared} {K : Frag} {x D : Addr} {ox : Obj} {od : Option Obj}
theorem fs_findClass (hdct : hasDictIn K D = true) (ha : findIn K (.ref D) "__class__" = some (some (.builtin "object.__class__"))) (hn : specialIn K (.builtin "object.__class__") "__get__" = some (some (.builtin "getset_descriptor.__get__")))
    (htk : takesIn K (.builtin "object.__class__") = some true) : findObj K D od "__class__" = some (.bind (.builtin "getset_descriptor.__get__") (.builtin "object.__class__")) := by
  obtain ⟨cd, hcd, _⟩ := any_some hdct
  unfold findObj; rw [hcd, Option.bind_some, ha, Option.bind_some]; simp [hn, htk]
theorem fs_class {Q : Option Value → Shared → Prop} (hga : findIn K (.ref D) "__getattribute__" = some (some (.builtin "BaseException.__getattribute__"))) (hgt : findIn K (.ref D) "__getattr__" = some none) (hsub : subIn K (.ref D) (.type "BaseException") = some true)
    (hdct : hasDictIn K D = true) (ha : findIn K (.ref D) "__class__" = some (some (.builtin "object.__class__")))
    (hn : specialIn K (.builtin "object.__class__") "__get__" = some (some (.builtin "getset_descriptor.__get__"))) (htk : takesIn K (.builtin "object.__class__") = some true) (hm : mroIn K D (.type "object") = some true)
    (KX : K.In s.heap) (J : InstAt s.heap x ox D od) (hq : Q (some (.ref D)) { s with toks := s.toks + 1 }) : wpAny (model prog w) A (getAttr? (.ref x) "__class__") Q E s := by
  have hfind : findObj K D od "__class__" = some (.bind (.builtin "getset_descriptor.__get__") (.builtin "object.__class__")) := fs_findClass hdct ha hn htk
  obtain ⟨hp, gg, dd, tt, oo⟩ := s
  have M0 := J.type (M := model prog w); have M1 := looks_findIn (M := model prog w) KX hga
  have M2 := looks_findIn (M := model prog w) KX hgt; have M3 := looks_find (M := model prog w) KX J hfind
  have hisB : Looks (model prog w) hp (isInstance (.ref x) (.type "BaseException")) true := M0.andThen (looks_subIn KX hsub)
  have e0 : (false && onTheHeap (Value.builtin "BaseException.__getattribute__")) = false := rfl
  have e2 : (Value.builtin "BaseException.__getattribute__" == Value.builtin "object.__getattribute__") = false := by decide +kernel
  have e1 : (onTheHeap (Value.ref D) && Value.builtin "BaseException.__getattribute__" == Value.builtin "object.__getattribute__") = false := by rw [e2] <;> rfl
  unfold getAttr? getAttrBy? getAttrBy
  refine wpAny_bind (wpAny_mkText (wpAny_bind (wpAny_attempt (wpAny_holding (wpAny_bind (M0.at (wpAny_bind (M1.at ?_))))))))
  show wpAny _ _ (if (onTheHeap (Value.ref D) && Value.builtin "BaseException.__getattribute__" == Value.builtin "object.__getattribute__") = true then _ else _) _ _ _
  rw [e1, if_neg Bool.false_ne_true]; unfold getAttrByItsOwn hookBefore
  refine wpAny_bind ?_
  rw [if_pos (show onTheHeap (Value.ref D) = true from rfl)]; refine M2.at ?_
  refine wpAny_bind (wpAny_attempt (wpAny_holding ?_)); unfold callGetattribute
  rw [e0, if_neg Bool.false_ne_true]; unfold boundAndCalled
  rw [PySem.F.excAttr_ValueError.ga.bind (.ref x)]; refine wpAny_bind (wpAny_pure ?_)
  show wpAny _ _ (call (.builtin "BaseException.__getattribute__") [.ref x, .str "__class__" tt]) _ _ _
  refine wpAny_call (codeAny_call_builtin PySem.F.excAttr_ValueError.ga.plain PySem.F.entry_bexc_ga ?_)
  refine @check_slot (model prog w) _ _ ⟨hp, gg, dd, tt + 1, oo⟩ "BaseException.__getattribute__" "BaseException" "__getattribute__" (.ref x) [.str "__class__" tt] [] _ (by decide +kernel) (by decide +kernel) hisB (PySem.F.args_bexc_ga (.ref x) (.str "__class__" tt)) ?_
  unfold Builtin.«object.__getattribute__»
  refine wpAny_bind (wpAny_of_eq (a := ((Value.ref x : Value), [Value.str "__class__" tt])) (by first | rfl | (simp only [slotArgs]; rfl)) ?_)
  refine wpAny_bind (wpAny_pure (wpAny_bind (M0.at (wpAny_bind (M3.at ?_)))))
  show wpAny _ _ (holding [Value.builtin "object.__class__"] (call (.builtin "getset_descriptor.__get__") [.builtin "object.__class__", .ref x, .ref D]) >>= ret) _ _ _
  refine wpAny_bind (wpAny_holding (wpAny_call (class_get (s := ⟨hp, gg, dd, tt + 1, oo⟩) (ox := ox) (od := od) KX J hm ?_))); refine wpAny_pure ?_
  show wpAny _ _ (handedOut (.ref D)) _ _ _
  rw [handedOut_of (v := .ref D) rfl]
  first | exact wpAny_pure (wpAny_pure hq) | exact wpAny_pure hq | exact wpAny_pure (wpAny_bind (wpAny_pure (wpAny_pure hq)))
theorem fs_kitx (hga : findIn K (.ref D) "__getattribute__" = some (some (.builtin "BaseException.__getattribute__"))) (hgt : findIn K (.ref D) "__getattr__" = some none) (hsub : subIn K (.ref D) (.type "BaseException") = some true) (hdct : hasDictIn K D = true) (ha : findIn K (.ref D) "__class__" = some (some (.builtin "object.__class__")))
    (hn : specialIn K (.builtin "object.__class__") "__get__" = some (some (.builtin "getset_descriptor.__get__"))) (htk : takesIn K (.builtin "object.__class__") = some true) (hm : mroIn K D (.type "object") = some true) :
    KitX K (.ref x) (.ref D) (fun h => ∃ ox od, InstAt h x ox D od) where
  ty := fun _ _ _ ⟨_, _, J⟩ => J.type
  it := fun _ _ KX _ => by
    obtain ⟨cc, hcc, _⟩ := any_some hdct
    unfold clsIn at hcc
    split at hcc
    · rename_i hlook
      intro A1 Q1 E1 s1 kk qq; unfold isType loadHead
      exact wpAny_bind (wpAny_loadPart (kk _ _ (KX _ _ hlook)) (wpAny_pure qq))
    · cases hcc
  ne := fun hh tp dd its nn sl KX htp => by
    obtain ⟨cc, hcc, _⟩ := any_some hdct
    refine Bool.eq_false_iff.mpr fun qq => ?_
    have eD : D = tp := Value.ref.inj (beq_iff_eq.mp qq)
    subst eD; unfold clsIn at hcc
    split at hcc
    · rename_i hlook
      have zz := (KX _ _ hlook).symm.trans htp; cases zz
    · cases hcc
  ca := fun KX ⟨_, _, J⟩ kk => fs_class hga hgt hsub hdct ha hn htk hm KX J kk
end
end PySem.W
namespace FS
open PySem PySem.Spec PyProof.Rows L2
/-! ### made -/
/-- C(e, ..) as a value, C's own __init__ keeping sp -/
def tMkV (C : Addr) (sp : Sp) (dvs : List V) (ta : TA) : TE := fun σ H Q => ta σ H fun vs H1 => vs.length ≤ 1000 ∧ ∀ a, H1 a = none →
  sp (.ref a :: (vs ++ dvs)) (upd H1 a (exo a C none)) (fun v H2 => v = .non ∧ Q (.ref a) H2) (fun _ _ _ => False)
section
variable {X : Cx} {e : Expr} {es : List Expr} {te : TE} {ta : TA} {p pos : Pos}
theorem pe_mkV {CX : CXT} {x : Str} {C fI : Addr} {k : Nat} {fd : FuncData} {ps : List Str} {sp : Sp} {ds : List Value} {dvs : List V} (T : OexC X.K C) (iC : PySem.W.findIn X.K (.ref C) "__init__" = some (some (.ref fI))) (tI : PySem.W.typeIn X.K (.ref fI) = some (.type "function"))
    (F1 : FnOk X.prog X.w X.K X.mg X.base CX k fI fd ps sp) (hr : Room (k + 1) X.A) (hb : Binds X.K fd ps ds) (hd : Vals dvs ds) (hx : Passes CX X (fun _ _ _ => False)) (hg : Gl X x) (hm : X.mg x = some (.ref C)) (ha : PA X (e :: es) ta)
    (hdb : (x == ("__debug__" : Str)) = false := by decide) (he : starEach (e :: es) X.env = (false, eval e X.env) :: starEach es X.env := by rfl) (hpl : (backTo pos (starEach es X.env)).any (·.1) = false := by rfl) :
    PE X (.Call (.Name x p) (e :: es) [] pos) (tMkV C sp dvs ta) := by
  refine ⟨fun pins st0 σ H Q I h => ?_⟩
  obtain ⟨nm, q, N, bs, bm, sn, sub, ab, col, dd, k0, k1, k2, k3, k5, hC, hbm⟩ := T.cls
  refine wpAny_Call_Name_kw (ld_glob I hg hm ?_ hdb)
  refine PySem.W.callWith_K (h₀ := X.base) I.ok.mod.kin T.kC (thn (ha.run pos pins st0 σ H _ I h) fun us s1 ⟨vs, H1, I1, r1, hz, q1⟩ => ⟨I1.kIn, ?_⟩) he hpl
  show wpAny _ _ (call (.ref C) us) _ _ _
  obtain ⟨hp, g, dr, tk, os⟩ := s1
  have hsz1 : hp.objs.size ≤ hp.objs.size + 1 := Nat.le_succ _
  have hn1 : H1 (hp.objs.size + 1) = none := I1.hok.fresh hsz1
  have hq1 := q1 (hp.objs.size + 1) hn1
  have kk1 : ∀ b o, hp.get? b = some o → ((hp.push (PySem.W.kdv_tup us)).push (PySem.HandSPX.excO C hp.objs.size)).get? b = some o := fun b o eo => Heap.get?_push_of_some _ (Heap.get?_push_of_some _ eo)
  have hget1 : ((hp.push (PySem.W.kdv_tup us)).push (PySem.HandSPX.excO C hp.objs.size)).get? (hp.objs.size + 1) = some (PySem.HandSPX.excO C hp.objs.size) := by heap_get
  have J2 : Inv X pins σ (upd H1 (hp.objs.size + 1) (exo (hp.objs.size + 1) C none)) ⟨(hp.push (PySem.W.kdv_tup us)).push (PySem.HandSPX.excO C hp.objs.size), g, dr, tk, os⟩ :=
    I1.laid (t' := tk) (a := hp.objs.size + 1) (o := exo (hp.objs.size + 1) C none) (h' := (hp.push (PySem.W.kdv_tup us)).push (PySem.HandSPX.excO C hp.objs.size)) kk1 hsz1 (exo_ok hget1)
  have rr2 : Vals (V.ref (hp.objs.size + 1) :: (vs ++ dvs)) (Value.ref (hp.objs.size + 1) :: (us ++ ds)) := .cons rfl (r1.append hd)
  have hl1 : (Value.ref (hp.objs.size + 1) :: us ++ ds).length = ps.length := by
    have e9 := rr2.length
    rw [F1.len _ _ _ _ hq1] at e9; exact e9.symm
  have hus1 : us.length ≤ sizeLine := by
    rw [← Paired.length r1, sizeLine_eq]; omega
  refine wpAny_call (PySem.HandSPX.call_own F.excBase_ValueError (fun Y => PySem.HandSPX.refsVE_contains Y bm hbm) (I1.kIn _ _ hC) (PySem.W.looks_findIn I1.kIn iC) (fun self => PySem.W.bind_fn I1.kIn self tI) hus1
    (codeAny_mono (F1.run _ X.stack _ _ ⟨Value.ref (hp.objs.size + 1) :: us, []⟩ (Value.ref (hp.objs.size + 1) :: (us ++ ds)) _ _ (fun _ _ _ => False) (hr.make C us []) (J2.env0.make C us []) (hb _ (Value.ref (hp.objs.size + 1) :: us) J2.kIn hl1) rr2 hq1) fun r s' hq' => ?_))
  cases r with
  | error er => exact hx pins σ _ _ er s' J2 hq'
  | ok fl =>
    cases fl with
    | ret u =>
      obtain ⟨v, H2, os2, bare2, un2, hok2, rv, ev, q2⟩ := hq'
      subst ev
      exact ⟨rv, .ref (hp.objs.size + 1), H2, J2.call' (ch := []) os2 un2 hok2 bare2 (fun b z => absurd z (by simp)), rfl, q2⟩
    | next => exact False.elim hq'
    | brk => exact False.elim hq'
    | cont => exact False.elim hq'
/-! ### read -/
def tXo (K : PySem.W.Frag) (f : Str) (te : TE) : TE := fun σ H Q => te σ H fun x H1 => ∃ (a C dd : Addr) (fs : List (Str × V)) (v : V), x = .ref a ∧ H1 a = some (exo a C (some dd)) ∧ H1 dd = some (exd dd fs) ∧ XfC K C ∧ PySem.W.findIn K (.ref C) f = some none ∧ fs.lookup f = some v ∧ Q v H1
theorem pe_xo {n : Str} (he : PE X e te) (hb : attributeBase e n X.env (eval e X.env) = eval e X.env := by rfl) : PE X (.Attribute e n pos) (tXo X.K n te) := by
  refine ⟨fun pins s σ H Q I h => ?_⟩
  refine attr_of hb (thn (he.run pins s σ H _ I h) fun u s1 hh => ?_)
  obtain ⟨x, H1, I1, rx, a, C, dd, fs, v, ex, ea, ed, T, hno, l, q⟩ := hh
  subst ex
  obtain rfl : u = Value.ref a := rx
  obtain ⟨t1, ho⟩ := exo_at I1.hok ea
  obtain ⟨mA, hns, hr⟩ := exd_at I1.hok ed
  obtain ⟨od, hod, hl⟩ := lookIn_ns hns
  obtain ⟨u, hu, ru⟩ := RelO.some_of (v := v) (o := mA n) (by rw [← l]; exact hr n)
  have J : PySem.W.InstAt s1.heap a { cls := .ref C, dict := some dd, data := .fields #[.ref t1, .none, .none, .none, .bool false, .none] } C (some od) := ⟨ho, rfl, rfl, hod⟩
  exact HandSPX.exc_get I1.kIn J T.ga T.gg T.exC (PySem.W.findObj_own T.hdC hno rfl (by rw [hl, hu])) (handed_of ru) ⟨v, H1, I1.tok _, ru, q⟩
end
/-! ### isinstance -/
def rIsO (K : PySem.W.Frag) : List V → Hp → VK → Prop := fun xs H Q => ∃ (a C d : Addr) (fs : List (Str × V)) (c : V) (cv : Value) (b : Bool), xs = [.ref a, c] ∧ H a = some (exo a C (some d)) ∧ H d = some (exd d fs) ∧ ExcC K C ∧ (∀ u, RelV c u → u = cv) ∧ PySem.W.kitOne K (.ref C) cv = some b ∧ Q (.bl b) H
theorem call_isO {X : Cx} : CallR X (.builtin "isinstance") (rIsO X.K) := by
  intro pins s σ H xs us Q I r h
  obtain ⟨a, C, d, fs, c, cv, b, rfl, ea, ed, T, hcv, e, q⟩ := h
  obtain ⟨u1, u2, rfl, r1, r2⟩ := vals2 r
  cases (show u1 = Value.ref a from r1)
  have ec := hcv _ r2
  subst ec
  obtain ⟨t1, ho⟩ := exo_at I.hok ea
  obtain ⟨mA, hns, hr⟩ := exd_at I.hok ed
  obtain ⟨od, hod, hl⟩ := lookIn_ns hns
  have J : PySem.W.InstAt s.heap a { cls := .ref C, dict := some d, data := .fields #[.ref t1, .none, .none, .none, .bool false, .none] } C (some od) := ⟨ho, rfl, rfl, hod⟩
  exact PySem.W.kia_one (PySem.W.fs_kitx T.hg T.hk T.hs T.hd T.ha T.hn T.ht T.hm) I.kIn ⟨_, _, J⟩ e (fun z => nomatch z) fun tk => ⟨.bl b, H, I.tok tk, rfl, q⟩
/-! ### repr of a list of plain values (an empty dict among them, not deeper) -/
inductive Dq (K : PySem.W.Frag) (H : Hp) : V → PyData → Prop
  | dp {v : V} {d : PyData} : Dp K H v d → d.hasDict = false → Dq K H v d
  | emp {a : Addr} : H a = some (.dK []) → Dq K H (.ref a) (.dict [])
inductive DqAll (K : PySem.W.Frag) (H : Hp) : List V → List PyData → Prop
  | nil : DqAll K H [] []
  | cons {v : V} {vs : List V} {d : PyData} {ds : List PyData} : Dq K H v d → DqAll K H vs ds → DqAll K H (v :: vs) (d :: ds)
section
variable {X : Cx} {pins : List (Addr × Obj)} {σ : L2.St} {H : Hp} {s : Shared}
theorem Dq.repr (I : Inv X pins σ H s) {v : V} {d : PyData} {u : Value} (h : Dq X.K H v d) (r : RelV v u) (hs : d.showable = true) (hz : d.shown.length ≤ sizeLine) :
    ∃ as bs, Reads s.heap u d as ∧ ReadAtMost s.heap d.depth bs ∧ ReprK X.prog X.w bs s.heap d.depth u d.shown := by
  cases h with
  | dp h hd =>
    obtain ⟨as, rd⟩ := Dp.reads I d v u h r
    obtain ⟨bs, h1, h2⟩ := ReprK.of_reads (prog := X.prog) (w := X.w) rd hs (PyData.noDict_hsm hd) hz
    exact ⟨as, bs, rd, h1, h2⟩
  | @emp a ea =>
    cases (show u = Value.ref a from r)
    obtain ⟨_, hsm, vs, kv, o, es, ep, h1, h2, h3, _, h4, _⟩ := (show ObjOk X.prog X.w H s.heap a (.dK []) from I.hok a _ ea)
    cases kv
    have e0 : es.toList = [] := by
      cases hq : es.toList with
      | nil => rfl
      | cons x xs =>
        rw [hq] at h4
        first | exact absurd h4 (by simp [Pairs]) | cases h4
    have rd : Reads s.heap (.ref a) (.dict []) (a :: [] ++ []) := .dict (kvs := []) h1 h2.1 h3 (by rw [e0]; exact .nil) (by rw [e0]; exact .nil)
    obtain ⟨bs, q1, q2⟩ := ReprK.of_reads (prog := X.prog) (w := X.w) rd hs (fun _ hm => by
      have : sysModules = a := by simpa using hm
      rw [this] at hsm
      simp at hsm) hz
    exact ⟨_, bs, rd, q1, q2⟩
theorem DqAll.repr (I : Inv X pins σ H s) : ∀ {vs : List V} {ds : List PyData} {us : List Value}, DqAll X.K H vs ds → Vals vs us → PyData.showableAll ds = true → (∀ t ∈ PyData.shownAll ds, t.length ≤ sizeLine) →
    ∃ as bs, ReadsAll s.heap us ds as ∧ ReadAtMost s.heap (PyData.depthAll ds) bs ∧ ReprAllK X.prog X.w bs s.heap (PyData.depthAll ds) us (PyData.shownAll ds)
  | _, _, _, .nil, .nil, _, _ => ⟨[], [], .nil, (fun _ h => nomatch h), by simp only [PyData.shownAll]; exact .nil⟩
  | _, _, _, .cons (d := d) (ds := ds) h hl, .cons r rl, hs, hz => by
    have hs2 : d.showable = true ∧ PyData.showableAll ds = true := by simpa [PyData.showableAll] using hs
    obtain ⟨a1, c1, rd1, q1, k1⟩ := Dq.repr I h r hs2.1 (hz _ (by simp only [PyData.shownAll]; exact List.mem_cons_self ..))
    obtain ⟨a2, c2, rd2, q2, k2⟩ := DqAll.repr I hl rl hs2.2 (fun t ht => hz t (by simp only [PyData.shownAll]; exact List.mem_cons_of_mem _ ht))
    refine ⟨_, c1 ++ c2, .cons rd1 rd2, ?_, ?_⟩
    · simp only [PyData.depthAll]
      exact (q1.mono (Nat.le_max_left _ _)).append (q2.mono (Nat.le_max_right _ _))
    · simp only [PyData.depthAll, PyData.shownAll]
      exact .cons ((k1.more fun b hb => List.mem_append_left _ hb).level_le (Nat.le_max_left _ _)) (k2.more_le (fun b hb => List.mem_append_right _ hb) (Nat.le_max_right _ _))
end
def rReprL (K : PySem.W.Frag) : List V → Hp → VK → Prop := fun xs H Q => ∃ (a : Addr) (v : V) (vs : List V) (ds : List PyData), xs = [.ref a] ∧ H a = some (.lst (v :: vs)) ∧ DqAll K H (v :: vs) ds ∧ PyData.showableAll ds = true ∧ PyData.depthAll ds ≤ 30 ∧
  (listText (PyData.shownAll ds)).length ≤ sizeLine ∧ Q (.str (listText (PyData.shownAll ds))) H
theorem call_reprL {X : Cx} (hg : X.A.guards = some []) (hu : X.A.units + 64 < cLine) : CallR X (.builtin "repr") (rReprL X.K) := by
  intro pins s σ H xs us Q I r h
  obtain ⟨a, v, vs, ds, rfl, ea, hd, hs, hdep, hz, q⟩ := h
  cases r with
  | cons ra rn =>
    cases rn
    rename_i u1
    cases (show u1 = Value.ref a from ra)
    obtain ⟨_, its, n, rv, ho⟩ := (show ObjOk X.prog X.w H s.heap a (.lst (v :: vs)) from I.hok a _ ea)
    cases rv with
    | @cons _ u _ ul r1 r2 =>
      obtain ⟨as, bs, rd, hb, hk⟩ := DqAll.repr I hd (.cons r1 r2) hs (fun t ht => Nat.le_trans (listText_mem_le ht) hz)
      have rr : Reads s.heap (.ref a) (.list ds) (a :: as) := .list ho rfl rfl rd
      have hna : a ∉ bs := not_mem_of_deeper rr (by simp only [PyData.depth]; omega) hb
      refine call_repr_slot (by omega) ⟨_, ho, rfl⟩ F.slot_list_repr.toG ?_
      exact call_list_reprK ho rfl rfl hna (by simpa using hk.length_eq) (fun i y e => hk.item i y (by simpa using e)) hg (fun b _ => Clear.nil b) (by show X.A.units + 1 + _ < cLine; omega) (fun _ _ e => e)
        (fun h' t tk hk' => ⟨_, _, rfl, .str (listText (PyData.shownAll ds)), H, I.kept (t' := tk) hk', ⟨_, rfl⟩, q⟩) hz
end FS

set_option Elab.async false
set_option linter.all false
set_option maxRecDepth 100000
set_option maxHeartbeats 4000000
/-! The law's own def is called where no guard stands: its promise may use that (repr of lists asks it). -/
namespace FS
open PySem PySem.Spec PyProof.Rows L2
structure FnG (P : Program) (w : World) (K : PySem.W.Frag) (mg : Str → Option Value) (base : Heap) (k : Nat) (f : Addr) (fd : FuncData) (ps : List Str) (sp : Sp) : Prop where
  len : ∀ vs H Q E, sp vs H Q E → vs.length = ps.length
  run : ∀ (A : Around) (out1 : List Env) (st1 : Shared) (H : Hp) (args : Args) (us : List Value) (vs : List V) (Q : VK) (E : XK), A.guards = some [] → Room k A → Env0 P w K mg base A out1 st1 H → BindsTo st1 fd args (ps.zip us) → Vals vs us → sp vs H Q E →
    codeAny (model P w) A (.call (.ref f) args) (CR CX0 out1 P w H st1 Q E) st1
section
variable {P : Program} {w : World} {K : PySem.W.Frag} {mg : Str → Option Value} {base : Heap}
theorem okG {x qual : Str} {st : Stmt} {f : Addr} {fd : FuncData} {N ps : List Str} {k : Nat} {sp : Sp} (F : Fun K x qual st f fd) (S : FnScope N ps (defScope st)) (hlen : ∀ vs H Q E, sp vs H Q E → vs.length = ps.length)
    (hbd : ∀ (cdv : Value) (A : Around) (out1 : List Env) (st1 : Shared) (H : Hp) (vs : List V) (Q : VK) (E : XK), (A.deeper (envOfC qual (defScope st) st1.heap.objs.size f cdv)).guards = some [] → Room k (A.deeper (envOfC qual (defScope st) st1.heap.objs.size f cdv)) → sp vs H Q E →
      ∃ t, PSs (cxOf CX0 P w K mg base N qual (defScope st) f cdv A out1 st1 H E).nox (defBody st) t ∧ t { nx := fun _ H' => Q .non H', rt := Q } (start N vs) H) : FnG P w K mg base (k + 1) f fd ps sp := by
  obtain ⟨oc, od, kV, doc, pm, an, cdv, ct, osl, rfl, lk, hcd⟩ := F.ex
  refine ⟨hlen, fun A out1 st1 H args us vs Q E hgd hr1 en0 hb1 rv1 hsp1 => ?_⟩
  have hl1 := hlen _ _ _ _ hsp1
  have KX1 : K.In st1.heap := en0.mod.kin.keeps fun b1 o1 e1 => (en0.bs b1 o1 e1).1
  have lim1 : st1.heap.NoLimit := en0.mod.nolimit.keeps fun b1 o1 e1 => (en0.bs b1 o1 e1).1
  have hknd : ∀ y1 ∈ ps.zip us, (defScope st).names.lookup y1.1 = some .local ∨ ((defScope st).names.lookup y1.1 = some .cell ∧ ((cellsFrom (st1.heap.objs.size + 1) (defScope st).names []).lookup y1.1).isSome = true) := fun ⟨n1, v1⟩ hy1 => by
    rcases S.par n1 (List.of_mem_zip hy1).1 with q1 | q1
    · exact .inl q1
    · exact .inr ⟨q1, PySem.W.cellsFrom_some _ _ _ (.inl q1)⟩
  refine codeAny_call_function hr1.depth (KX1 _ _ lk) rfl S.co S.gen rfl (PySem.W.codeRec_of KX1 hcd) (hb1 _ _ _ _ ?_)
  refine wpAny_newFunctionEnv_cells S.kind hknd fun env1 he1 st2 x1 => ?_
  subst he1; refine ⟨lim1.keeps x1.toInCall.keep, codeAny_func ?_⟩
  obtain ⟨t, ht0, hq1⟩ := hbd cdv A out1 st1 H vs Q E hgd (hr1.deeper _) hsp1
  have ht := ht0.nox
  have I1 : Inv (cxOf CX0 P w K mg base N qual (defScope st) f cdv A out1 st1 H E) [] (start N vs) H st2 := inv_start S hr1.hd en0 hl1 rv1 x1
  refine wpAny_mono (ht.run [] st2 (start N vs) H _ I1 hq1) (fun fl st3 hs1 => ?_) fun _ st3 hs1 => hs1
  have done1 : ∀ {σ1 : L2.St} {H1 : Hp} {v : V} {u : Value}, Inv (cxOf CX0 P w K mg base N qual (defScope st) f cdv A out1 st1 H E) [] σ1 H1 st3 → RelV v u → Q v H1 → CE out1 P w H st1 Q u st3 :=
    fun {σ1 H1 v u} J1 rv q1 => ⟨v, H1, J1.os, J1.bare, J1.base, J1.hok, rv, q1⟩
  cases fl with
  | ret u => obtain ⟨v, σ1, H1, J1, rv, q1⟩ := hs1; exact done1 J1 rv q1
  | next => obtain ⟨σ1, H1, J1, q1⟩ := hs1; exact done1 (v := V.non) (u := Value.none) J1 rfl q1
  | brk => obtain ⟨_, _, _, q1⟩ := hs1; exact False.elim q1
  | cont => obtain ⟨_, _, _, q1⟩ := hs1; exact False.elim q1
theorem law_callG {mb : Str → Option Value} {k : Nat} {fa a : Addr} {fd : FuncData} {x : Str} {sp : Sp} {st1 : Shared} {vs : List Value} {ns : List Int}
    (KX : K.In st1.heap) (hns : st1.heap.Ns mainGlobals mg) (hbl : st1.heap.Ns builtinsNs mb) (hbb : ∀ x : Str, x ≠ "__name__" → mb x = bootBuiltins x) (hlim : st1.heap.NoLimit) (hgn : st1.gens = #[])
    (hat : st1.heap.get? a = some { cls := .type "list", data := .seq vs.toArray }) (hi : IntsAre vs ns) (hl : ns.length ≤ sizeLine) (hr1 : Room k callerA)
    (F : ∀ base : Heap, K.In base → base.Ns mainGlobals mg → FnG P w K mg base k fa fd [x] sp) (hbind : ∀ (s : Shared) (u : Value), BindsTo s fd ⟨[u], []⟩ [(x, u)])
    (hsp1 : ∀ H : Hp, Only H → SqL K H a (ns.map V.int) → sp [.ref a] H (fun v _ => v = .bl true) fun _ _ _ => False) :
    codeAny (model P w) callerA (.call (.ref fa) ⟨[.ref a], []⟩) (fun r s' => r = .ok (.ret (.bool true)) ∧ OldK st1.heap s'.heap ∧ s'.os = st1.os ∧ AllBare s'.gens) st1 := by
  have rv1 := vals_ints hi
  have lenV1 := hi.length
  have core1 : ∀ H : Hp, Only H → SqL K H a (ns.map V.int) → HOk P w H st1.heap → (∀ b1, H b1 ≠ none → b1 = a) → (H a ≠ none → K.lookup a = none) →
      codeAny (model P w) callerA (.call (.ref fa) ⟨[.ref a], []⟩) (fun r s' => r = .ok (.ret (.bool true)) ∧ OldK st1.heap s'.heap ∧ s'.os = st1.os ∧ AllBare s'.gens) st1 := by
    intro H hO1 hS1 hok1 hA1 hK1
    have base1 : ∀ {b1 : Addr} {o1 : Obj}, st1.heap.get? b1 = some o1 → H b1 = none → (hidT st1.heap H).get? b1 = some o1 := fun e1 n1 => hidT_get e1 n1
    have noA1 : ∀ {b1 : Addr} {o1 : Obj} {es1 : Array DictEntry} {ep1 : Nat}, st1.heap.get? b1 = some o1 → o1.data = .dict es1 ep1 → H b1 = none := fun {b1 o1 es1 ep1} e1 d1 => by
      cases q1 : H b1 with
      | none => rfl
      | some u1 =>
        have e2 : b1 = a := hA1 b1 (by rw [q1]; simp)
        subst e2; rw [hat] at e1; cases e1
        have d2 : Data.seq vs.toArray _ = Data.dict es1 ep1 := d1
        cases d2
    have nsK1 : ∀ {b1 : Addr} {m : Str → Option Value}, st1.heap.Ns b1 m → (hidT st1.heap H).Ns b1 m := fun {b1 m} ⟨o1, es1, ep1, e1, d1, r1⟩ => ⟨o1, es1, ep1, base1 e1 (noA1 e1 d1), d1, r1⟩
    have hKb1 : K.In (hidT st1.heap H) := fun b1 o1 e1 => base1 (KX b1 o1 e1) (by
      cases q1 : H b1 with
      | none => rfl
      | some u1 =>
        have e2 : b1 = a := hA1 b1 (by rw [q1]; simp)
        subst e2; rw [hK1 (by rw [q1]; simp)] at e1; cases e1)
    have hM1 : Mod K mg (hidT st1.heap H) := ⟨hKb1, nsK1 hns, ⟨mb, nsK1 hbl, hbb⟩, let ⟨mc, h1, h2⟩ := hlim; ⟨mc, nsK1 h1, h2⟩⟩
    have en0 : Env0 P w K mg (hidT st1.heap H) callerA [] st1 H := ⟨rfl, hM1, fun b1 o1 e1 => of_hidT e1, Nat.le_of_eq (hidT_size _ _), trivial, fun b1 hb1 => absurd (show b1 ∈ ([] : List Addr) from hb1) (by simp), hok1, .of_eq hgn⟩
    refine codeAny_mono ((F _ hKb1 (nsK1 hns)).run callerA [] st1 H ⟨[.ref a], []⟩ [.ref a] [.ref a] _ _ rfl hr1 en0 (hbind st1 (.ref a)) (.cons rfl .nil) (hsp1 H hO1 hS1)) fun r s' h1 => ?_
    cases r with
    | error e1 => exact False.elim h1
    | ok fl =>
      cases fl with
      | next => exact False.elim h1
      | brk => exact False.elim h1
      | cont => exact False.elim h1
      | ret u1 =>
        obtain ⟨v1, H1, os1, bare1, un1, hok2, r1, q1⟩ := h1
        have q2 : v1 = .bl true := q1
        subst q2; obtain rfl : u1 = Value.bool true := r1
        refine ⟨rfl, OldK.of_keep fun b1 o1 e1 => ?_, os1, bare1⟩
        cases q3 : H b1 with
        | none => exact un1.keep b1 o1 e1 q3 (by intro z; exact absurd (show b1 ∈ ([] : List Addr) from z) (by simp)) (by simp)
        | some u2 =>
          rcases hO1 b1 with z1 | ⟨ob1, xs1, z1⟩
          · rw [q3] at z1; cases z1
          · have z2 := un1.frzs b1 ob1 _ z1
            obtain ⟨e3, _⟩ := hok1 b1 _ z1; obtain ⟨e4, _⟩ := hok2 b1 _ z2
            rw [e1] at e3; cases e3; exact e4
  cases hk1 : K.lookup a with
  | some o1 =>
    have e1 := KX a o1 hk1
    rw [hat] at e1; cases e1
    refine core1 (fun _ => none) (fun _ => .inl rfl) (.inr ⟨_, vs.toArray, _, hk1, rfl, rfl, rfl, by rw [List.size_toArray, lenV1]; exact hl, by simpa using rv1⟩) (fun b1 u1 z1 => by have z2 : (none : Option HO) = some u1 := z1; cases z2) (fun b1 z1 => absurd rfl z1) fun z1 => absurd rfl z1
  | none =>
    refine core1 (fun b1 => if b1 = a then some (.frz { cls := .type "list", data := .seq vs.toArray } (.lst (ns.map V.int))) else none) (fun b1 => ?_) (.inl (.inr ⟨{ cls := .type "list", data := .seq vs.toArray }, if_pos rfl⟩)) (fun b1 u1 z1 => ?_) (fun b1 z1 => ?_) fun _ => hk1
    · by_cases hb1 : b1 = a
      · exact .inr ⟨_, _, if_pos hb1⟩
      · exact .inl (if_neg hb1)
    · by_cases hb1 : b1 = a
      · have z2 := (if_pos hb1).symm.trans z1
        cases z2; subst hb1
        exact ⟨hat, by rw [List.length_map]; exact hl, vs, _, rv1, hat⟩
      · have z2 := (if_neg hb1).symm.trans z1
        cases z2
    · by_cases hb1 : b1 = a
      · exact hb1
      · exact absurd (if_neg hb1) z1
end
theorem walk_G {l : PySem.W.OpenLaw} {n k : Nat} {qp : Program} {loose : List Str} {XP : (Str → Option Value) → Heap → Prop} {YP : World → Heap → Prop} {dr : DefRec} {KK : Params → PySem.W.Frag} {sp : World → Sp} {x : Str}
    (hn : l.most = some n) (hn2 : n ≤ sizeLine) (hdf : dr.params.defaults = []) (hr1 : Room k callerA) (hY : ∀ (w : World) (h : Heap), YP w h → (KK w.params).In h)
    (F : ∀ (w : World) (mg : Str → Option Value) (fa : Addr) (h : Heap), (KK w.params).In h → h.Ns mainGlobals mg → mg dr.name = some (.ref fa) →
      ∃ fd : FuncData, (∀ (s : Shared) (u : Value), BindsTo s fd ⟨[u], []⟩ [(x, u)]) ∧ ∀ base : Heap, (KK w.params).In base → base.Ns mainGlobals mg → FnG l.prog w (KK w.params) mg base k fa fd [x] (sp w))
    (hsp1 : ∀ (w : World) (H : Hp) (a : Addr) (ns : List Int), ns.length ≤ n → Only H → SqL (KK w.params) H a (ns.map V.int) → sp w [.ref a] H (fun v _ => v = .bl true) fun _ _ _ => False) :
    PySem.W.WalkO qp loose XP YP l.row.toRowW dr [] (fun f vs => PySem.call f vs) := by
  refine Att.attach_call hn hdf fun w s0 st1 mg mb fa o pm cd doc a vs ns G Y ho hd hcd hmg hobj hints hlen hgn => ?_
  have KX1 := hY w _ Y
  obtain ⟨fd, hb1, hF1⟩ := F w mg fa _ KX1 G.T.g hmg
  exact law_callG KX1 G.T.g G.T.b G.T.builtins G.T.nolimit hgn hobj hints (Nat.le_trans hlen hn2) hr1 hF1 hb1 (fun H hO1 hS1 => hsp1 w H a ns hlen hO1 hS1)
end FS

set_option Elab.async false
set_option linter.all false
set_option maxRecDepth 100000
set_option maxHeartbeats 4000000
/-! What both laws on errors use: an error's class, a made error, plain values that repr shows, isinstance over a list of errors. -/
namespace FS
open PySem PySem.Spec PyProof.Rows L2
/-! ### heaps -/
theorem same_new {H : Hp} {p : Addr} {o : HO} (h : H p = none) : Same H (upd H p o) := fun b x e => by
  rw [upd_ne (ne_of_none e h)]; exact e
/-- all but p as it was -/
def Off (p : Addr) (H H' : Hp) : Prop := ∀ b o, b ≠ p → H b = some o → H' b = some o
theorem Off.of {p : Addr} {H H' : Hp} (h : Same H H') : Off p H H' := fun b o _ e => h b o e
theorem Off.trans {p : Addr} {H H1 H2 : Hp} (h : Off p H H1) (k : Off p H1 H2) : Off p H H2 := fun b o n e => k b o n (h b o n e)
theorem Off.put {p : Addr} {H : Hp} {o : HO} : Off p H (upd H p o) := fun b x n e => by rw [upd_ne n]; exact e
theorem Off.same {p : Addr} {H H1 H2 : Hp} (h : Same H H1) (hp : H p = none) (k : Off p H1 H2) : Same H H2 := fun b o e => k b o (ne_of_none e hp) (h b o e)
/-! ### plain values -/
mutual
theorem Dp_mono {K : PySem.W.Frag} {H H' : Hp} (s : Same H H') : ∀ (d : PyData) (v : V), Dp K H v d → Dp K H' v d
  | .none, _, h => by cases h; exact .non
  | .bool b, _, h => by cases h; exact .bl b
  | .int i, _, h => by cases h; exact .int i
  | .str x, _, h => by cases h; exact .str x
  | .list ds, _, h => by
    cases h with
    | lst hs ha => exact .lst (s.seq hs) (DpAll_mono s ds _ ha)
  | .tuple ds, _, h => by
    cases h with
    | tup hs ha =>
      refine .tup ?_ (DpAll_mono s ds _ ha)
      rcases hs with (h | ⟨o, h⟩) | h
      · exact .inl (.inl (s _ _ h))
      · exact .inl (.inr ⟨o, s _ _ h⟩)
      · exact .inr h
  | .dict _, _, h => by cases h
theorem DpAll_mono {K : PySem.W.Frag} {H H' : Hp} (s : Same H H') : ∀ (ds : List PyData) (vs : List V), DpAll K H vs ds → DpAll K H' vs ds
  | [], _, h => by cases h; exact .nil
  | d :: ds, _, h => by
    cases h with
    | cons h1 h2 => exact .cons (Dp_mono s d _ h1) (DpAll_mono s ds _ h2)
end
/-- a value that repr shows shortly -/
def Nice (K : PySem.W.Frag) (H : Hp) (v : V) (d : PyData) : Prop := Dq K H v d ∧ d.showable = true ∧ d.depth ≤ 5 ∧ d.shown.length ≤ 40
theorem Dq_mono {K : PySem.W.Frag} {H H' : Hp} {v : V} {d : PyData} (s : Same H H') (h : Dq K H v d) : Dq K H' v d := by
  cases h with
  | dp h hd => exact .dp (Dp_mono s d v h) hd
  | emp h => exact .emp (s _ _ h)
theorem Nice.mono {K : PySem.W.Frag} {H H' : Hp} {v : V} {d : PyData} (s : Same H H') (h : Nice K H v d) : Nice K H' v d := ⟨Dq_mono s h.1, h.2⟩
inductive NiceAll (K : PySem.W.Frag) (H : Hp) : List V → List PyData → Prop
  | nil : NiceAll K H [] []
  | cons {v : V} {vs : List V} {d : PyData} {ds : List PyData} : Nice K H v d → NiceAll K H vs ds → NiceAll K H (v :: vs) (d :: ds)
theorem NiceAll.dq {K : PySem.W.Frag} {H : Hp} : ∀ {vs : List V} {ds : List PyData}, NiceAll K H vs ds → DqAll K H vs ds
  | _, _, .nil => .nil
  | _, _, .cons h t => .cons h.1 t.dq
theorem NiceAll.show {K : PySem.W.Frag} {H : Hp} : ∀ {vs : List V} {ds : List PyData}, NiceAll K H vs ds → PyData.showableAll ds = true
  | _, _, .nil => by simp [PyData.showableAll]
  | _, _, .cons h t => by simp only [PyData.showableAll, h.2.1, t.show, Bool.and_self]
theorem NiceAll.depth {K : PySem.W.Frag} {H : Hp} : ∀ {vs : List V} {ds : List PyData}, NiceAll K H vs ds → PyData.depthAll ds ≤ 30
  | _, _, .nil => by simp [PyData.depthAll]
  | _, _, .cons h t => by
    simp only [PyData.depthAll]
    have h1 := h.2.2.1
    have h2 := t.depth
    omega
theorem text_len : ∀ (ts : List Str) (k : Nat) (acc : Str), (∀ t ∈ ts, t.length ≤ 40) → (textFrom k acc ts).length ≤ acc.length + 42 * ts.length
  | [], k, acc, _ => Nat.le_refl _
  | t :: r, k, acc, h => by
    have h1 := h t (List.mem_cons_self ..)
    have h2 : (Str.ofString "").length = 0 := by decide
    have h3 : (Str.ofString ", ").length = 2 := by decide
    unfold textFrom
    refine Nat.le_trans (text_len r _ _ (fun x hx => h x (List.mem_cons_of_mem _ hx))) ?_
    rw [List.length_cons]
    repeat rw [strLen_append]
    split <;> omega
theorem NiceAll.len {K : PySem.W.Frag} {H : Hp} : ∀ {vs : List V} {ds : List PyData}, NiceAll K H vs ds → (PyData.shownAll ds).length = vs.length ∧ ∀ t ∈ PyData.shownAll ds, t.length ≤ 40
  | _, _, .nil => ⟨by simp [PyData.shownAll], fun t h => by simp [PyData.shownAll] at h⟩
  | _, _, .cons h t => by
    obtain ⟨h1, h2⟩ := t.len
    simp only [PyData.shownAll]
    refine ⟨by rw [List.length_cons, List.length_cons, h1], fun x hx => ?_⟩
    rcases List.mem_cons.mp hx with rfl | hx
    · exact h.2.2.2
    · exact h2 x hx
theorem NiceAll.size {K : PySem.W.Frag} {H : Hp} {vs : List V} {ds : List PyData} (h : NiceAll K H vs ds) (hv : vs.length ≤ 1000) : (listText (PyData.shownAll ds)).length ≤ sizeLine := by
  obtain ⟨h1, h2⟩ := h.len
  have h3 := text_len (PyData.shownAll ds) 0 "[" h2
  have h4 : (Str.ofString "[").length = 1 := by decide
  have h5 : (Str.ofString "]").length = 1 := by decide
  unfold listText
  rw [strLen_append, sizeLine_eq]
  rw [h1] at h3
  omega
end FS

set_option Elab.async false
set_option linter.all false
set_option maxRecDepth 100000
set_option maxHeartbeats 4000000
namespace FS
open PySem PySem.Spec PyProof.Rows L2
/-! ### an error's class -/
structure EC (K : PySem.W.Frag) (mg : Str → Option Value) (nm : Str) (C fI : Addr) : Prop where
  oex : OexC K C
  gC : mg nm = some (.ref C)
  iC : PySem.W.findIn K (.ref C) "__init__" = some (some (.ref fI))
  tI : PySem.W.typeIn K (.ref fI) = some (.type "function")
  xf : XfC K C
  ec : ExcC K C
theorem ec_mk {K : PySem.W.Frag} {h : Heap} {mg : Str → Option Value} (X : K.In h) (G : h.Ns mainGlobals mg) {nm : Str} {C fI : Addr} {n1 q : Str} {N : Addr} {bs bm : List Value} {sn : List Str} {sub : List Value} {ab : Bool} {col : Option Bool} {dd : Option Addr} {m0 m1 m2 m3 m5 : Option Value}
    (aC : PySem.W.nsIn K mainGlobals nm = some (some (.ref C))) (xL : K.lookup C = some (excClassObj n1 q C N bs bm true sn sub ab col dd m0 m1 m2 m3 m5 "ValueError.__new__")) (bmv : PySem.HandSPX.refsVE bm = true)
    (sa : PySem.W.findIn K (.ref C) "__setattr__" = some (some (.builtin "object.__setattr__"))) (ga : PySem.W.findIn K (.ref C) "__getattribute__" = some (some (.builtin "BaseException.__getattribute__"))) (gg : PySem.W.findIn K (.ref C) "__getattr__" = some none)
    (a1 : PySem.W.findIn K (.ref C) "__init__" = some (some (.ref fI))) (t1 : PySem.W.typeIn K (.ref fI) = some (.type "function")) (kC : PySem.W.keepIn K (.ref C) = true) (eC : PySem.W.subIn K (.ref C) (.type "BaseException") = some true)
    (tC : PySem.W.typeIn K (.ref C) = some (.type "type")) (hC : PySem.W.hasDictIn K C = true) (cC : PySem.W.findIn K (.ref C) "__class__" = some (some (.builtin "object.__class__"))) (mC : PySem.W.mroIn K C (.type "object") = some true)
    (hn : PySem.W.specialIn K (.builtin "object.__class__") "__get__" = some (some (.builtin "getset_descriptor.__get__"))) (ht : PySem.W.takesIn K (.builtin "object.__class__") = some true) : EC K mg nm C fI :=
  ⟨⟨⟨n1, q, N, bs, bm, sn, sub, ab, col, dd, m0, m1, m2, m3, m5, xL, bmv⟩, sa, eC, tC, kC⟩, PySem.W.mg_of X G aC, a1, t1, ⟨ga, gg, eC, hC⟩, ⟨ga, gg, eC, hC, cC, hn, ht, mC⟩⟩
/-- isinstance's answer over classes -/
theorem kit_own {K : PySem.W.Frag} {D C : Addr} {b : Bool} (hd : PySem.W.hasDictIn K C = true) (ty : PySem.W.typeIn K (.ref C) = some (.type "type")) (h : PySem.W.subIn K (.ref D) (.ref C) = some b) (hb : D = C → b = true) : PySem.W.kitOne K (.ref D) (.ref C) = some b := by
  unfold PySem.W.kitOne
  by_cases e : D = C
  · subst e
    rw [if_pos (by simp), hb rfl]
  · have ne : ((Value.ref D) == (Value.ref C)) = false := beq_eq_false_iff_ne.mpr fun q => e (Value.ref.inj q)
    rw [ne, if_neg Bool.false_ne_true]
    obtain ⟨cd, hc, _⟩ := PySem.W.any_some hd
    show (if ((PySem.W.clsIn K C).isSome && PySem.W.typeIn K (.ref C) == some (.type "type")) = true then PySem.W.subIn K (.ref D) (.ref C) else none) = some b
    rw [if_pos (by rw [hc, ty] <;> rfl)]
    exact h
theorem kit_ve {K : PySem.W.Frag} {D : Addr} {b : Bool} (h : PySem.W.subIn K (.ref D) (.type "ValueError") = some b) : PySem.W.kitOne K (.ref D) (.type "ValueError") = some b := by
  unfold PySem.W.kitOne
  have ne : ((Value.ref D) == (Value.type "ValueError")) = false := beq_eq_false_iff_ne.mpr fun q => nomatch q
  rw [ne, if_neg Bool.false_ne_true]
  show (if PySem.W.kitMeta "ValueError" = true then PySem.W.subIn K (.ref D) (.type "ValueError") else none) = some b
  rw [if_pos (by decide +kernel)]
  exact h
/-! ### an error made -/
def ErrAt (H : Hp) (a C : Addr) (fs : List (Str × V)) : Prop := ∃ d, H a = some (exo a C (some d)) ∧ H d = some (exd d fs)
theorem ErrAt.mono {H H' : Hp} {a C : Addr} {fs : List (Str × V)} (s : Same H H') (h : ErrAt H a C fs) : ErrAt H' a C fs := by
  obtain ⟨d, h1, h2⟩ := h
  exact ⟨d, s _ _ h1, s _ _ h2⟩
def spI1 (C : Addr) (f : Str) : Sp := fun vs H Q _ => ∃ (a : Addr) (v : V), vs = [.ref a, v] ∧ H a = some (exo a C none) ∧ ∀ H', Off a H H' → ErrAt H' a C [(f, v)] → Q .non H'
def spI2 (C : Addr) (f g : Str) : Sp := fun vs H Q _ => ∃ (a : Addr) (v u : V), vs = [.ref a, v, u] ∧ H a = some (exo a C none) ∧ ∀ H', Off a H H' → ErrAt H' a C [(g, u), (f, v)] → Q .non H'
def spI3 (C : Addr) (f g i : Str) : Sp := fun vs H Q _ => ∃ (a : Addr) (v u x : V), vs = [.ref a, v, u, x] ∧ H a = some (exo a C none) ∧ ∀ H', Off a H H' → ErrAt H' a C [(i, x), (g, u), (f, v)] → Q .non H'
theorem off_first {H : Hp} {a dx C : Addr} {u : HO} (n : H dx = none) : Off a H (upd (upd H dx u) a (exo a C (some dx))) := fun b o hb e => by rw [upd_ne hb, upd_ne (ne_of_none e n)]; exact e
theorem err_first {H : Hp} {a dx C : Addr} {fs : List (Str × V)} (ne : dx ≠ a) : ErrAt (upd (upd H dx (exd dx fs)) a (exo a C (some dx))) a C fs := ⟨dx, upd_same, by rw [upd_ne ne, upd_same]⟩
theorem err_next {H : Hp} {a dx C : Addr} {fs : List (Str × V)} (ne : dx ≠ a) (h : H a = some (exo a C (some dx))) : ErrAt (upd H dx (exd dx fs)) a C fs := ⟨dx, by rw [upd_ne ne.symm]; exact h, upd_same⟩
section
variable {P : Program} {w : World} {K : PySem.W.Frag} {mg : Str → Option Value} {base : Heap} {H : Hp} {C : Addr} {f g i : Str} {Q : VK}
theorem mk1 {v : V} (h : ∀ a H', Same H H' → H a = none → ErrAt H' a C [(f, v)] → Q (.ref a) H') :
    [v].length ≤ 1000 ∧ ∀ a, H a = none → spI1 C f (.ref a :: ([v] ++ [])) (upd H a (exo a C none)) (fun v H2 => v = .non ∧ Q (.ref a) H2) (fun _ _ _ => False) :=
  ⟨by simp, fun a na => ⟨a, v, rfl, upd_same, fun H' o e => ⟨rfl, h a H' (Off.same (same_new na) na o) na e⟩⟩⟩
theorem mk2 {v u : V} (h : ∀ a H', Same H H' → H a = none → ErrAt H' a C [(g, u), (f, v)] → Q (.ref a) H') :
    [v, u].length ≤ 1000 ∧ ∀ a, H a = none → spI2 C f g (.ref a :: ([v, u] ++ [])) (upd H a (exo a C none)) (fun v H2 => v = .non ∧ Q (.ref a) H2) (fun _ _ _ => False) :=
  ⟨by simp, fun a na => ⟨a, v, u, rfl, upd_same, fun H' o e => ⟨rfl, h a H' (Off.same (same_new na) na o) na e⟩⟩⟩
theorem mk3 {v u x : V} (h : ∀ a H', Same H H' → H a = none → ErrAt H' a C [(i, x), (g, u), (f, v)] → Q (.ref a) H') :
    [v, u, x].length ≤ 1000 ∧ ∀ a, H a = none → spI3 C f g i (.ref a :: ([v, u, x] ++ [])) (upd H a (exo a C none)) (fun v H2 => v = .non ∧ Q (.ref a) H2) (fun _ _ _ => False) :=
  ⟨by simp, fun a na => ⟨a, v, u, x, rfl, upd_same, fun H' o e => ⟨rfl, h a H' (Off.same (same_new na) na o) na e⟩⟩⟩
end
/-! ### isinstance over a list of errors -/
inductive Isi (K : PySem.W.Frag) (H : Hp) (cv : Value) : List V → List Bool → Prop
  | nil : Isi K H cv [] []
  | cons {a C : Addr} {fs : List (Str × V)} {b : Bool} {vs : List V} {bs : List Bool} : ErrAt H a C fs → ExcC K C → PySem.W.kitOne K (.ref C) cv = some b → Isi K H cv vs bs → Isi K H cv (.ref a :: vs) (b :: bs)
theorem Isi.mono {K : PySem.W.Frag} {H H' : Hp} {cv : Value} (s : Same H H') : ∀ {vs : List V} {bs : List Bool}, Isi K H cv vs bs → Isi K H' cv vs bs
  | _, _, .nil => .nil
  | _, _, .cons h1 h2 h3 t => .cons (h1.mono s) h2 h3 (t.mono s)
theorem Isi.get {K : PySem.W.Frag} {H : Hp} {cv : Value} : ∀ {vs : List V} {bs : List Bool} {i : Nat} {v : V}, Isi K H cv vs bs → vs[i]? = some v → ∃ a C fs b, v = .ref a ∧ ErrAt H a C fs ∧ ExcC K C ∧ PySem.W.kitOne K (.ref C) cv = some b ∧ bs[i]? = some b
  | _, _, i, v, .nil, e => by simp at e
  | _, _, 0, v, .cons h1 h2 h3 t, e => by
    simp at e
    exact ⟨_, _, _, _, e.symm, h1, h2, h3, by simp⟩
  | _, _, i + 1, v, .cons h1 h2 h3 t, e => by
    simp at e
    obtain ⟨a, C, fs, b, r⟩ := t.get e
    exact ⟨a, C, fs, b, r.1, r.2.1, r.2.2.1, r.2.2.2.1, by simpa using r.2.2.2.2⟩
theorem Isi.len {K : PySem.W.Frag} {H : Hp} {cv : Value} : ∀ {vs : List V} {bs : List Bool}, Isi K H cv vs bs → bs.length = vs.length
  | _, _, .nil => rfl
  | _, _, .cons _ _ _ t => by rw [List.length_cons, List.length_cons, t.len]
/-- one isinstance -/
theorem isi_one {K : PySem.W.Frag} {H : Hp} {a C : Addr} {fs : List (Str × V)} {b : Bool} {c : V} {cv : Value} {Q : VK} (h1 : ErrAt H a C fs) (h2 : ExcC K C) (hc : ∀ u, RelV c u → u = cv) (h3 : PySem.W.kitOne K (.ref C) cv = some b) (q : Q (.bl b) H) : rIsO K [.ref a, c] H Q := by
  obtain ⟨d, e1, e2⟩ := h1
  exact ⟨a, C, d, fs, c, cv, b, rfl, e1, e2, h2, hc, h3, q⟩
/-- [isinstance(x, c) for x in xs] -/
theorem comp_isi {K : PySem.W.Frag} {i j : Nat} {σ : L2.St} {H : Hp} {Q : VK} {l : Addr} {vs : List V} {bs : List Bool} {c : V} {cv : Value} (h1 : σ[i]? = some (some (.ref l))) (hl : SqL K H l vs) (hv : Isi K H cv vs bs) (hc : ∀ u, RelV c u → u = cv) (hz : vs.length ≤ 100) (hj : j < σ.length)
    (hq : ∀ D H', Same H H' → H' D = some (.lst (bs.map .bl)) → Q (.ref D) H') : tLc (iList K (tVar i)) (gName j) tYes (tCB (rIsO K) (tCons (tVar j) (tCons (tC c) tNil))) [j] σ H Q := by
  refine ⟨_, h1, l, rfl, ⟨_, hl⟩, fun D hD => ?_⟩
  have s0 : Same H (upd H D (.lst [])) := same_new hD
  refine lc_list (xs := vs) (fun i H' => Same H H' ∧ H' D = some (.lst ((bs.take i).map .bl))) ⟨s0, upd_same⟩ (fun _ _ _ h => h.1.seq hl) (fun k x H' hx ⟨s, hd⟩ => ?_) (fun H' ⟨s, hd⟩ => hq D H' s ?_)
  · obtain ⟨a, C, fs, b, rfl, e1, e2, e3, e4⟩ := (hv.mono s).get hx
    refine ⟨by simp [wipe], ?_⟩
    refine ⟨.ref a, by simp [wipe, hj], ?_⟩
    dsimp only [tCons, tC, tNil]
    refine isi_one e1 e2 hc e3 ⟨_, hd, ?_, ?_, ?_⟩
    · rw [List.length_map, List.length_take]
      have := hv.len
      exact small1000 (by omega)
    · intro b' o e
      rw [upd_ne (ne_of_none e hD)]
      exact s _ _ e
    · rw [upd_same, List.take_add_one, e4, List.map_append]
      rfl
  · rw [hd, ← hv.len, List.take_length]
end FS

set_option Elab.async false
set_option linter.all false
set_option maxRecDepth 100000
set_option maxHeartbeats 4000000
namespace FS
open PySem PySem.Spec PyProof.Rows L2
section
variable {K : PySem.W.Frag} {H : Hp} {Q : VK}
theorem mkL {xs : List V} (hl : xs.length ≤ 1000) (h : ∀ p H', Same H H' → H p = none → H' p = some (.lst xs) → Q (.ref p) H') : xs.length ≤ sizeLine ∧ ∀ p, H p = none → Q (.ref p) (upd H p (.lst xs)) :=
  ⟨Nat.le_of_lt (small1000 hl), fun p np => h p _ (same_new np) np upd_same⟩
theorem mkT {xs : List V} (hl : xs.length ≤ 1000) (h : ∀ p H', Same H H' → H p = none → H' p = some (.tup xs) → Q (.ref p) H') : xs.length ≤ sizeLine ∧ ∀ p, H p = none → Q (.ref p) (upd H p (.tup xs)) :=
  ⟨Nat.le_of_lt (small1000 hl), fun p np => h p _ (same_new np) np upd_same⟩
theorem mkD (h : ∀ p H', Same H H' → H p = none → H' p = some (.dK []) → Q (.ref p) H') : ∀ p, H p = none → Q (.ref p) (upd H p (.dK [])) := fun p np => h p _ (same_new np) np upd_same
theorem mkCat {l b : Addr} {xs zs : List V} (hl : H l = some (.lst xs)) (hb : H b = some (.lst zs)) (hz : xs.length + zs.length ≤ 1000) (h : ∀ p H', Same H H' → H' p = some (.lst (xs ++ zs)) → Q (.ref p) H') : rCat (.ref l) (.ref b) H Q :=
  ⟨l, b, xs, zs, rfl, rfl, hl, hb, Nat.le_of_lt (small1000 hz), fun p np => h p _ (same_new np) upd_same⟩
theorem rp {a : Addr} {v : V} {vs : List V} {ds : List PyData} (ha : H a = some (.lst (v :: vs))) (hn : NiceAll K H (v :: vs) ds) (hl : (v :: vs).length ≤ 1000) (q : Q (.str (listText (PyData.shownAll ds))) H) : rReprL K [.ref a] H Q :=
  ⟨a, v, vs, ds, rfl, ha, hn.dq, hn.show, hn.depth, hn.size hl, q⟩
theorem rd_at {σ : L2.St} {l a C : Addr} {xs : List V} {i : Int} {j : Nat} {fs : List (Str × V)} {n : Str} {v : V} (hj : σ[j]? = some (some (.ref l))) (hL : H l = some (.lst xs)) (hx : atI xs i = some (.ref a)) (he : ErrAt H a C fs) (T : XfC K C)
    (no : PySem.W.findIn K (.ref C) n = some none) (hl : fs.lookup n = some v) (q : Q v H) : tXo K n (tOp (rIxL K) (tVar j) (tC (.int i))) σ H Q := by
  obtain ⟨d, h1, h2⟩ := he
  exact ⟨_, hj, l, xs, i, _, rfl, rfl, SqL.of hL, hx, a, C, d, fs, v, rfl, h1, h2, T, no, hl, q⟩
theorem dp_bools {a : Addr} {bs : List Bool} (h : H a = some (.lst (bs.map V.bl))) : Dp K H (.ref a) (.list (bs.map PyData.bool)) := by
  refine .lst (SqL.of h) ?_
  clear h
  induction bs with
  | nil => exact .nil
  | cons b r ih => exact .cons (.bl b) ih
/-- [spot == other for other in range(n)] -/
theorem comp_eq {σ : L2.St} {i j n : Nat} {z : Int} (hi : σ[i]? = some (some (.int z))) (hj : j < σ.length) (hne : i ≠ j) (hn : n ≤ 1000)
    (hq : ∀ D H', Same H H' → H' D = some (.lst ((List.range n).map fun k : Nat => V.bl (decide (V.int z = V.int (0 + (k : Int)))))) → Q (.ref D) H') : tLc (iRng1 (tCons (tC (.int (n : Int))) tNil)) (gName j) tYes (tOp rEq (tVar i) (tVar j)) [j] σ H Q := by
  refine ⟨(n : Int), rfl, by omega, by omega, fun D hD => ?_⟩
  refine lc_range (lo := 0) (n := n) (fun k H' => Same H H' ∧ H' D = some (.lst ((List.range k).map fun k : Nat => V.bl (decide (V.int z = V.int (0 + (k : Int))))))) ⟨same_new hD, upd_same⟩ (fun k H' hk ⟨s, hd⟩ => ?_) (fun H' ⟨s, hd⟩ => hq D H' s hd)
  refine ⟨by simp [wipe], ?_⟩
  refine ⟨.int z, ?_, .int (0 + (k : Int)), by simp [wipe, hj], rfl, _, hd, ?_, ?_, ?_⟩
  · simp [wipe, List.getElem?_set, hne.symm, hi]
  · rw [List.length_map, List.length_range]
    exact small1000 (by omega)
  · intro b o e
    rw [upd_ne (ne_of_none e hD)]
    exact s _ _ e
  · rw [upd_same, List.range_succ, List.map_append]
    rfl
theorem off_second {a dx C : Addr} {u1 u2 : HO} (n : H dx = none) : Off a H (upd (upd (upd H dx u1) a (exo a C (some dx))) dx u2) := fun b o hb e => by rw [upd_ne (ne_of_none e n), upd_ne hb, upd_ne (ne_of_none e n)]; exact e
theorem off_third {a dx C : Addr} {u1 u2 u3 : HO} (n : H dx = none) : Off a H (upd (upd (upd (upd H dx u1) a (exo a C (some dx))) dx u2) dx u3) := fun b o hb e => by rw [upd_ne (ne_of_none e n), upd_ne (ne_of_none e n), upd_ne hb, upd_ne (ne_of_none e n)]; exact e
end
end FS

set_option Elab.async false
set_option linter.all false
set_option maxRecDepth 100000
set_option maxHeartbeats 4000000
namespace FS
open PySem PySem.Spec PyProof.Rows L2
/-! Rules whose readings hand on a heap by a letter: what stood stands, and the new thing is there. -/
section
variable {X : Cx} {e : Expr} {es : List Expr} {te : TE} {t : TA} {p pos : Pos}
theorem pe_imp {t' : TE} (h : PE X e te) (i : ∀ σ H Q, t' σ H Q → te σ H Q) : PE X e t' := ⟨fun pins s σ H Q I q => h.run pins s σ H Q I (i σ H Q q)⟩
def tLstS (t : TA) : TE := fun σ H Q => t σ H fun xs H1 => xs.length ≤ 1000 ∧ ∀ p H', Same H1 H' → H1 p = none → H' p = some (.lst xs) → Q (.ref p) H'
def tTupS (t : TA) : TE := fun σ H Q => t σ H fun xs H1 => xs.length ≤ 1000 ∧ ∀ p H', Same H1 H' → H1 p = none → H' p = some (.tup xs) → Q (.ref p) H'
def tDictS : TE := fun _ H Q => ∀ p H', Same H H' → H p = none → H' p = some (.dK []) → Q (.ref p) H'
theorem pe_lstS (h : PA X es t) : PE X (.List es pos) (tLstS t) := by
  refine ⟨fun pins s0 σ H Q I hq => ?_⟩
  refine wpAny_List_spliced (thn (h.run pos pins s0 σ H _ I hq) fun us s1 ⟨xs, H1, I1, r, z, q⟩ => ⟨by rw [← r.length]; exact Nat.le_of_lt (small1000 z), ?_⟩)
  have nf : H1 s1.heap.objs.size = none := I1.hok.fresh (Nat.le_refl _)
  refine ⟨.ref s1.heap.objs.size, upd H1 s1.heap.objs.size (.lst xs), I1.laid (t' := s1.toks) (fun b u e1 => Heap.get?_push_of_some _ e1) (Nat.le_refl _) ?_, rfl, q _ _ (same_new nf) nf upd_same⟩
  exact ⟨Nat.le_of_lt (small1000 z), us, 0, r, Heap.get?_push_size _ rfl⟩
theorem pe_tupS {x1} (h : PA X es t) : PE X (.Tuple es x1 pos) (tTupS t) := by
  refine ⟨fun pins s0 σ H Q I hq => ?_⟩
  refine wpAny_Tuple_spliced (thn (h.run pos pins s0 σ H _ I hq) fun us s1 ⟨xs, H1, I1, r, z, q⟩ => ⟨by rw [← r.length]; exact Nat.le_of_lt (small1000 z), ?_⟩)
  have nf : H1 s1.heap.objs.size = none := I1.hok.fresh (Nat.le_refl _)
  refine ⟨.ref s1.heap.objs.size, upd H1 s1.heap.objs.size (.tup xs), I1.laid (t' := s1.toks) (fun b u e1 => Heap.get?_push_of_some _ e1) (Nat.le_refl _) ?_, rfl, q _ _ (same_new nf) nf upd_same⟩
  exact ⟨Nat.le_of_lt (small1000 z), us, r, ⟨_, Heap.get?_push_size _ rfl, rfl, _, rfl⟩⟩
theorem pe_dictS : PE X (.Dict [] [] pos) tDictS := pe_imp pe_dnewK fun σ H Q h p np => h p _ (same_new np) np upd_same
def rCatS : R2 := fun x y H Q => ∃ l b xs zs, x = .ref l ∧ y = .ref b ∧ H l = some (.lst xs) ∧ H b = some (.lst zs) ∧ xs.length + zs.length ≤ 1000 ∧ ∀ p H', Same H H' → H p = none → H' p = some (.lst (xs ++ zs)) → Q (.ref p) H'
theorem op_catS : OpR X (binaryOp .Add) rCatS := fun pins s σ H x y v u Q I rx ry ⟨l, b, xs, zs, e1, e2, h1, h2, hz, q⟩ =>
  op_cat pins s σ H x y v u Q I rx ry ⟨l, b, xs, zs, e1, e2, h1, h2, Nat.le_of_lt (small1000 hz), fun p np => q p _ (same_new np) np upd_same⟩
def rRepS : R2 := fun x y H Q => ∃ l k xs, x = .ref l ∧ y = .int k ∧ H l = some (.lst xs) ∧ 0 ≤ k ∧ k < 1000 ∧ xs.length * k.toNat ≤ 1000 ∧ ∀ p H', Same H H' → H p = none → H' p = some (.lst ((List.replicate k.toNat xs).flatten)) → Q (.ref p) H'
def tMk1 (C : Addr) (f : Str) (i : Nat) : TE := fun σ H Q => ∃ v, σ[i]? = some (some v) ∧ ∀ a H', Same H H' → H a = none → ErrAt H' a C [(f, v)] → Q (.ref a) H'
def tMk2 (C : Addr) (f g : Str) (i j : Nat) : TE := fun σ H Q => ∃ v u, σ[i]? = some (some v) ∧ σ[j]? = some (some u) ∧ ∀ a H', Same H H' → H a = none → ErrAt H' a C [(g, u), (f, v)] → Q (.ref a) H'
def tMk3 (C : Addr) (f g k : Str) (i j m : Nat) : TE := fun σ H Q => ∃ v u x, σ[i]? = some (some v) ∧ σ[j]? = some (some u) ∧ σ[m]? = some (some x) ∧ ∀ a H', Same H H' → H a = none → ErrAt H' a C [(k, x), (g, u), (f, v)] → Q (.ref a) H'
theorem pe_mk1 {C : Addr} {f : Str} {i : Nat} (h : PE X e (tMkV C (spI1 C f) [] (tCons (tVar i) tNil))) : PE X e (tMk1 C f i) := pe_imp h fun σ H Q ⟨v, e1, q⟩ => ⟨v, e1, mk1 q⟩
theorem pe_mk2 {C : Addr} {f g : Str} {i j : Nat} (h : PE X e (tMkV C (spI2 C f g) [] (tCons (tVar i) (tCons (tVar j) tNil)))) : PE X e (tMk2 C f g i j) := pe_imp h fun σ H Q ⟨v, u, e1, e2, q⟩ => ⟨v, e1, u, e2, mk2 q⟩
theorem pe_mk3 {C : Addr} {f g k : Str} {i j m : Nat} (h : PE X e (tMkV C (spI3 C f g k) [] (tCons (tVar i) (tCons (tVar j) (tCons (tVar m) tNil))))) : PE X e (tMk3 C f g k i j m) := pe_imp h fun σ H Q ⟨v, u, x, e1, e2, e3, q⟩ => ⟨v, e1, u, e2, x, e3, mk3 q⟩
def tCI (K : PySem.W.Frag) (i j : Nat) (c : V) : TE := fun σ H Q => ∃ (l : Addr) (vs : List V) (bs : List Bool) (cv : Value), σ[i]? = some (some (.ref l)) ∧ SqL K H l vs ∧ Isi K H cv vs bs ∧ (∀ u, RelV c u → u = cv) ∧ vs.length ≤ 100 ∧ j < σ.length ∧ ∀ D H', Same H H' → H' D = some (.lst (bs.map .bl)) → Q (.ref D) H'
theorem pe_ci {K : PySem.W.Frag} {i j : Nat} {c : V} (h : PE X e (tLc (iList K (tVar i)) (gName j) tYes (tCB (rIsO K) (tCons (tVar j) (tCons (tC c) tNil))) [j])) : PE X e (tCI K i j c) :=
  pe_imp h fun σ H Q ⟨l, vs, bs, cv, h1, h2, h3, h4, h5, h6, q⟩ => comp_isi h1 h2 h3 h4 h5 h6 q
def tCE (i j n : Nat) : TE := fun σ H Q => ∃ z : Int, σ[i]? = some (some (.int z)) ∧ j < σ.length ∧ ∀ D H', Same H H' → H' D = some (.lst ((List.range n).map fun k : Nat => V.bl (decide (V.int z = V.int (0 + (k : Int)))))) → Q (.ref D) H'
theorem pe_ce {i j n : Nat} (hne : i ≠ j) (hn : n ≤ 1000) (h : PE X e (tLc (iRng1 (tCons (tC (.int (n : Int))) tNil)) (gName j) tYes (tOp rEq (tVar i) (tVar j)) [j])) : PE X e (tCE i j n) := pe_imp h fun σ H Q ⟨z, h1, h2, q⟩ => comp_eq h1 h2 hne hn q
def tRep (K : PySem.W.Frag) (te : TE) : TE := fun σ H Q => te σ H fun x H1 => rReprL K [x] H1 Q
theorem pe_rep {K : PySem.W.Frag} (h : PE X e (tCB (rReprL K) (tCons te tNil))) : PE X e (tRep K te) := pe_imp h fun _ _ _ q => q
def tIsi (K : PySem.W.Frag) (te : TE) (c : V) : TE := fun σ H Q => te σ H fun x H1 => rIsO K [x, c] H1 Q
theorem pe_isi {K : PySem.W.Frag} {c : V} (h : PE X e (tCB (rIsO K) (tCons te (tCons (tC c) tNil)))) : PE X e (tIsi K te c) := pe_imp h fun _ _ _ q => q
end
end FS

set_option Elab.async false
set_option linter.all false
set_option maxRecDepth 100000
set_option maxHeartbeats 4000000
namespace FS
open PySem PySem.Spec PyProof.Rows L2
section
variable {X : Cx}
theorem count_eqU {y : V} : ∀ {xs : List V} {us : List Value}, Vals xs us → xs.all flatV = true → us.countP (eqU y) = xs.countP fun z => eqV z y
  | _, _, .nil, _ => rfl
  | x :: xs, u :: us, .cons r t, f => by
    rw [List.all_cons, Bool.and_eq_true] at f
    rw [List.countP_cons, List.countP_cons, eqU_of r f.1, count_eqU t f.2]
/-- xs.count(y), flat items -/
def rCntV (K : PySem.W.Frag) : V → List V → Hp → VK → Prop := fun x xs H Q => ∃ (p : Addr) (ys : List V) (y : V), x = .ref p ∧ xs = [y] ∧ SqL K H p ys ∧ flatV y = true ∧ ys.all flatV = true ∧ Q (.int (ys.countP (fun z => eqV z y) : Nat)) H
theorem mt_countV : MtR X "list.count" (rCntV X.K) := by
  intro pins s σ H x xs v us Q I rx rxs h
  obtain ⟨p, ys, y, rfl, rfl, hs, fy, fys, q⟩ := h
  cases rx
  obtain ⟨u, rfl, ru⟩ := rxs.one
  obtain ⟨its, rv, ⟨⟨cls, dd, data, sl⟩, n, ho, hc, hdn, hd⟩, hlen⟩ := I.list hs
  simp only at hc hd
  subst hc hd
  refine call_meets PySem.F.slot_list_count ⟨_, ho, rfl⟩ PySem.F.entry_list_count (PySem.F.args_list_count_2 _ _)
    (SeqAt.list_countAt p its.toArray n dd sl u (eqU y)) ⟨ho, fun z hz => mem_eqAt ru fy rv fys z (by simpa using hz), ?_⟩
  have ec : its.toArray.toList.countP (eqU y) = ys.countP fun z => eqV z y := count_eqU rv fys
  refine ⟨.int (ys.countP (fun z => eqV z y) : Nat), H, I.tok _, ⟨s.toks, ?_⟩, q⟩
  show Value.int ((its.toArray.toList.countP (eqU y) : Nat) : Int) s.toks = Value.int ((ys.countP (fun z => eqV z y) : Nat) : Int) s.toks
  rw [ec]
def rSlS (K : PySem.W.Frag) : V → Option Int → Option Int → Hp → VK → Prop := fun x lo hi H Q => ∃ a xs, x = .ref a ∧ SqL K H a xs ∧ ∀ p H', Same H H' → H p = none → H' p = some (.lst (cutV xs lo hi)) → Q (.ref p) H'
theorem sl_listS : SlR X (rSlS X.K) := fun pins s σ H x v vl vu lo hi sl Q I rx hs pl pu ⟨a, xs, e, hx, q⟩ =>
  sl_list pins s σ H x v vl vu lo hi sl Q I rx hs pl pu ⟨a, xs, e, hx, fun p np => q p _ (same_new np) np upd_same⟩
theorem call_listS : CallR X (.type "list") (fun xs H Q => ∃ p ys, xs = [.ref p] ∧ (SqL X.K H p ys ∨ SqT X.K H p ys) ∧ ∀ l H', Same H H' → H l = none → H' l = some (.lst ys) → Q (.ref l) H') := fun pins s σ H xs us Q I r ⟨p, ys, e, h, q⟩ =>
  call_list_of pins s σ H xs us Q I r ⟨p, ys, e, h, fun l nl => q l _ (same_new nl) nl upd_same⟩
theorem op_repS : OpR X (binaryOp .Mult) rRepS := fun pins s σ H x y v u Q I rx ry ⟨l, k, xs, e1, e2, h, k0, k1, hz, q⟩ =>
  op_rep pins s σ H x y v u Q I rx ry ⟨l, k, xs, e1, e2, h, by omega, by omega, Nat.le_of_lt (small1000 hz), fun p np => q p _ (same_new np) np upd_same⟩
end
theorem ixN_of {n j : Nat} (hj : j < n) : ixN n (j : Int) = some j := by
  unfold ixN
  rw [if_pos (by omega), if_pos (by omega)]; simp
theorem cut_ints (ns : List Int) (lo hi : Option Int) : ∃ ms : List Int, cutV (ns.map V.int) lo hi = ms.map V.int ∧ ms.length ≤ ns.length := by
  refine ⟨(ns.drop (HT.sIx (ns.map V.int).length 0 lo)).take (HT.sIx (ns.map V.int).length (ns.map V.int).length hi - HT.sIx (ns.map V.int).length 0 lo), ?_, ?_⟩
  · unfold cutV
    rw [List.map_take, List.map_drop]
  · rw [List.length_take, List.length_drop]
    omega
end FS

set_option Elab.async false
set_option linter.all false
set_option maxRecDepth 100000
set_option maxHeartbeats 4000000
/-! sorted of a tuple of texts. -/
namespace FS
open PySem PySem.Spec PyProof.Rows L2
section
variable {prog : Program} {w : World} {A : Around} {E : Value → Shared → Prop} {s : Shared}
theorem sorted_tup {l : Addr} {o : Obj} {vs : List Value} {n : Nat} {ss : List Str} {Q : Value → Shared → Prop} (ho : s.heap.get? l = some o) (hc : o.cls = .type "tuple") (hd : o.data = .seq vs.toArray n) (hS : StrsAre vs ss) (few : vs.length < 64)
    (fin : ∀ (h1 h' : Heap) out ys e, (∀ b o, s.heap.get? b = some o → h1.get? b = some o) → (∀ b o, h1.get? b = some o → h'.get? b = some o) → h'.get? h1.objs.size = some (seqObj "list" out e) → StrsAre out.toList ys → ys.Perm ss → sortedS ys = true → Q (.ref h1.objs.size) { s with heap := h' }) :
    wpAny (model prog w) A (call (.builtin "sorted") [.ref l]) Q E s := by
  have line : vs.toArray.size ≤ sizeLine := by rw [List.size_toArray]; exact Nat.le_of_lt (small1000 (by omega))
  refine Calls.call_function_entry kind_sorted plain_sorted entry_sorted (args_sorted1 _) ?_
  show wpAny _ _ (do checkCount "sorted" 1 1 1; let l ← newList (← collect (.ref l)); let _ ← holding [l] (call (.builtin "list.sort") [l] []); ret l) _ _ _
  refine wpAny_bind (m := checkCount "sorted" 1 1 1) (wpAny_pure (wpAny_bind (wpAny_collect_seq l (.inr rfl) ho hc hd (fun h1 k1 => wpAny_bind (wpAny_newList ?_)) line)))
  have at1 : (h1.push (seqObj "list" vs.toArray 0)).get? h1.objs.size = some (seqObj "list" vs.toArray 0) := Heap.get?_push_size _ rfl
  refine wpAny_bind (wpAny_holding (wpAny_call_entry slot_list_sort ⟨_, at1, rfl⟩ entry_list_sort (list_sort_treeK strKind_oneLt at1 hS.keysOf (fun a b r e => keyKind_strs (by rw [← e]; exact hS)) few fun st hp hs => ⟨_, rfl, ?_⟩) (args_list_sort _)))
  obtain ⟨ys, q1, q2, q3⟩ := sorted_out_str hS hp hs
  obtain ⟨e, at2⟩ := sortedHeap_at (out := (arrOf st).map (·.2)) at1
  refine wpAny_pure ⟨_, rfl, fin h1 _ _ ys e k1 (fun b ob hb => ?_) at2 q1 q2 q3⟩
  have lb := Heap.lt_size hb
  rw [sortedHeap_old (Nat.ne_of_lt lb) (by rw [size_push']; exact Nat.lt_succ_of_lt lb)]
  exact Heap.get?_push_of_some _ hb
end
section
variable {X : Cx}
theorem cr_sortedT : CallR X (.builtin "sorted") (fun vs H Q => ∃ (a : Addr) (xs : List Str), vs = [V.ref a] ∧ SqT X.K H a (xs.map V.str) ∧ xs.length < 64 ∧ ∀ (ys : List Str) (p : Addr) (H' : Hp), ys.Perm xs → sortedS ys = true → Same H H' → H p = none → H' p = some (.lst (ys.map V.str)) → Q (.ref p) H') := by
  intro pins s σ H vs us Q I r h
  obtain ⟨a, xs, rfl, ht, few, q⟩ := h
  obtain ⟨its, rv, ⟨o, ho, hc, n, hd⟩, line⟩ := I.tuple ht
  rw [Vals.ref1 r]
  have len := rv.length
  rw [List.length_map] at len
  refine sorted_tup ho hc hd rv.strs (by omega) fun h1 h' out ys e keep keep2 at_p so per srt => ?_
  have I1 : Inv X pins σ H { s with heap := h1 } := I.kept (t' := s.toks) keep
  have small : (ys.map V.str).length ≤ sizeLine := by rw [List.length_map, per.length_eq]; exact small64 few
  have nf : H h1.objs.size = none := I1.hok.fresh (Nat.le_refl _)
  refine ⟨.ref h1.objs.size, upd H h1.objs.size (.lst (ys.map V.str)), I1.laid (t' := s.toks) keep2 (Nat.le_refl _) ⟨small, out.toList, e, vals_of_strs so, at_p⟩, rfl, q ys _ _ per srt (same_new nf) nf upd_same⟩
theorem cr_sortedL : CallR X (.builtin "sorted") (fun vs H Q => ∃ (a : Addr) (xs : List Str), vs = [V.ref a] ∧ SqL X.K H a (xs.map V.str) ∧ xs.length < 64 ∧ ∀ (ys : List Str) (p : Addr) (H' : Hp), ys.Perm xs → sortedS ys = true → Same H H' → H p = none → H' p = some (.lst (ys.map V.str)) → Q (.ref p) H') := fun pins s σ H vs us Q I r ⟨a, xs, e, h, few, q⟩ =>
  cr_sortedS pins s σ H vs us Q I r ⟨a, xs, e, h, few, fun ys p per srt np => q ys p _ per srt (same_new np) np upd_same⟩
end
end FS

set_option Elab.async false
set_option linter.all false
set_option maxRecDepth 100000
set_option maxHeartbeats 4000000
/-! The defs of this law's text, by their places. -/
namespace TopL
open PySem PySem.Spec PyProof.Rows L2
def top (i : Nat) : Stmt := PySem.Challenge.pw_foldsame_k50_partitions.main.body.getD i (.Pass ⟨0, 0, 0, 0⟩)
abbrev sPart : Stmt := top 1
abbrev sLeft : Stmt := top 3
abbrev sDraw : Stmt := top 4
abbrev sGroup : Stmt := top 5
abbrev sBent : Stmt := top 6
abbrev sRight : Stmt := top 7
abbrev sLaw : Stmt := top 8
end TopL

set_option Elab.async false
set_option linter.all false
set_option maxRecDepth 100000
set_option maxHeartbeats 4000000
/-! What later laws draw with. -/
namespace LD
open PySem PySem.Spec PyProof.Rows L2 FS
/-- the numbers that are left -/
def LAt (p : Addr) (H : Hp) : Prop := ∃ ms : List Int, H p = some (.lst (ms.map V.int)) ∧ 2 ≤ ms.length ∧ ms.length ≤ 100
theorem LAt.mono {p : Addr} {H H' : Hp} (h : LAt p H) (s : Same H H') : LAt p H' := by
  obtain ⟨ms, e, l⟩ := h
  exact ⟨ms, s _ _ e, l⟩
section
variable {P : Program} {w : World} {K : PySem.W.Frag} {mg : Str → Option Value} {base : Heap}
/-! ### _law_left -/
def spLeft (K : PySem.W.Frag) : Sp := fun vs H Q _ => ∃ (a : Addr) (ns : List Int), vs = [.ref a] ∧ SqL K H a (ns.map V.int) ∧ ns.length ≤ 63 ∧
  ∀ H' p, Same H H' → H p = none → LAt p H' → Q (.ref p) H'
theorem scLf : FnScope ["_law_script", "_law_left_here"] ["_law_script"] (defScope TopL.sLeft) := ⟨rfl, rfl, rfl, by decide +kernel, rfl, by decide +kernel, by decide +kernel⟩
theorem ok_left {f : Addr} {fd : FuncData} {k : Nat} (F : Fun K "_law_left" "_law_left" TopL.sLeft f fd) (zl : mg "list" = none) (zn : mg "len" = none) : FnOk P w K mg base CX0 (k + 1) f fd ["_law_script"] (spLeft K) := by
  refine F.ok scLf (fun vs H Q E h => ?_) (fun cdv A outer s H vs Q E hr h => ?_)
  · obtain ⟨a, ns, rfl, _⟩ := h
    rfl
  · obtain ⟨a, ns, rfl, hS, hlen, q⟩ := h
    refine ⟨_, pss_cons (ps_set (i := 1) scLf.nd rfl (.inl rfl) (pe_op op_catS (pe_lstS (pa_cons pe_int pa_nil)) (pe_callTy call_listS (by rfl) zl (by decide +kernel) (pa_cons (pe_slice sl_listS (pv 0) po_none (po_some pe_int)) pa_nil))))
      (pss_cons (ps_if (pt_cmpR op_eq (pe_callB call_len_seq (by rfl) zn PySem.boot_len (pa_cons (pv 1) pa_nil)) pe_int (nomark _))
          (pss_one (ps_expr (pe_bm PySem.F.plainAttrs_list PySem.F.slot_list_append PySem.F.type_list_append mt_append (pv 1) (pa_cons pe_int pa_nil)))) pss_nil)
      (pss_one (ps_ret (pv 1)))), ?_⟩
    refine ⟨by simp, fun l1 H1 s1 n1 h1 => ?_⟩
    obtain ⟨ms, em, lm⟩ := cut_ints ns none (some 63)
    refine ⟨.ref a, rfl, 63, rfl, a, _, rfl, s1.seq hS, fun l2 H2 s2 n2 h2 => ?_⟩
    rw [em] at h2
    refine ⟨l2, _, rfl, .inl (SqL.of h2), fun l3 H3 s3 n3 h3 => ?_⟩
    refine ⟨l1, l3, _, _, rfl, rfl, s3 _ _ (s2 _ _ h1), h3, ?_, fun l4 H4 s4 n4 h4 => ?_⟩
    · simp only [List.length_map, List.length_singleton]
      omega
    have t4 : Same H H4 := s1.trans (s2.trans (s3.trans s4))
    have n0 : H l4 = none := (s1.trans (s2.trans s3)).free n4
    have h5 : H4 l4 = some (.lst ((0 :: ms).map V.int)) := h4
    refine ⟨.ref l4, rfl, l4, _, rfl, .inl (SqL.of h5), rfl, _, rfl, ?_⟩
    refine ite2 (fun hc => ?_) (fun hc => ?_)
    · refine ⟨.ref l4, rfl, .inl ⟨rfl, _, SqL.of h5⟩, l4, _, _, rfl, rfl, h5, small1000 (by rw [List.length_map, List.length_cons]; omega), ?_⟩
      refine ⟨.ref l4, rfl, q _ l4 ?_ n0 ⟨0 :: ms ++ [0], ?_, ?_, ?_⟩⟩
      · intro b o e
        rw [upd_ne (ne_of_none e n0)]
        exact t4 _ _ e
      · rw [upd_same, List.map_append]
        rfl
      · simp
      · simp
        omega
    · refine ⟨.ref l4, rfl, q _ l4 t4 n0 ⟨0 :: ms, h5, ?_, ?_⟩⟩
      · have h6 : ¬ (((0 :: ms).map V.int).length : Int) = 1 := fun e => hc (decide_eq_true (by rw [e]))
        rw [List.length_map, List.length_cons] at h6
        rw [List.length_cons]
        omega
      · rw [List.length_cons]
        omega
/-! ### _law_draw -/
def spDraw : Sp := fun vs H Q _ => ∃ (p : Addr) (m : Nat), vs = [.ref p, .int m] ∧ 0 < m ∧ m ≤ 1000 ∧ LAt p H ∧ ∀ H' (r : Nat), Off p H H' → LAt p H' → r < m → Q (.int r) H'
theorem scD : FnScope ["_law_left_here", "_law_most", "_law_place", "_law_cell"] ["_law_left_here", "_law_most"] (defScope TopL.sDraw) := ⟨rfl, rfl, rfl, by decide +kernel, rfl, by decide +kernel, by decide +kernel⟩
theorem toNm {x : Int} {m : Nat} (h : 0 ≤ x) (h2 : x < (m : Int)) : ∃ r : Nat, x = (r : Int) ∧ r < m := ⟨x.toNat, by omega, by omega⟩
theorem at_int {ms : List Int} {j : Nat} (h : j < ms.length) : (ms.map V.int)[j]? = some (V.int (ms[j]'h)) := by
  rw [List.getElem?_map, List.getElem?_eq_getElem h]
  rfl
theorem set_int (ms : List Int) (j : Nat) (z : Int) : (ms.map V.int).set j (.int z) = (ms.set j z).map V.int := by rw [List.map_set]
theorem ok_draw {f : Addr} {fd : FuncData} {k : Nat} (F : Fun K "_law_draw" "_law_draw" TopL.sDraw f fd) (zn : mg "len" = none) (zi : mg "int" = none) : FnOk P w K mg base CX0 (k + 1) f fd ["_law_left_here", "_law_most"] spDraw := by
  refine F.ok scD (fun vs H Q E h => ?_) (fun cdv A outer s H vs Q E hr h => ?_)
  · obtain ⟨a, m, rfl, _⟩ := h
    rfl
  · obtain ⟨p, m, rfl, hm, hm2, ⟨ms, hp, h2, h100⟩, q0⟩ := h
    have hmi : (0 : Int) < (m : Int) := by omega
    have hmn : (m : Int) ≠ 0 := by omega
    have q : ∀ H' (ms' : List Int) (r : Nat), Off p H H' → H' p = some (.lst (ms'.map V.int)) → ms'.length = ms.length → r < m → Q (.int r) H' := fun H' ms' r o e l hr => q0 H' r o ⟨ms', e, by omega, by omega⟩ hr
    refine ⟨_, pss_cons (ps_asg (pe_op op_add (pe_ix ix_list (pv 0) pe_int (fun _ _ => rfl)) pe_int) (pg_sub (pv 0) pe_int set_list (fun _ => rfl)))
      (pss_cons (ps_set (i := 2) scD.nd rfl (.inl rfl) (pe_op op_add pe_int (pe_op op_mod (pe_ix ix_list (pv 0) pe_int (fun _ _ => rfl)) (pe_op op_sub (pe_callB call_len_seq (by rfl) zn PySem.boot_len (pa_cons (pv 0) pa_nil)) pe_int))))
      (pss_cons (ps_set (i := 3) scD.nd rfl (.inl rfl) (pe_ix ix_list (pv 0) (pv 2) (fun _ _ => rfl)))
      (pss_cons (ps_if (pt_cmpR op_ge (pv 3) (pe_op op_pow pe_int pe_int) (nomark _))
          (pss_cons (ps_asg (pe_op op_fdiv (pv 3) (pv 1)) (pg_sub (pv 0) (pv 2) set_list (fun _ => rfl)))
            (pss_one (ps_ret (pe_op op_mod (pe_callTy call_int1 (by rfl) zi (by decide +kernel) (pa_cons (pv 3) pa_nil)) (pv 1))))) pss_nil)
      (pss_cons (ps_asg (pe_op op_mod (pe_callTy call_int1 (by rfl) zi (by decide +kernel) (pa_cons (pe_op op_add (pe_op op_add (pe_op op_mul (pv 3) pe_int) (pe_op op_mul (pe_ix ix_list (pv 0) pe_int (fun _ _ => rfl)) pe_int)) pe_int) pa_nil)) pe_int) (pg_sub (pv 0) (pv 2) set_list (fun _ => rfl)))
      (pss_one (ps_ret (pe_op op_mod (pe_op op_fdiv (pe_ix ix_list (pv 0) (pv 2) (fun _ _ => rfl)) pe_int) (pv 1)))))))), ?_⟩
    have l0 : 0 < ms.length := by omega
    refine ⟨.ref p, rfl, p, _, 0, _, rfl, rfl, SqL.of hp, atI_nat (j := 0) (at_int l0), _, _, rfl, rfl, ?_⟩
    refine ⟨.ref p, rfl, p, _, 0, 0, rfl, rfl, hp, ixN_of (j := 0) (by rw [List.length_map]; exact l0), ?_⟩
    have h1 : (upd H p (.lst ((ms.map V.int).set 0 (.int (ms[0] + 1))))) p = some (.lst ((ms.set 0 (ms[0] + 1)).map V.int)) := by rw [upd_same, set_int]
    have ol : (ms.set 0 (ms[0] + 1)).length = ms.length := List.length_set
    have o1 : Off p H (upd H p (.lst ((ms.map V.int).set 0 (.int (ms[0] + 1))))) := Off.put
    have l1 : 0 < (ms.set 0 (ms[0] + 1)).length := by omega
    refine ⟨.ref p, rfl, p, _, 0, _, rfl, rfl, SqL.of h1, atI_nat (j := 0) (at_int l1), .ref p, rfl, p, _, rfl, .inl (SqL.of h1), _, _, rfl, rfl, _, _, rfl, rfl, ?_, _, _, rfl, rfl, ?_⟩
    · show (0 : Int) < (((ms.set 0 (ms[0] + 1)).map V.int).length : Int) - 1
      rw [List.length_map]
      omega
    obtain ⟨j, ej, hj⟩ : ∃ j : Nat, 1 + ((ms.set 0 (ms[0] + 1))[0] % ((((ms.set 0 (ms[0] + 1)).map V.int).length : Int) - 1)) = (j : Int) ∧ j < (ms.set 0 (ms[0] + 1)).length := by
      have e1 := Int.emod_nonneg ((ms.set 0 (ms[0] + 1))[0]) (b := (((ms.set 0 (ms[0] + 1)).map V.int).length : Int) - 1) (by rw [List.length_map]; omega)
      have e2 := Int.emod_lt_of_pos ((ms.set 0 (ms[0] + 1))[0]) (b := (((ms.set 0 (ms[0] + 1)).map V.int).length : Int) - 1) (by rw [List.length_map]; omega)
      refine ⟨(1 + ((ms.set 0 (ms[0] + 1))[0] % ((((ms.set 0 (ms[0] + 1)).map V.int).length : Int) - 1))).toNat, by omega, ?_⟩
      have e3 : (((ms.set 0 (ms[0] + 1)).map V.int).length : Int) = ((ms.set 0 (ms[0] + 1)).length : Int) := by rw [List.length_map]
      omega
    have ea : atI ((ms.set 0 (ms[0] + 1)).map V.int) (1 + ((ms.set 0 (ms[0] + 1))[0] % ((((ms.set 0 (ms[0] + 1)).map V.int).length : Int) - 1))) = some (.int ((ms.set 0 (ms[0] + 1))[j])) := by rw [ej]; exact atI_nat (at_int hj)
    have ei : ixN ((ms.set 0 (ms[0] + 1)).map V.int).length (1 + ((ms.set 0 (ms[0] + 1))[0] % ((((ms.set 0 (ms[0] + 1)).map V.int).length : Int) - 1))) = some j := by rw [ej]; exact ixN_of (by rw [List.length_map]; exact hj)
    refine ⟨.ref p, rfl, _, rfl, p, _, _, _, rfl, rfl, SqL.of h1, ea, ?_⟩
    refine ⟨_, rfl, _, _, rfl, rfl, ⟨by decide, by decide, by decide⟩, _, _, rfl, rfl, _, rfl, ?_⟩
    refine ite2 (fun hc => ?_) (fun hc => ?_)
    · refine ⟨_, rfl, _, rfl, _, _, rfl, rfl, ⟨hmi, by omega⟩, ?_⟩
      refine ⟨.ref p, rfl, _, rfl, p, _, _, j, rfl, rfl, h1, ei, ?_⟩
      refine ⟨_, rfl, .inl ⟨_, rfl, _, rfl, _, _, rfl, rfl, hmi, ?_⟩⟩
      obtain ⟨r, er, hr9⟩ := toNm (Int.emod_nonneg ((ms.set 0 (ms[0] + 1))[j]) hmn) (Int.emod_lt_of_pos ((ms.set 0 (ms[0] + 1))[j]) hmi)
      have hq := q (upd (upd H p (.lst ((ms.map V.int).set 0 (.int (ms[0] + 1))))) p (.lst (((ms.set 0 (ms[0] + 1)).map V.int).set j (.int ((ms.set 0 (ms[0] + 1))[j] / (m : Int)))))) ((ms.set 0 (ms[0] + 1)).set j ((ms.set 0 (ms[0] + 1))[j] / (m : Int))) r (o1.trans Off.put) (by rw [upd_same, set_int]) (by rw [List.length_set, ol]) hr9
      rw [← er] at hq
      exact hq
    · refine ⟨_, rfl, _, _, rfl, rfl, .inr ⟨by decide, by decide⟩, .ref p, rfl, p, _, 0, _, rfl, rfl, SqL.of h1, atI_nat (j := 0) (at_int l1), _, _, rfl, rfl, .inr ⟨by decide, by decide⟩, _, _, rfl, rfl, _, _, rfl, rfl, .inl ⟨_, rfl, _, _, rfl, rfl, (show (0 : Int) < 2147483647 by decide), ?_⟩⟩
      refine ⟨.ref p, rfl, _, rfl, p, _, _, j, rfl, rfl, h1, ei, ?_⟩
      have h3 : (upd (upd H p (.lst ((ms.map V.int).set 0 (.int (ms[0] + 1))))) p (.lst (((ms.set 0 (ms[0] + 1)).map V.int).set j (.int (((ms.set 0 (ms[0] + 1))[j] * 48271 + (ms.set 0 (ms[0] + 1))[0] * 7919 + 11) % 2147483647))))) p
          = some (.lst (((ms.set 0 (ms[0] + 1)).set j (((ms.set 0 (ms[0] + 1))[j] * 48271 + (ms.set 0 (ms[0] + 1))[0] * 7919 + 11) % 2147483647)).map V.int)) := by rw [upd_same, set_int]
      have e3 : ((ms.set 0 (ms[0] + 1)).set j (((ms.set 0 (ms[0] + 1))[j] * 48271 + (ms.set 0 (ms[0] + 1))[0] * 7919 + 11) % 2147483647)).length = ms.length := by rw [List.length_set, ol]
      have ea2 : ∀ (l : List Int) (hl : l.length = ms.length), atI (l.map V.int) (1 + ((ms.set 0 (ms[0] + 1))[0] % ((((ms.set 0 (ms[0] + 1)).map V.int).length : Int) - 1))) = some (.int (l[j]'(by omega))) := fun l hl => by rw [ej]; exact atI_nat (at_int (by omega))
      refine ⟨.ref p, rfl, _, rfl, p, _, _, _, rfl, rfl, SqL.of h3, ea2 _ e3, _, _, rfl, rfl, ⟨by decide, by decide⟩, _, rfl, _, _, rfl, rfl, hmi, ?_⟩
      generalize hz : (((ms.set 0 (ms[0] + 1)).set j (((ms.set 0 (ms[0] + 1))[j] * 48271 + (ms.set 0 (ms[0] + 1))[0] * 7919 + 11) % 2147483647))[j]'(by omega)) = z
      obtain ⟨r, er, hr9⟩ := toNm (Int.emod_nonneg (z / 7) hmn) (Int.emod_lt_of_pos (z / 7) hmi)
      have hq := q _ _ r (o1.trans Off.put) h3 e3 hr9
      rw [← er] at hq
      exact hq
end
end LD

set_option Elab.async false
set_option linter.all false
set_option maxRecDepth 100000
set_option maxHeartbeats 4000000
/-! Sorted texts; what a partition written in the one way is. -/
namespace MP
open PySem PySem.Spec PyProof.Rows L2
theorem str_ext {a b : Str} (h : a.cps.toList = b.cps.toList) : a = b := by
  obtain ⟨⟨x⟩⟩ := a
  obtain ⟨⟨y⟩⟩ := b
  have e : x = y := h
  rw [e]
/-- not behind -/
def Le (a b : Str) : Prop := ¬ b.cps.toList < a.cps.toList
theorem le_anti (a b : Str) (h1 : Le a b) (h2 : Le b a) : a = b := str_ext (List.le_antisymm h1 h2)
theorem le_trans' {a b c : Str} (h1 : Le a b) (h2 : Le b c) : Le a c := List.le_trans h1 h2
theorem lt_of_ne {a b : Str} (h : Le a b) (n : a ≠ b) : a.cps.toList < b.cps.toList := Classical.byContradiction fun k => n (le_anti a b h k)
theorem rising_pw : ∀ (p : Str) (l : List Str), risingS p l = true → (p :: l).Pairwise Le
  | p, [], _ => List.pairwise_cons.mpr ⟨fun _ h => (nomatch h), .nil⟩
  | p, x :: r, h => by
    have h : (!ltCps x.cps.toList p.cps.toList && risingS x r) = true := h
    obtain ⟨h1, h2⟩ := Bool.and_eq_true_iff.mp h
    have px : Le p x := fun k => by
      rw [ltCps_eq, decide_eq_true k] at h1
      cases h1
    have ih := rising_pw x r h2
    refine List.pairwise_cons.mpr ⟨fun y hy => ?_, ih⟩
    rcases List.mem_cons.mp hy with rfl | hy
    · exact px
    · exact le_trans' px ((List.pairwise_cons.mp ih).1 y hy)
theorem sorted_pw : ∀ {l : List Str}, sortedS l = true → l.Pairwise Le
  | [], _ => .nil
  | x :: r, h => rising_pw x r h
theorem pw_sorted {l : List Str} (h : l.Pairwise Le) : sortedS l = true := sortedS_of_pairwise l (h.imp fun {a b} k => by rw [ltCps_eq]; exact decide_eq_false k)
theorem pw_unique {α : Type} {r : α → α → Prop} (anti : ∀ a b, r a b → r b a → a = b) : ∀ {l1 l2 : List α}, l1.Perm l2 → l1.Pairwise r → l2.Pairwise r → l1 = l2
  | [], l2, p, _, _ => (List.nil_perm.mp p).symm
  | a :: l1, [], p, _, _ => absurd p.length_eq (by simp)
  | a :: l1, b :: l2, p, h1, h2 => by
    have ab : a = b := by
      have ha : a ∈ b :: l2 := p.mem_iff.mp (by simp)
      have hb : b ∈ a :: l1 := p.mem_iff.mpr (by simp)
      rcases List.mem_cons.mp ha with e | ha
      · exact e
      · rcases List.mem_cons.mp hb with e | hb
        · exact e.symm
        · exact anti a b ((List.pairwise_cons.mp h1).1 b hb) ((List.pairwise_cons.mp h2).1 a ha)
    subst ab
    rw [pw_unique anti (List.Perm.cons_inv p) (List.pairwise_cons.mp h1).2 (List.pairwise_cons.mp h2).2]
theorem sort_unique {a b : List Str} (p : a.Perm b) (h1 : sortedS a = true) (h2 : sortedS b = true) : a = b := pw_unique le_anti p (sorted_pw h1) (sorted_pw h2)
/-- the sorted one is the list itself just if that is sorted -/
theorem sort_self {ys xs : List Str} (p : ys.Perm xs) (h : sortedS ys = true) : decide (ys = xs) = sortedS xs := by
  cases e : sortedS xs with
  | true => exact decide_eq_true (sort_unique p h e)
  | false => exact decide_eq_false fun k => by rw [k, e] at h; cases h
/-- the sorted one is a sorted list just if it has the same -/
theorem sort_other {ys xs N : List Str} (p : ys.Perm xs) (h : sortedS ys = true) (hN : sortedS N = true) : decide (ys = N) = xs.isPerm N := by
  cases e : xs.isPerm N with
  | true => exact decide_eq_true (sort_unique (p.trans (List.isPerm_iff.mp e)) h hN)
  | false =>
    refine decide_eq_false fun k => ?_
    have t : xs.isPerm N = true := List.isPerm_iff.mpr (by rw [← k]; exact p.symm)
    rw [e] at t
    cases t
/-! ### partitions -/
def shp : Option (List V) → Bool
  | some its => decide (0 < its.length)
  | none => false
def isStr : V → Bool
  | .str _ => true
  | _ => false
def strOf : V → Option Str
  | .str z => some z
  | _ => none
def txs (l : List V) : List Str := l.filterMap strOf
def first (g : List Str) : Str := g.headD ""
def isG (N : List Str) (gs : List (List Str)) : Bool := gs.flatten.isPerm N && sortedS (gs.map first) && gs.all sortedS
def isP (N : List Str) (es : List (Option (List V))) : Bool := es.all shp && ((es.map fun e => e.getD []).flatten).all isStr && isG N (es.map fun e => txs (e.getD []))
def goR (last : Str) : List (List Str) → Bool
  | [] => true
  | [] :: _ => false
  | (x :: g) :: r => decide (last.cps.toList < x.cps.toList) && sortedS (x :: g) && goR x r
def isR (N : List Str) (gs : List (List Str)) : Bool := goR "" gs && gs.flatten.isPerm N
def chain (last : Str) : List Str → Bool
  | [] => true
  | x :: r => decide (last.cps.toList < x.cps.toList) && chain x r
def ofG (gs : List (List Str)) : List (Option (List V)) := gs.map fun g => some (g.map V.str)
theorem txs_map (g : List Str) : txs (g.map V.str) = g := by
  induction g with
  | nil => rfl
  | cons x r ih =>
    show x :: txs (r.map V.str) = _
    rw [ih]
theorem all_str (g : List Str) : (g.map V.str).all isStr = true := by
  induction g with
  | nil => rfl
  | cons x r ih => exact ih
theorem ofG_txs (gs : List (List Str)) : ((ofG gs).map fun e => txs (e.getD [])) = gs := by
  induction gs with
  | nil => rfl
  | cons g r ih =>
    show txs (g.map V.str) :: ((ofG r).map fun e => txs (e.getD [])) = _
    rw [ih, txs_map]
theorem ofG_all (gs : List (List Str)) : (((ofG gs).map fun e => e.getD []).flatten).all isStr = true := by
  induction gs with
  | nil => rfl
  | cons g r ih =>
    show ((g.map V.str) ++ ((ofG r).map fun e => e.getD []).flatten).all isStr = true
    rw [List.all_append, all_str, ih]
    rfl
theorem ofG_shp (gs : List (List Str)) : (ofG gs).all shp = gs.all fun g => !g.isEmpty := by
  induction gs with
  | nil => rfl
  | cons g r ih =>
    show (shp (some (g.map V.str)) && (ofG r).all shp) = _
    rw [ih, List.all_cons]
    cases g with
    | nil => rfl
    | cons x g => rfl
theorem goR_eq : ∀ (last : Str) (gs : List (List Str)), (gs.all fun g => !g.isEmpty) = true → goR last gs = (chain last (gs.map first) && gs.all sortedS)
  | _, [], _ => rfl
  | last, [] :: _, h => by cases h
  | last, (x :: g) :: r, h => by
    have ih := goR_eq x r h
    show (decide (last.cps.toList < x.cps.toList) && sortedS (x :: g) && goR x r) = ((decide (last.cps.toList < x.cps.toList) && chain x (r.map first)) && (sortedS (x :: g) && r.all sortedS))
    rw [ih]
    cases decide (last.cps.toList < x.cps.toList) <;> cases sortedS (x :: g) <;> cases chain x (r.map first) <;> rfl
theorem goR_ne : ∀ (last : Str) (gs : List (List Str)), (gs.all fun g => !g.isEmpty) = false → goR last gs = false
  | _, [], h => by cases h
  | last, [] :: _, h => rfl
  | last, (x :: g) :: r, h => by
    have ih := goR_ne x r h
    show (decide (last.cps.toList < x.cps.toList) && sortedS (x :: g) && goR x r) = false
    rw [ih, Bool.and_false]
theorem chain_rising : ∀ (p : Str) (l : List Str), (p :: l).Nodup → chain p l = risingS p l
  | p, [], _ => rfl
  | p, x :: r, h => by
    have h1 := List.nodup_cons.mp h
    have ih := chain_rising x r h1.2
    have ne : p ≠ x := fun e => h1.1 (by rw [e]; exact List.mem_cons_self ..)
    show (decide (p.cps.toList < x.cps.toList) && chain x r) = (!ltCps x.cps.toList p.cps.toList && risingS x r)
    rw [ih, ltCps_eq]
    congr 1
    by_cases k : x.cps.toList < p.cps.toList
    · rw [decide_eq_true k, decide_eq_false (List.lt_asymm k)]
      rfl
    · rw [decide_eq_false k, decide_eq_true (lt_of_ne k ne)]
      rfl
theorem firsts_sub : ∀ (gs : List (List Str)), (gs.all fun g => !g.isEmpty) = true → (gs.map first).Sublist gs.flatten
  | [], _ => .slnil
  | [] :: _, h => by cases h
  | (x :: g) :: r, h => by
    have ih := firsts_sub r h
    show (x :: r.map first).Sublist (x :: (g ++ r.flatten))
    exact (ih.trans (List.sublist_append_right ..)).cons₂ x
theorem right_eq {N : List Str} (nd : N.Nodup) (ne : ∀ z ∈ N, z ≠ ("" : Str)) (gs : List (List Str)) : isP N (ofG gs) = isR N gs := by
  unfold isP isR
  rw [ofG_txs, ofG_all, ofG_shp, Bool.and_true]
  cases h : gs.all fun g => !g.isEmpty with
  | false => rw [goR_ne _ _ h, Bool.false_and, Bool.false_and]
  | true =>
    rw [goR_eq _ _ h, Bool.true_and]
    unfold isG
    cases hp : gs.flatten.isPerm N with
    | false => rw [Bool.and_false, Bool.false_and, Bool.false_and]
    | true =>
      rw [Bool.and_true, Bool.true_and]
      congr 1
      have per := List.isPerm_iff.mp hp
      have sub := firsts_sub gs h
      have fn : (gs.map first).Nodup := sub.nodup (per.nodup_iff.mpr nd)
      have mem : ∀ f ∈ gs.map first, f ≠ ("" : Str) := fun f hf => ne f (per.mem_iff.mp (sub.subset hf))
      generalize gs.map first = fs at fn mem
      cases fs with
      | nil => rfl
      | cons f r =>
        show risingS f r = (decide (("" : Str).cps.toList < f.cps.toList) && chain f r)
        rw [chain_rising f r fn]
        have : ("" : Str).cps.toList < f.cps.toList := by
          have hf := mem f (List.mem_cons_self ..)
          cases hc : f.cps.toList with
          | nil => exact absurd (str_ext (b := ("" : Str)) (by rw [hc]; rfl)) hf
          | cons c l => exact List.Lex.nil
        rw [decide_eq_true this, Bool.true_and]
end MP

set_option Elab.async false
set_option linter.all false
set_option maxRecDepth 100000
set_option maxHeartbeats 4000000
/-! Comprehensions over a tuple whose values are known one by one. -/
namespace FS
open PySem PySem.Spec PyProof.Rows L2
theorem same_tup {K : PySem.W.Frag} {H H' : Hp} {a : Addr} {xs : List V} (e : Same H H') (h : SqT K H a xs) : SqT K H' a xs := by
  rcases h with (h | ⟨o, h⟩) | h
  · exact .inl (.inl (e _ _ h))
  · exact .inl (.inr ⟨o, e _ _ h⟩)
  · exact .inr h
section
variable {X : Cx} {e : Expr} {K : PySem.W.Frag}
/-- [e for x in t], t a tuple: the values are ws, and making them changes nothing that stood -/
def tCW (K : PySem.W.Frag) (tl te : TE) (j : Nat) : TE := fun σ H Q => tl σ H fun x H1 => ∃ (l : Addr) (xs ws : List V), x = .ref l ∧ SqT K H1 l xs ∧ xs.length ≤ 1000 ∧ j < σ.length ∧ ws.length = xs.length ∧
  (∀ (i : Nat) (x v : V) (τ : L2.St) (H2 : Hp) (Q' : VK), xs[i]? = some x → ws[i]? = some v → Same H1 H2 → τ[j]? = some (some x) → (∀ H3, Same H2 H3 → Q' v H3) → te τ H2 Q') ∧ ∀ D H', Same H1 H' → H1 D = none → H' D = some (.lst ws) → Q (.ref D) H'
theorem cw_of {tl te : TE} {j : Nat} (hm : ∀ σ H (Q Q' : VK), (∀ v H, Q v H → Q' v H) → tl σ H Q → tl σ H Q') (σ : L2.St) (H : Hp) (Q : VK) (h : tCW K tl te j σ H Q) : tLc (iTup K tl) (gName j) tYes te [j] σ H Q := by
  refine hm σ H _ _ (fun x H1 hx => ?_) h
  obtain ⟨l, xs, ws, ex, hl, hz, hj, lw, hv, q⟩ := hx
  refine ⟨l, ex, ⟨xs, hl⟩, fun D hD => ?_⟩
  refine lc_tup (xs := xs) (fun i H' => Same H1 H' ∧ H' D = some (.lst (ws.take i))) ⟨same_new hD, upd_same⟩ (fun _ _ _ h => same_tup h.1 hl) (fun i x H2 hx hh => ?_) (fun H2 hh => ?_)
  · obtain ⟨s2, e2⟩ := hh
    have hi : i < xs.length := (List.getElem?_eq_some_iff.mp hx).1
    have hwi : ws[i]? = some (ws[i]'(by omega)) := List.getElem?_eq_getElem (by omega)
    refine ⟨by simp [wipe], hv i x _ _ H2 _ hx hwi s2 (by simp [wipe, hj]) fun H3 s3 => ⟨_, s3 _ _ e2, ?_, fun b o eb => ?_, ?_⟩⟩
    · rw [List.length_take]
      exact small1000 (by omega)
    · rw [upd_ne (ne_of_none eb hD)]
      exact s3 _ _ (s2 _ _ eb)
    · rw [upd_same, List.take_add_one, hwi]
      rfl
  · obtain ⟨s2, e2⟩ := hh
    refine q D H2 s2 hD ?_
    rw [e2, ← lw, List.take_length]
theorem pe_cw {tl te : TE} {j : Nat} (h : PE X e (tLc (iTup K tl) (gName j) tYes te [j])) (hm : ∀ σ H (Q Q' : VK), (∀ v H, Q v H → Q' v H) → tl σ H Q → tl σ H Q') : PE X e (tCW K tl te j) := pe_imp h fun σ H Q q => cw_of hm σ H Q q
/-- the same over a list -/
def tCWl (K : PySem.W.Frag) (tl te : TE) (j : Nat) : TE := fun σ H Q => tl σ H fun x H1 => ∃ (l : Addr) (xs ws : List V), x = .ref l ∧ SqL K H1 l xs ∧ xs.length ≤ 1000 ∧ j < σ.length ∧ ws.length = xs.length ∧
  (∀ (i : Nat) (x v : V) (τ : L2.St) (H2 : Hp) (Q' : VK), xs[i]? = some x → ws[i]? = some v → Same H1 H2 → τ[j]? = some (some x) → (∀ H3, Same H2 H3 → Q' v H3) → te τ H2 Q') ∧ ∀ D H', Same H1 H' → H1 D = none → H' D = some (.lst ws) → Q (.ref D) H'
theorem cwl_of {tl te : TE} {j : Nat} (hm : ∀ σ H (Q Q' : VK), (∀ v H, Q v H → Q' v H) → tl σ H Q → tl σ H Q') (σ : L2.St) (H : Hp) (Q : VK) (h : tCWl K tl te j σ H Q) : tLc (iList K tl) (gName j) tYes te [j] σ H Q := by
  refine hm σ H _ _ (fun x H1 hx => ?_) h
  obtain ⟨l, xs, ws, ex, hl, hz, hj, lw, hv, q⟩ := hx
  refine ⟨l, ex, ⟨xs, hl⟩, fun D hD => ?_⟩
  refine lc_list (xs := xs) (fun i H' => Same H1 H' ∧ H' D = some (.lst (ws.take i))) ⟨same_new hD, upd_same⟩ (fun _ _ _ h => h.1.seq hl) (fun i x H2 hx hh => ?_) (fun H2 hh => ?_)
  · obtain ⟨s2, e2⟩ := hh
    have hi : i < xs.length := (List.getElem?_eq_some_iff.mp hx).1
    have hwi : ws[i]? = some (ws[i]'(by omega)) := List.getElem?_eq_getElem (by omega)
    refine ⟨by simp [wipe], hv i x _ _ H2 _ hx hwi s2 (by simp [wipe, hj]) fun H3 s3 => ⟨_, s3 _ _ e2, ?_, fun b o eb => ?_, ?_⟩⟩
    · rw [List.length_take]
      exact small1000 (by omega)
    · rw [upd_ne (ne_of_none eb hD)]
      exact s3 _ _ (s2 _ _ eb)
    · rw [upd_same, List.take_add_one, hwi]
      rfl
  · obtain ⟨s2, e2⟩ := hh
    refine q D H2 s2 hD ?_
    rw [e2, ← lw, List.take_length]
theorem pe_cwl {tl te : TE} {j : Nat} (h : PE X e (tLc (iList K tl) (gName j) tYes te [j])) (hm : ∀ σ H (Q Q' : VK), (∀ v H, Q v H → Q' v H) → tl σ H Q → tl σ H Q') : PE X e (tCWl K tl te j) := pe_imp h fun σ H Q q => cwl_of hm σ H Q q
theorem mono_var {i : Nat} : ∀ (σ : L2.St) (H : Hp) (Q Q' : VK), (∀ v H, Q v H → Q' v H) → tVar i σ H Q → tVar i σ H Q' := fun σ H Q Q' k h => by
  obtain ⟨v, h1, h2⟩ := h
  exact ⟨v, h1, k _ _ h2⟩
end
def rLenQ (K : PySem.W.Frag) : List V → Hp → VK → Prop := fun xs H Q => ∃ p ys, xs = [.ref p] ∧ (SqL K H p ys ∨ SqT K H p ys) ∧ Q (.int ys.length) H
def rListS (K : PySem.W.Frag) : List V → Hp → VK → Prop := fun xs H Q => ∃ p ys, xs = [.ref p] ∧ (SqL K H p ys ∨ SqT K H p ys) ∧ ∀ l H', Same H H' → H l = none → H' l = some (.lst ys) → Q (.ref l) H'
def rSortT (K : PySem.W.Frag) : List V → Hp → VK → Prop := fun vs H Q => ∃ (a : Addr) (xs : List Str), vs = [V.ref a] ∧ SqT K H a (xs.map V.str) ∧ xs.length < 64 ∧ ∀ (ys : List Str) (p : Addr) (H' : Hp), ys.Perm xs → sortedS ys = true → Same H H' → H p = none → H' p = some (.lst (ys.map V.str)) → Q (.ref p) H'
def rSortL (K : PySem.W.Frag) : List V → Hp → VK → Prop := fun vs H Q => ∃ (a : Addr) (xs : List Str), vs = [V.ref a] ∧ SqL K H a (xs.map V.str) ∧ xs.length < 64 ∧ ∀ (ys : List Str) (p : Addr) (H' : Hp), ys.Perm xs → sortedS ys = true → Same H H' → H p = none → H' p = some (.lst (ys.map V.str)) → Q (.ref p) H'
theorem eqv_txs : ∀ (a b : List Str), PyData.eqv (.list (a.map PyData.str)) (.list (b.map PyData.str)) = decide (a = b) := by
  have key : ∀ a b : List Str, PyData.eqvAll (a.map PyData.str) (b.map PyData.str) = decide (a = b) := by
    intro a
    induction a with
    | nil =>
      intro b
      cases b with
      | nil => simp [PyData.eqvAll]
      | cons y q => simp [PyData.eqvAll]
    | cons x r ih =>
      intro b
      cases b with
      | nil => simp [PyData.eqvAll]
      | cons y q =>
        simp only [List.map_cons, PyData.eqvAll, ih]
        by_cases e : x = y
        · subst e; simp [PyData.eqv]
        · simp [PyData.eqv, e]
  intro a b
  simp only [PyData.eqv, key]
theorem shaped_txs (a : List Str) (ha : ∀ z ∈ a, PyData.strOk z = true) : SeqAt.shaped (.list (a.map PyData.str)) = true := by
  have k1 : ∀ a : List Str, (∀ z ∈ a, PyData.strOk z = true) → PyData.canLayAll0 (a.map PyData.str) = true := by
    intro a
    induction a with
    | nil => simp [PyData.canLayAll0]
    | cons x r ih => intro h; simp [PyData.canLayAll0, PyData.canLay0, ih (fun z hz => h z (List.mem_cons_of_mem _ hz)), h x (List.mem_cons_self ..)]
  have k2 : ∀ a : List Str, PyData.depthAll (a.map PyData.str) = 0 := by
    intro a
    induction a with
    | nil => simp [PyData.depthAll]
    | cons x r ih => simp [PyData.depthAll, PyData.depth, ih]
  simp [SeqAt.shaped, PyData.canLay0, PyData.depth, k1 a ha, k2]
theorem dp_txs {K : PySem.W.Frag} {H : Hp} : ∀ (l : List Str), DpAll K H (l.map V.str) (l.map PyData.str)
  | [] => .nil
  | x :: r => .cons (.str x) (dp_txs r)
theorem dp_list {K : PySem.W.Frag} {H : Hp} {a : Addr} {l : List Str} (h : SqL K H a (l.map V.str)) : Dp K H (.ref a) (.list (l.map PyData.str)) := .lst h (dp_txs l)
end FS

set_option Elab.async false
set_option linter.all false
set_option maxRecDepth 100000
set_option maxHeartbeats 4000000
/-! list(reversed(a list)): a new list of what the turned one gives. -/
namespace FS
open PySem PySem.Spec PyProof.Rows L2 RT
/-- the i-th from the end -/
def TurnedBy (us : Array Value) (i : Nat) (v : Value) : Prop := us[us.size - 1 - i]? = some v
theorem list_of_turned {prog : Program} {w : World} {A : Around} {E : Value → Shared → Prop} {s : Shared} {t l : Addr} {us : Array Value} {Q : Value → Shared → Prop} (still : A.handled = none) (tIs : s.heap.IsRevIter t l ((us.size : Int) - 1)) (lIs : s.heap.IsList l us)
    (apart : l ≠ t) (fits : us.size ≤ sizeLine) (next : ∀ (g : Heap) (k : Nat) (vs : Array Value) (c : Nat), (∀ b o, b ≠ t → s.heap.get? b = some o → g.get? b = some o) → g.get? s.heap.objs.size = some ⟨.type "list", none, .seq vs c, #[]⟩ →
      ItemsOf (TurnedBy us) vs us.size → Q (.ref s.heap.objs.size) { s with heap := g, toks := k }) : wpAny (model prog w) A (call (.type "list") [.ref t]) Q E s := by
  have older : ∀ {b : Addr} {o : Obj}, s.heap.get? b = some o → b ≠ s.heap.objs.size := fun e => Nat.ne_of_lt (Heap.lt_size e)
  have t0 : t ≠ s.heap.objs.size := let ⟨_, e, _⟩ := tIs; older e
  have l0 : l ≠ s.heap.objs.size := let ⟨_, e, _⟩ := lIs; older e
  refine callType_codes (Q₁ := fun v r => v = .ref s.heap.objs.size ∧ r = { s with heap := s.heap.push ⟨.type "list", none, .seq #[] 0, #[]⟩ }) PySem.F.called_list (PySem.F.typeCall_list_1 _) PySem.F.entry_list_init (code_list_new _ ⟨rfl, rfl⟩) ?_
  rintro _ _ ⟨rfl, rfl⟩
  have laid : (s.heap.push ⟨.type "list", none, .seq #[] 0, #[]⟩).get? s.heap.objs.size = some ⟨.type "list", none, .seq #[] 0, #[]⟩ := Heap.get?_push_size _ rfl
  refine ⟨⟨_, laid, rfl⟩, PySem.F.args_list_init_2 _ _, ?_⟩
  -- the list is emptied, then it takes what the turned one gives
  show wpAny _ _ (Builtin.List.listItems (.ref s.heap.objs.size) >>= fun o => updateSeq s.heap.objs.size (fun _ => #[]) >>= fun _ => letGo o.toList.reverse >>= fun _ => Builtin.List.listExtendWith (.ref s.heap.objs.size) (.ref t) .none) _ _ _
  unfold Builtin.List.listItems
  refine wpAny_bind (wpAny_bind (wpAny_seqItems laid rfl (wpAny_pure ?_)))
  refine wpAny_bind (wpAny_updateSeq laid rfl ?_)
  refine wpAny_bind (wpAny_letGo ?_)
  have kept : ∀ b o, s.heap.get? b = some o → ((s.heap.push ⟨.type "list", none, .seq #[] 0, #[]⟩).update s.heap.objs.size (Obj.mapSeq fun _ => #[])).get? b = some o :=
    fun b o e => (Heap.get?_update_other _ _ (Ne.symm (older e))).trans (Heap.get?_push_of_some _ e)
  have empty := Heap.get?_update_self (Obj.mapSeq fun _ => (#[] : Array Value)) laid rfl
  generalize (s.heap.push ⟨.type "list", none, .seq #[] 0, #[]⟩).update s.heap.objs.size (Obj.mapSeq fun _ => #[]) = h at kept empty ⊢
  have tAt : h.IsRevIter t l ((us.size : Int) - 1) := tIs.at (kept t)
  have lAt : h.IsList l us := let ⟨o, e, r⟩ := lIs; ⟨o, kept l o e, r⟩
  have kind : ({ s with heap := h } : Shared).TypeIs (.ref t) "list_reverseiterator" := Heap.IsRevIter.typeIs (s := { s with heap := h }) tAt
  have other : Builtin.List.listSameRef (.ref s.heap.objs.size) (.ref t) = false := by
    simp [Builtin.List.listSameRef, Ne.symm t0]
  unfold Builtin.List.listExtendWith
  refine wpAny_bind (wpAny_typeOf kind ?_)
  rw [if_neg (by rw [other]; decide)]
  refine wpAny_bind (wpAny_pyIter_revIter (s := { s with heap := h }) tAt (wpAny_bind (wpAny_holding ?_)))
  unfold Builtin.List.listLengthHint
  refine wpAny_bind (wpAny_specialOf kind nolen_lri (wpAny_bind (m := specialOf (Value.ref t) (Str.ofString "__length_hint__")) (wpAny_specialOf kind hint_lri ?_)))
  have cutId : splitId "list_reverseiterator.__length_hint__" = some ("list_reverseiterator", "__length_hint__") := by decide +kernel
  generalize back : ("list_reverseiterator.__length_hint__" : String) = id0 at cutId ⊢
  wp_delta
  rw [cutId]
  subst back
  refine wpAny_bind (wpAny_isInstance (b := true) kind (by rw [isSubtype_type]; kernel_rfl) ?_)
  refine wpAny_pure ?_
  rw [if_neg (by decide)]
  have free : s.heap.objs.size ∉ [t, l] := by simp [Ne.symm t0, Ne.symm l0]
  refine wpAny_pure ⟨plainId_quiet F.plain_extend_loop _, codeAny_extend_loopS (Walks.listRev (A := A.in1.in1) still t l apart us).toS fits _ free _ us.size 0 _ _ _ rfl (Nat.zero_le _) ⟨Nat.zero_le _, by rw [show ((us.size : Nat) : Int) - 1 - ((0 : Nat) : Int) = (us.size : Int) - 1 by omega]; exact tAt, lAt⟩ empty (ItemsOf.nil _) ?_⟩
  intro r vs c moved there items
  rw [Moved.eq_with moved]
  exact ⟨rfl, next r.heap r.toks vs c (fun b o nb e => moved.heap b o (by simp [older e, nb]) (kept b o e)) there items⟩
section
variable {X : Cx}
/-- list(reversed(x)), x a list: a new list -/
def tLstRev (K : PySem.W.Frag) (te : TE) : TE := fun σ H Q => te σ H fun v H1 => ∃ (a : Addr) (xs : List V), v = .ref a ∧ SqL K H1 a xs ∧ ∀ q H2, Same H1 H2 → H1 q = none → H2 q = some (.lst xs.reverse) → Q (.ref q) H2
theorem pe_lstRevK {K : PySem.W.Frag} {e : Expr} {te : TE} {p p2 pos pos2 : Pos} (hc : X.calm = true) (hg : Gl X "list") (hm : X.mg "list" = none) (hg2 : Gl X "reversed") (hm2 : X.mg "reversed" = none) (he : PE X e te) (hK : X.K = K := by rfl)
    (one : starEach [e] X.env = (false, eval e X.env) :: starEach [] X.env := by rfl)
    (two : starEach [.Call (.Name "reversed" p2) [e] [] pos2] X.env = (false, eval (.Call (.Name "reversed" p2) [e] [] pos2) X.env) :: starEach [] X.env := by rfl) :
    PE X (.Call (.Name "list" p) [.Call (.Name "reversed" p2) [e] [] pos2] [] pos) (tLstRev K te) := by
  subst hK
  refine ⟨fun pins s σ H Q I h => Call_ (ld_blt I hg hm (by decide +kernel : bootBuiltins "list" = some (.type "list")) (PyProof.Rows.callWith_type1 (args_cons (Call_ (ld_blt I hg2 hm2 PyProof.Rows.boot_reversed (PyProof.Rows.callWith_type1 (args_cons (thn (he.run pins s σ H _ I h) ?_) one) one rfl))) two) two rfl))⟩
  rintro u z ⟨v, H1, J, hu, a, xs, rfl, hx, q⟩
  obtain rfl : u = Value.ref a := hu
  obtain ⟨its, vals, pl, small⟩ := J.list hx
  refine args_nil (call_reversed_list pl.isList (args_nil ?_))
  generalize hn : its.toArray.size = n
  have len : n = xs.length := by rw [← hn, List.size_toArray, vals.length]
  have push : ∀ b o, z.heap.get? b = some o → (z.heap.push (revObj a ((n : Int) - 1))).get? b = some o := fun _ _ => Heap.get?_push_of_some _
  have J2 : Inv X pins σ H1 { z with heap := z.heap.push (revObj a ((n : Int) - 1)) } := J.kept (t' := z.toks) push
  obtain ⟨w0, w1, _, w3, w4, w5⟩ := J.fpOk (H' := H1) (b := z.heap.objs.size) (Nat.le_refl _) (J.hok.fresh (Nat.le_refl _))
  have src := pl.isList
  have apart : a ≠ z.heap.objs.size := let ⟨_, ho, _⟩ := src; Nat.ne_of_lt (Heap.lt_size ho)
  refine list_of_turned (s := { z with heap := z.heap.push (revObj a ((n : Int) - 1)) }) (J.ok.hd hc) (by rw [hn]; exact ⟨_, Heap.get?_push_size _ rfl, rfl, rfl⟩) (src.push _) apart (by rw [hn, len]; exact small) fun g k vs c keep there items => ?_
  -- the new list's address stands free while the turned one goes
  generalize hd : (z.heap.push (revObj a ((n : Int) - 1))).objs.size = d at there
  have dn : H1 d = none := by rw [← hd]; exact J2.hok.fresh (Nat.le_refl _)
  obtain ⟨G, g1, g2⟩ := restrict g fun b => decide (b ≠ d)
  have J3 : Inv X pins σ H1 { z with heap := G, toks := k } := J2.turned (t' := k) (fun b o nb e => (g1 b (decide_eq_true (by rw [← hd]; exact Nat.ne_of_lt (Heap.lt_size e)))).trans (keep b o nb e)) w0 w1 w3 w4 w5
  have back : ∀ b o, G.get? b = some o → g.get? b = some o := fun b o e => by
    by_cases nb : b = d
    · rw [g2 b (decide_eq_false fun y => y nb)] at e
      cases e
    · exact (g1 b (decide_eq_true nb)).symm.trans e
  refine ⟨.ref d, upd H1 d (.lst xs.reverse), J3.laidN (t' := k) back (g2 _ (decide_eq_false fun y => y rfl)) dn ?_, rfl, q _ _ (same_new dn) dn upd_same⟩
  exact ⟨by rw [List.length_reverse]; exact small, vs.toList, c, vals_rev vals items, by rw [Array.toArray_toList]; exact there⟩
end
end FS

set_option Elab.async false
set_option linter.all false
set_option maxRecDepth 100000
set_option maxHeartbeats 4000000
/-! Comprehensions whose values are new lists or tuples. -/
namespace FS
open PySem PySem.Spec PyProof.Rows L2
/-- what an iterator gives, as long as what stood stands -/
def Runs (J : It) (xs : List V) (H1 : Hp) : Prop := (∀ i H, i < xs.length → Same H1 H → J.go i H) ∧ (∀ H, Same H1 H → J.stop xs.length H) ∧ ∀ i x H H', Same H1 H → J.yld i H x H' → H' = H ∧ xs[i]? = some x
theorem runs_list {K : PySem.W.Frag} {a : Addr} {xs : List V} {H1 : Hp} (h : SqL K H1 a xs) : Runs (Itl K a) xs H1 :=
  ⟨fun i H hi s => ⟨xs, _, s.seq h, List.getElem?_eq_getElem hi⟩, fun H s => ⟨xs, s.seq h, Nat.le_refl _⟩, fun i x H H' s y => ⟨y.1, y.2 xs (s.seq h)⟩⟩
theorem runs_tup {K : PySem.W.Frag} {a : Addr} {xs : List V} {H1 : Hp} (h : SqT K H1 a xs) : Runs (Itt K a) xs H1 :=
  ⟨fun i H hi s => ⟨xs, _, same_tup s h, List.getElem?_eq_getElem hi⟩, fun H s => ⟨xs, same_tup s h, Nat.le_refl _⟩, fun i x H H' s y => ⟨y.1, y.2 xs (same_tup s h)⟩⟩
theorem runs_vals {d : Addr} {o : Obj} {kvs : List (Key × V)} {H1 : Hp} (h : H1 d = some (.frz o (.dK kvs))) : Runs (Itd d o kvs) (kvs.map (·.2)) H1 :=
  ⟨fun i H hi s => ⟨s _ _ h, by rw [List.length_map] at hi; exact hi⟩, fun H s => ⟨s _ _ h, by rw [List.length_map]; exact Nat.le_refl _⟩, fun i x H H' s y => ⟨y.1, by
    obtain ⟨k, hk⟩ := y.2
    rw [List.getElem?_map, hk]
    rfl⟩⟩
/-- y is a cell with o -/
def Made {α : Type} (C : α → HO) (H : Hp) (o : α) (y : V) : Prop := ∃ r, y = .ref r ∧ H r = some (C o)
theorem Made.mono {α : Type} {C : α → HO} {H H' : Hp} {o : α} {y : V} (h : Made C H o y) (s : Same H H') : Made C H' o y := by
  obtain ⟨r, e, h⟩ := h
  exact ⟨r, e, s _ _ h⟩
theorem mades {α : Type} {C : α → HO} {H H' : Hp} {os : List α} {ys : List V} (h : Paired (Made C H) os ys) (s : Same H H') : Paired (Made C H') os ys := Paired.mono (fun _ _ m => m.mono s) h
theorem made_at {α : Type} {C : α → HO} {H : Hp} : ∀ {os : List α} {ys : List V}, Paired (Made C H) os ys → ∀ {i : Nat} {y : V}, ys[i]? = some y → ∃ o, os[i]? = some o ∧ Made C H o y
  | _, _, .nil, i, y, h => by cases h
  | _, _, .cons a t, 0, y, h => ⟨_, rfl, by cases h; exact a⟩
  | _, _, .cons a t, i + 1, y, h => made_at t h
section
variable {X : Cx} {e : Expr} {K : PySem.W.Frag}
theorem cn_at {α : Type} {C : α → HO} {J : It} {te : TE} {j : Nat} {σ : L2.St} {H1 : Hp} {Qd : Hp → Prop} {D : Addr} (hD : H1 D = none) (xs : List V) (os : List α) (hr : Runs J xs H1) (hz : xs.length ≤ 1000) (hj : j < σ.length) (lo : os.length = xs.length)
    (hv : ∀ (i : Nat) (x : V) (o : α) (τ : L2.St) (H2 : Hp) (Q' : VK), xs[i]? = some x → os[i]? = some o → Same H1 H2 → τ[j]? = some (some x) → (∀ H3 r, Same H2 H3 → H2 r = none → H3 r = some (C o) → Q' (.ref r) H3) → te τ H2 Q')
    (q : ∀ H' ys, Same H1 H' → H' D = some (.lst ys) → Paired (Made C H') os ys → Qd H') :
    ∃ W : Nat → Nat → Hp → Prop, (∃ m, W 0 m (upd H1 D (.lst []))) ∧ ∀ i m H, W i m H →
      (J.stop i H ∧ Qd H) ∨ (J.go i H ∧ ∃ Nx : Hp → Prop, (∀ H', Nx H' → ∃ m', m' < m ∧ W (i + 1) m' H') ∧ ∀ x H', J.yld i H x H' → gName j x (wipe σ [j]) H' fun σ2 H2 => wipe σ2 [j] = wipe σ [j] ∧ tYes σ2 H2 fun b H3 =>
        if b = true then te σ2 H3 fun y H4 => ∃ acc, H4 D = some (.lst acc) ∧ acc.length < sizeLine ∧ Nx (upd H4 D (.lst (acc ++ [y]))) else Nx H3) := by
  refine ⟨fun i m H => m = xs.length - i ∧ i ≤ xs.length ∧ Same H1 H ∧ ∃ ys, H D = some (.lst ys) ∧ Paired (fun o y => ∃ r, y = .ref r ∧ r ≠ D ∧ H r = some (C o)) (os.take i) ys,
    ⟨xs.length, by simp, Nat.zero_le _, same_new hD, [], upd_same, .nil⟩, ?_⟩
  rintro i m H ⟨rfl, hi, s, ys, eD, py⟩
  by_cases hlt : i < xs.length
  · have ho : os[i]? = some (os[i]'(by omega)) := List.getElem?_eq_getElem (by omega)
    refine .inr ⟨hr.1 i H hlt s, fun H' => i + 1 ≤ xs.length ∧ Same H1 H' ∧ ∃ ys, H' D = some (.lst ys) ∧ Paired (fun o y => ∃ r, y = .ref r ∧ r ≠ D ∧ H' r = some (C o)) (os.take (i + 1)) ys, fun H' p' => ⟨xs.length - (i + 1), by omega, rfl, p'.1, p'.2⟩, fun x H' y => ?_⟩
    obtain ⟨rfl, hx⟩ := hr.2.2 i x H H' s y
    refine ⟨by simp [wipe], hv i x _ _ _ _ hx ho s (by simp [wipe, hj]) fun H3 r s3 nr er => ⟨ys, s3 _ _ eD, ?_, hlt, ?_, ys ++ [.ref r], upd_same, ?_⟩⟩
    · rw [← py.length, List.length_take]
      exact small1000 (by omega)
    · intro b o eb
      rw [upd_ne (ne_of_none eb hD)]
      exact s3 _ _ (s _ _ eb)
    · have nrD : r ≠ D := fun z => by rw [z, eD] at nr; cases nr
      rw [List.take_add_one, ho]
      refine Paired.snoc (Paired.mono (fun o y m => ?_) py) ⟨r, rfl, nrD, by rw [upd_ne nrD]; exact er⟩
      obtain ⟨r', e', n', h'⟩ := m
      exact ⟨r', e', n', by rw [upd_ne n']; exact s3 _ _ h'⟩
  · have e : i = xs.length := by omega
    subst e
    refine .inl ⟨hr.2.1 H s, q H ys s eD ?_⟩
    rw [← lo, List.take_length] at py
    exact Paired.mono (fun o y ⟨r, e', _, h'⟩ => ⟨r, e', h'⟩) py
theorem cn_core {α : Type} {C : α → HO} {J : It} {te : TE} {j : Nat} {σ : L2.St} {H1 : Hp} {Q : VK} (xs : List V) (os : List α) (hr : Runs J xs H1) (hz : xs.length ≤ 1000) (hj : j < σ.length) (lo : os.length = xs.length)
    (hv : ∀ (i : Nat) (x : V) (o : α) (τ : L2.St) (H2 : Hp) (Q' : VK), xs[i]? = some x → os[i]? = some o → Same H1 H2 → τ[j]? = some (some x) → (∀ H3 r, Same H2 H3 → H2 r = none → H3 r = some (C o) → Q' (.ref r) H3) → te τ H2 Q')
    (q : ∀ D H' ys, Same H1 H' → H1 D = none → H' D = some (.lst ys) → Paired (Made C H') os ys → Q (.ref D) H') :
    ∀ D, H1 D = none → ∃ W : Nat → Nat → Hp → Prop, (∃ m, W 0 m (upd H1 D (.lst []))) ∧ ∀ i m H, W i m H →
      (J.stop i H ∧ Q (.ref D) H) ∨ (J.go i H ∧ ∃ Nx : Hp → Prop, (∀ H', Nx H' → ∃ m', m' < m ∧ W (i + 1) m' H') ∧ ∀ x H', J.yld i H x H' → gName j x (wipe σ [j]) H' fun σ2 H2 => wipe σ2 [j] = wipe σ [j] ∧ tYes σ2 H2 fun b H3 =>
        if b = true then te σ2 H3 fun y H4 => ∃ acc, H4 D = some (.lst acc) ∧ acc.length < sizeLine ∧ Nx (upd H4 D (.lst (acc ++ [y]))) else Nx H3) := fun D hD => cn_at hD xs os hr hz hj lo hv fun H' ys s e p => q D H' ys s hD e p
end
end FS

set_option Elab.async false
set_option linter.all false
set_option maxRecDepth 100000
set_option maxHeartbeats 4000000
/-! Slices, and tuples put together. -/
namespace FS
open PySem PySem.Spec PyProof.Rows L2
theorem cut_to (xs : List V) (k : Nat) : cutV xs none (some (k : Int)) = xs.take k := by
  unfold cutV
  rw [HT.sIx_none, HT.sIx_nat, List.drop_zero, Nat.sub_zero]
  by_cases h : k ≤ xs.length
  · rw [Nat.min_eq_left h]
  · rw [Nat.min_eq_right (by omega), List.take_length, List.take_of_length_le (by omega)]
theorem cut_from (xs : List V) (k : Nat) : cutV xs (some (k : Int)) none = xs.drop k := by
  unfold cutV
  rw [HT.sIx_none, HT.sIx_nat]
  by_cases h : k ≤ xs.length
  · rw [Nat.min_eq_left h]
    exact List.take_of_length_le (by rw [List.length_drop]; exact Nat.le_refl _)
  · rw [Nat.min_eq_right (by omega), List.drop_length, List.drop_of_length_le (by omega)]
    rw [List.take_nil]
theorem pr_take {α β : Type} {F : α → β → Prop} : ∀ {as : List α} {bs : List β} (k : Nat), Paired F as bs → Paired F (as.take k) (bs.take k)
  | _, _, 0, _ => by rw [List.take_zero, List.take_zero]; exact .nil
  | _, _, k + 1, .nil => .nil
  | _, _, k + 1, .cons a t => .cons a (pr_take k t)
theorem pr_drop {α β : Type} {F : α → β → Prop} : ∀ {as : List α} {bs : List β} (k : Nat), Paired F as bs → Paired F (as.drop k) (bs.drop k)
  | _, _, 0, h => h
  | _, _, k + 1, .nil => .nil
  | _, _, k + 1, .cons a t => pr_drop k t
theorem pr_app {α β : Type} {F : α → β → Prop} : ∀ {as : List α} {bs : List β} {cs : List α} {ds : List β}, Paired F as bs → Paired F cs ds → Paired F (as ++ cs) (bs ++ ds)
  | _, _, _, _, .nil, h => h
  | _, _, _, _, .cons a t, h => .cons a (pr_app t h)
section
variable {X : Cx}
def rCatB : R2 := fun x y H Q => ∃ a b xs ys, x = .ref a ∧ y = .ref b ∧ H a = some (.tup xs) ∧ H b = some (.tup ys) ∧ xs.length + ys.length ≤ 1000 ∧ ∀ p H', Same H H' → H' p = some (.tup (xs ++ ys)) → Q (.ref p) H'
theorem op_catB : OpR X (binaryOp .Add) rCatB := fun pins s σ H x y v u Q I rx ry ⟨a, b, xs, ys, e1, e2, h1, h2, hz, q⟩ =>
  op_catA pins s σ H x y v u Q I rx ry ⟨a, b, xs, ys, e1, e2, .inl (.inl h1), .inl (.inl h2), Nat.le_of_lt (small1000 hz), fun e => q b H (Same.refl _) (by rw [e]; exact h2), fun _ e => q a H (Same.refl _) (by rw [e, List.append_nil]; exact h1),
    fun _ _ p np => q p _ (same_new np) upd_same⟩
def rSlB : V → Option Int → Option Int → Hp → VK → Prop := fun x lo hi H Q => ∃ a xs, x = .ref a ∧ H a = some (.tup xs) ∧ ∀ p H', Same H H' → H' p = some (.tup (cutV xs lo hi)) → Q (.ref p) H'
theorem sl_tupB : SlR X rSlB := fun pins s σ H x v vl vu lo hi sl Q I rx hs pl pu ⟨a, xs, e, hx, q⟩ =>
  sl_tupA pins s σ H x v vl vu lo hi sl Q I rx hs pl pu ⟨a, xs, e, .inl (.inl hx), fun ⟨h1, h2⟩ => q a H (Same.refl _) (by
    unfold cutV
    rw [h1, h2, List.drop_zero, Nat.sub_zero, List.take_length]
    exact hx), fun _ p np => q p _ (same_new np) upd_same⟩
end
end FS

set_option Elab.async false
set_option linter.all false
set_option maxRecDepth 100000
set_option maxHeartbeats 4000000
/-! What the law builds: groups. -/
namespace BL
open PySem PySem.Spec PyProof.Rows L2 FS MP
def cS (g : List Str) : HO := .lst (g.map V.str)
/-- a list of lists of texts -/
def GsAt (H : Hp) (a : Addr) (gs : List (List Str)) : Prop := ∃ ys, H a = some (.lst ys) ∧ Paired (Made cS H) gs ys
theorem GsAt.mono {H H' : Hp} {a : Addr} {gs : List (List Str)} (h : GsAt H a gs) (s : Same H H') : GsAt H' a gs := by
  obtain ⟨ys, e, p⟩ := h
  exact ⟨ys, s _ _ e, mades p s⟩
theorem paired_of {α β : Type} {F : α → β → Prop} : ∀ {as : List α} {bs : List β}, as.length = bs.length → (∀ (j : Nat) (a : α) (b : β), as[j]? = some a → bs[j]? = some b → F a b) → Paired F as bs
  | [], [], _, _ => .nil
  | [], _ :: _, h, _ => by simp at h
  | _ :: _, [], h, _ => by simp at h
  | a :: as, b :: bs, h, k => .cons (k 0 a b rfl rfl) (paired_of (by simpa using h) fun j x y hx hy => k (j + 1) x y hx hy)
theorem flat_set {z : Str} : ∀ {cs : List (List Str)} {j : Nat} {g : List Str}, cs[j]? = some g → (cs.set j (g ++ [z])).flatten.length = cs.flatten.length + 1 ∧ ∀ y ∈ (cs.set j (g ++ [z])).flatten, y ∈ cs.flatten ∨ y = z
  | [], _, _, h => by cases h
  | a :: r, 0, g, h => by
    obtain rfl : a = g := Option.some.inj h
    refine ⟨?_, fun y hy => ?_⟩
    · show ((a ++ [z]) ++ r.flatten).length = (a ++ r.flatten).length + 1
      simp only [List.length_append, List.length_singleton]
      omega
    · have hy : y ∈ (a ++ [z]) ++ r.flatten := hy
      show y ∈ a ++ r.flatten ∨ y = z
      simp only [List.mem_append, List.mem_singleton] at hy ⊢
      rcases hy with (h | h) | h
      · exact .inl (.inl h)
      · exact .inr h
      · exact .inl (.inr h)
  | a :: r, j + 1, g, h => by
    obtain ⟨h1, h2⟩ := flat_set (z := z) (cs := r) (j := j) (g := g) h
    refine ⟨?_, fun y hy => ?_⟩
    · show (a ++ (r.set j (g ++ [z])).flatten).length = (a ++ r.flatten).length + 1
      rw [List.length_append, List.length_append, h1]
      omega
    · have hy : y ∈ a ++ (r.set j (g ++ [z])).flatten := hy
      show y ∈ a ++ r.flatten ∨ y = z
      rcases List.mem_append.mp hy with h | h
      · exact .inl (List.mem_append_left _ h)
      · rcases h2 y h with h | h
        · exact .inl (List.mem_append_right _ h)
        · exact .inr h
theorem len_flat {α : Type} : ∀ {cs : List (List α)} {g : List α}, g ∈ cs → g.length ≤ cs.flatten.length
  | [], g, h => by cases h
  | a :: r, g, h => by
    show g.length ≤ (a ++ r.flatten).length
    rw [List.length_append]
    rcases List.mem_cons.mp h with e | h
    · rw [e]
      omega
    · have := len_flat h
      omega
/-- the dict of groups -/
structure GI (H : Hp) (d : Addr) (N : List Str) (i m : Nat) (G : Hp) (kvs : List (Key × V)) (rs : List Addr) (cs : List (List Str)) : Prop where
  s : Same H G
  e : G d = some (.dK kvs)
  v : kvs.map (·.2) = rs.map V.ref
  nd : rs.Nodup
  le : cs.length = rs.length
  p : ∀ (j : Nat) (g : List Str) (r : Addr), cs[j]? = some g → rs[j]? = some r → G r = some (cS g) ∧ H r = none ∧ r ≠ d
  fl : cs.flatten.length = i
  mem : ∀ z ∈ cs.flatten, z ∈ N
  len : cs.length ≤ m
theorem GI.app {H G : Hp} {d r : Addr} {N : List Str} {i m j : Nat} {kvs : List (Key × V)} {rs : List Addr} {cs : List (List Str)} {g : List Str} {z : Str} (I : GI H d N i m G kvs rs cs) (hr : rs[j]? = some r) (hg : cs[j]? = some g) (hz : z ∈ N) :
    GI H d N (i + 1) m (upd G r (.lst (g.map V.str ++ [.str z]))) kvs rs (cs.set j (g ++ [z])) := by
  obtain ⟨p1, p2, p3⟩ := I.p j g r hg hr
  obtain ⟨f1, f2⟩ := flat_set (z := z) hg
  refine ⟨fun b o e => ?_, ?_, I.v, I.nd, by rw [List.length_set]; exact I.le, fun k g' r' hg' hr' => ?_, by rw [f1, I.fl], fun y hy => ?_, by rw [List.length_set]; exact I.len⟩
  · rw [upd_ne (ne_of_none e p2)]
    exact I.s _ _ e
  · rw [upd_ne (Ne.symm p3)]
    exact I.e
  · by_cases hk : k = j
    · subst hk
      have e1 : r' = r := Option.some.inj (hr'.symm.trans hr)
      subst e1
      have e2 : g' = g ++ [z] := by
        rw [List.getElem?_set_self (List.getElem?_eq_some_iff.mp hg).1] at hg'
        exact (Option.some.inj hg').symm
      subst e2
      refine ⟨?_, p2, p3⟩
      rw [upd_same]
      show some (HO.lst _) = some (HO.lst ((g ++ [z]).map V.str))
      rw [List.map_append]
      rfl
    · rw [List.getElem?_set_ne (Ne.symm hk)] at hg'
      obtain ⟨q1, q2, q3⟩ := I.p k g' r' hg' hr'
      have nr : r' ≠ r := by
        intro e
        subst e
        have h1 := (List.getElem?_eq_some_iff.mp hr').1
        have h2 := (List.getElem?_eq_some_iff.mp hr).1
        exact hk ((List.getElem?_inj h1 I.nd).mp (hr'.trans hr.symm))
      exact ⟨by rw [upd_ne nr]; exact q1, q2, q3⟩
  · rcases f2 y hy with h | h
    · exact I.mem y h
    · rw [h]
      exact hz
theorem GI.new {H G G' : Hp} {d r : Addr} {N : List Str} {i m : Nat} {kvs : List (Key × V)} {rs : List Addr} {cs : List (List Str)} {k : Key} (I : GI H d N i m G kvs rs cs) (hd : H d = none) (s : Same G G') (nr : G r = none) (er : G' r = some (.lst [])) :
    GI H d N i (m + 1) (upd G' d (.dK (kvs ++ [(k, .ref r)]))) (kvs ++ [(k, .ref r)]) (rs ++ [r]) (cs ++ [[]]) := by
  have nrd : r ≠ d := fun e => by rw [e, I.e] at nr; cases nr
  have nrs : r ∉ rs := fun h => by
    obtain ⟨j, hj, ej⟩ := List.getElem_of_mem h
    have hr := I.p j (cs[j]'(by have := I.le; omega)) r (List.getElem?_eq_getElem _) (by rw [List.getElem?_eq_getElem hj, ej])
    rw [nr] at hr
    cases hr.1
  refine ⟨fun b o e => ?_, upd_same, by rw [List.map_append, List.map_append, I.v]; rfl, ?_, by rw [List.length_append, List.length_append, I.le]; rfl, fun j g r' hg hr' => ?_, ?_, ?_, ?_⟩
  · rw [upd_ne (ne_of_none e hd)]
    exact s _ _ (I.s _ _ e)
  · rw [List.nodup_append]
    exact ⟨I.nd, by simp, fun a ha b hb => by
      rw [List.mem_singleton.mp hb]
      exact fun e => nrs (e ▸ ha)⟩
  · by_cases hj : j < cs.length
    · rw [List.getElem?_append_left hj] at hg
      rw [List.getElem?_append_left (by rw [← I.le]; exact hj)] at hr'
      obtain ⟨q1, q2, q3⟩ := I.p j g r' hg hr'
      exact ⟨by rw [upd_ne q3]; exact s _ _ q1, q2, q3⟩
    · have h1 := (List.getElem?_eq_some_iff.mp hg).1
      rw [List.length_append, List.length_singleton] at h1
      have ej : j = cs.length := by omega
      subst ej
      rw [List.getElem?_append_right (Nat.le_refl _), Nat.sub_self] at hg
      rw [I.le, List.getElem?_append_right (Nat.le_refl _), Nat.sub_self] at hr'
      cases hg
      cases hr'
      exact ⟨by rw [upd_ne nrd]; exact er, I.s.free nr, nrd⟩
  · rw [List.flatten_append, List.length_append, I.fl]
    simp
  · intro z hz
    rw [List.flatten_append, List.mem_append] at hz
    rcases hz with h | h
    · exact I.mem z h
    · simp at h
  · rw [List.length_append]
    exact Nat.add_le_add_right I.len 1
theorem GI.more {H G : Hp} {d : Addr} {N : List Str} {i m m' : Nat} {kvs : List (Key × V)} {rs : List Addr} {cs : List (List Str)} (I : GI H d N i m G kvs rs cs) (h : m ≤ m') : GI H d N i m' G kvs rs cs := { I with len := Nat.le_trans I.len h }
theorem GI.same {H G G' : Hp} {d : Addr} {N : List Str} {i m : Nat} {kvs : List (Key × V)} {rs : List Addr} {cs : List (List Str)} (I : GI H d N i m G kvs rs cs) (s : Same G G') : GI H d N i m G' kvs rs cs :=
  { I with s := I.s.trans s, e := s _ _ I.e, p := fun j g r hg hr => let ⟨a, b, c⟩ := I.p j g r hg hr; ⟨s _ _ a, b, c⟩ }
theorem val_at {κ : Type} [DecidableEq κ] : ∀ {kvs : List (κ × V)} {k : κ} {v : V}, valV kvs k = some v → ∃ j : Nat, (kvs.map (·.2))[j]? = some v
  | [], k, v, h => by cases h
  | p :: r, k, v, h => by
    by_cases e : p.1 = k
    · rw [valV_pos e] at h
      exact ⟨0, h⟩
    · rw [valV_neg e] at h
      obtain ⟨j, hj⟩ := val_at h
      exact ⟨j + 1, hj⟩
section
variable {P : Program} {w : World} {K : PySem.W.Frag} {mg : Str → Option Value} {base : Heap}
def spGroup : Sp := fun vs H Q _ => ∃ (n l : Addr) (N : List Str) (ls : List Int), vs = [.ref n, .ref l] ∧ H n = some (.lst (N.map V.str)) ∧ H l = some (.lst (ls.map V.int)) ∧ ls.length = N.length ∧ N.length ≤ 8 ∧
  ∀ H' a gs, Same H H' → H a = none → GsAt H' a gs → gs.flatten.length ≤ 8 → gs.length ≤ 8 → (∀ z ∈ gs.flatten, z ∈ N) → Q (.ref a) H'
theorem scG : FnScope ["_law_names", "_law_labels", "_law_groups", "_law_spot", "_law_group"] ["_law_names", "_law_labels"] (defScope TopL.sGroup) := ⟨rfl, rfl, rfl, by decide +kernel, rfl, by decide +kernel, by decide +kernel⟩
theorem ok_group {f : Addr} {fd : FuncData} (F : Fun K "_law_part" "_law_part" TopL.sGroup f fd) (zn : mg "len" = none) (zr : mg "range" = none) (zl : mg "list" = none) : FnOk P w K mg base CX0 1 f fd ["_law_names", "_law_labels"] spGroup := by
  refine F.ok scG (fun vs H Q E h => ?_) (fun cdv A0 outer s H vs Q E hr h => ?_)
  · obtain ⟨n, l, N, ls, rfl, _⟩ := h
    rfl
  · obtain ⟨n, l, N, ls, rfl, hn, hl, ll, l8, q⟩ := h
    refine ⟨_, pss_cons (ps_set (i := 2) scG.nd rfl (.inl rfl) pe_dictS)
      (pss_cons (ps_for PassesOwn.never rfl (pi_range1 (by rfl) zr (pa_cons (pe_callB (id := "len") (r := rLenQ K) call_len_seq (by rfl) zn PySem.boot_len (pa_cons (pv 0) pa_nil)) pa_nil)) (pg_name (i := 3) scG.nd rfl (Or.inl rfl))
        (pss_cons (ps_set (i := 4) scG.nd rfl (.inl rfl) (pe_dsetd (pv 2) (pe_ix (r := rIxL K) ix_list (pv 1) (pv 3) (fun _ _ => rfl)) (pe_lstS pa_nil) ⟨rfl, rfl, rfl, rfl⟩))
          (pss_one (ps_expr (pe_bm PySem.F.plainAttrs_list PySem.F.slot_list_append PySem.F.type_list_append mt_append (pv 4) (pa_cons (pe_ix (r := rIxL K) ix_list (pv 0) (pv 3) (fun _ _ => rfl)) pa_nil))))))
      (pss_one (ps_ret (pe_lock (pe_lc (own := [("_law_group", 4)]) (g := gName 4) (tt := tYes) rfl scG.nd (pi_values (pv 2)) (blkOk_by (N := ["_law_names", "_law_labels", "_law_groups", "_law_spot", "_law_group"]) (sc := defScope TopL.sGroup) (by decide +kernel)) (fun _ _ _ _ _ => pg_name (i := 4) scG.nd rfl (Or.inl rfl)) (fun _ _ _ _ _ => pts_nil)
          (fun _ _ _ _ _ => pe_callTy (r := rListS K) call_listS (by rfl) zl (by decide +kernel) (pa_cons (pv 4) pa_nil))))))), ?_⟩
    refine fun d H1 s1 n1 e1 => ?_
    refine ⟨.ref n, rfl, n, _, rfl, .inl (SqL.of (s1 _ _ hn)), _, rfl, ?_, ?_, ?_⟩
    · show -(2 ^ 62) ≤ ((N.map V.str).length : Int)
      omega
    · show ((N.map V.str).length : Int) < 2 ^ 62
      rw [List.length_map]
      omega
    have hi8 : ∀ i : Nat, i < ((N.map V.str).length : Int).toNat → i < N.length := fun i h => by
      rw [List.length_map] at h
      exact h
    refine for_range (fun i σ H' => ∃ v3 v4, σ = [some (.ref n), some (.ref l), some (.ref d), v3, v4] ∧ ∃ kvs rs cs, GI H d N i i H' kvs rs cs) ⟨none, none, rfl, [], [], [], s1, e1, rfl, .nil, rfl, fun j g r h => (by cases h), rfl, fun z h => (by cases h), Nat.le_refl _⟩ ?turn ?done
    case turn =>
      rintro i σ H2 hi ⟨v3, v4, rfl, kvs, rs, cs, I⟩
      have hi' := hi8 i hi
      have lk : kvs.length = cs.length := by
        have := congrArg List.length I.v
        rw [List.length_map, List.length_map] at this
        rw [this, I.le]
      have lc := I.len
      have fin : ∀ (j : Nat) (r : Addr) (g : List Str) (G : Hp) (m : Nat) kvs rs cs, GI H d N i m G kvs rs cs → m ≤ i + 1 → rs[j]? = some r → cs[j]? = some g →
          G r = some (.lst (g.map V.str)) ∧ (g.map V.str).length < sizeLine ∧ G n = some (.lst (N.map V.str)) ∧ GI H d N (i + 1) (i + 1) (upd G r (.lst (g.map V.str ++ [.str (N[i]'hi')]))) kvs rs (cs.set j (g ++ [N[i]'hi'])) := by
        intro j r g G m kvs rs cs I hm hr hg
        refine ⟨(I.p j g r hg hr).1, ?_, I.s _ _ hn, (I.app hr hg (List.getElem_mem hi')).more hm⟩
        have h1 := len_flat (List.mem_of_getElem? hg)
        rw [List.length_map]
        have := I.fl
        exact small1000 (by omega)
      have ea : atI (ls.map V.int) (0 + (i : Int)) = some (.int (ls[i]'(by omega))) := by rw [Int.zero_add]; exact atI_nat (LD.at_int (by omega))
      have en : atI (N.map V.str) (0 + (i : Int)) = some (.str (N[i]'hi')) := by
        rw [Int.zero_add]
        exact atI_nat (by rw [List.getElem?_map, List.getElem?_eq_getElem hi']; rfl)
      refine ⟨.ref d, rfl, d, rfl, .inl ⟨kvs, .of I.e⟩, .ref l, rfl, .int (0 + (i : Int)), rfl, l, _, _, _, rfl, rfl, SqL.of (I.s _ _ hl), ea, by simp, fun r0 H3 s3 n3 e3 => ⟨kvs, .inl (ls[i]'(by omega)), s3 _ _ I.e, rfl, small1000 (by omega), fun v hv => ?_, fun hv => ?_⟩⟩
      · obtain ⟨j, hj⟩ := val_at hv
        rw [I.v, List.getElem?_map] at hj
        obtain ⟨r, hr, rfl⟩ : ∃ r, rs[j]? = some r ∧ v = V.ref r := by
          cases e : rs[j]? with
          | none => rw [e] at hj; cases hj
          | some r => rw [e] at hj; exact ⟨r, rfl, (Option.some.inj hj).symm⟩
        have hjl := (List.getElem?_eq_some_iff.mp hr).1
        obtain ⟨f1, f2, f3, f4⟩ := fin j r (cs[j]'(by have := I.le; omega)) H3 i kvs rs cs (I.same s3) (by omega) hr (List.getElem?_eq_getElem _)
        exact ⟨.ref r, rfl, .inl ⟨rfl, _, SqL.of f1⟩, .ref n, rfl, .int (0 + (i : Int)), rfl, n, _, _, _, rfl, rfl, SqL.of f3, en, r, _, _, rfl, rfl, f1, f2, _, _, rfl, kvs, rs, _, f4⟩
      · rw [putK_new _ hv]
        have I3 := I.new (k := .inl (ls[i]'(by omega))) n1 s3 n3 e3
        obtain ⟨f1, f2, f3, f4⟩ := fin rs.length r0 [] _ (i + 1) _ _ _ I3 (Nat.le_refl _) (by simp) (by rw [← I.le]; simp)
        exact ⟨.ref r0, rfl, .inl ⟨rfl, _, SqL.of f1⟩, .ref n, rfl, .int (0 + (i : Int)), rfl, n, _, _, _, rfl, rfl, SqL.of f3, en, r0, _, _, rfl, rfl, f1, f2, _, _, rfl, _, _, _, f4⟩
    case done =>
      rintro σ H2 ⟨v3, v4, rfl, kvs, rs, cs, I⟩
      have hN : ((N.map V.str).length : Int).toNat = N.length := by rw [List.length_map]; rfl
      rw [hN] at I
      have lv : (kvs.map (·.2)).length = rs.length := by rw [I.v, List.length_map]
      have lc := I.len
      refine ⟨d, _, I.e, trivial, fun od => ?_⟩
      refine ⟨.ref d, rfl, d, od, kvs, rfl, upd_same, ?_⟩
      intro D0 hD0
      refine cn_core (C := cS) (j := 4) (te := tCB (rListS K) (tCons (tVar 4) tNil)) (Q := fun v H' => H' d = some (.frz od (.dK kvs)) ∧ Q v (upd H' d (.dK kvs))) (σ := [some (.ref n), some (.ref l), some (.ref d), v3, v4]) (kvs.map (·.2)) cs (runs_vals upd_same) (by rw [lv, ← I.le]; omega) (by show 4 < 5; decide) (by rw [lv, I.le]) (fun i x o τ H3 Q' hx ho s3 hτ k => ?_) (fun D H3 ys s3 nD eD py => ?_) D0 hD0
      · rw [I.v, List.getElem?_map] at hx
        obtain ⟨r, hr, rfl⟩ : ∃ r, rs[i]? = some r ∧ x = V.ref r := by
          cases e : rs[i]? with
          | none => rw [e] at hx; cases hx
          | some r => rw [e] at hx; exact ⟨r, rfl, (Option.some.inj hx).symm⟩
        obtain ⟨p1, p2, p3⟩ := I.p i o r ho hr
        exact ⟨.ref r, hτ, r, o.map V.str, rfl, .inl (SqL.of (s3 _ _ (by rw [upd_ne p3]; exact p1))), fun l2 H4 s4 n4 e4 => k H4 l2 s4 n4 e4⟩
      · refine ⟨s3 _ _ upd_same, ?_⟩
        have nDd : D ≠ d := fun e => by rw [e, upd_same] at nD; cases nD
        rw [upd_ne nDd] at nD
        have ed3 := s3 _ _ (upd_same (H := H2) (a := d))
        refine q _ D cs (fun b o e => ?_) (I.s.free nD) ⟨ys, by rw [upd_ne nDd]; exact eD, Paired.mono (fun o y ⟨r, e, h⟩ => ⟨r, e, ?_⟩) py⟩ (by rw [I.fl]; exact l8) (by omega) I.mem
        · have nb := ne_of_none e n1
          rw [upd_ne nb]
          refine s3 _ _ ?_
          rw [upd_ne nb]
          exact I.s _ _ e
        · have nr : r ≠ d := fun z => by rw [z, ed3] at h; cases h
          rw [upd_ne nr]
          exact h
end
end BL

set_option Elab.async false
set_option linter.all false
set_option maxRecDepth 100000
set_option maxHeartbeats 8000000
/-! What the law builds: groups, bent. -/
namespace BL
open PySem PySem.Spec PyProof.Rows L2 FS MP
theorem Made.off {H H' : Hp} {p : Addr} {g : List Str} {y : V} (h : Made cS H g y) (L : LD.LAt p H) (o : Off p H H') : Made cS H' g y := by
  obtain ⟨r, e, h⟩ := h
  refine ⟨r, e, o _ _ (fun z => ?_) h⟩
  subst z
  obtain ⟨ms, hm, h2, _⟩ := L
  have e : HO.lst (ms.map V.int) = cS g := Option.some.inj (hm.symm.trans h)
  have e : ms.map V.int = g.map V.str := by injection e
  cases ms with
  | nil => simp at h2
  | cons a r =>
    cases g with
    | nil => cases e
    | cons b q => cases e
theorem GsAt.off {H H' : Hp} {p a : Addr} {gs : List (List Str)} (h : GsAt H a gs) (L : LD.LAt p H) (o : Off p H H') : GsAt H' a gs := by
  obtain ⟨ys, e, py⟩ := h
  refine ⟨ys, o _ _ (fun z => ?_) e, Paired.mono (fun _ _ m => Made.off m L o) py⟩
  subst z
  obtain ⟨ms, hm, h2, _⟩ := L
  have e : HO.lst (ms.map V.int) = .lst ys := Option.some.inj (hm.symm.trans e)
  have e : ms.map V.int = ys := by injection e
  subst e
  cases ms with
  | nil => simp at h2
  | cons a r =>
    cases py with
    | cons m _ =>
      obtain ⟨q, e, _⟩ := m
      cases e
def dG (gs : List (List Str)) : PyData := .list (gs.map fun g => .list (g.map PyData.str))
theorem dp_groups {K : PySem.W.Frag} {H : Hp} : ∀ {gs : List (List Str)} {ys : List V}, Paired (Made cS H) gs ys → DpAll K H ys (gs.map fun g => .list (g.map PyData.str))
  | _, _, .nil => .nil
  | _, _, .cons ⟨r, e, h⟩ t => by
    subst e
    exact .cons (dp_list (SqL.of h)) (dp_groups t)
theorem GsAt.dp {K : PySem.W.Frag} {H : Hp} {a : Addr} {gs : List (List Str)} (h : GsAt H a gs) : Dp K H (.ref a) (dG gs) := by
  obtain ⟨ys, e, p⟩ := h
  exact .lst (SqL.of e) (dp_groups p)
theorem shaped_dG {gs : List (List Str)} (h : ∀ z ∈ gs.flatten, PyData.strOk z = true) : SeqAt.shaped (dG gs) = true := by
  have k1 : ∀ gs : List (List Str), (∀ z ∈ gs.flatten, PyData.strOk z = true) → PyData.canLayAll0 (gs.map fun g => PyData.list (g.map PyData.str)) = true ∧ PyData.depthAll (gs.map fun g => PyData.list (g.map PyData.str)) ≤ 1 := by
    intro gs
    induction gs with
    | nil => intro _; simp [PyData.canLayAll0, PyData.depthAll]
    | cons g r ih =>
      intro h
      have hg := shaped_txs g fun z hz => h z (List.mem_append_left _ hz)
      obtain ⟨i1, i2⟩ := ih fun z hz => h z (List.mem_append_right _ hz)
      have c := SeqAt.canLay_of_shaped hg
      have k2 : ∀ a : List Str, PyData.depthAll (a.map PyData.str) = 0 := by
        intro a
        induction a with
        | nil => simp [PyData.depthAll]
        | cons x r ih => simp [PyData.depthAll, PyData.depth, ih]
      constructor
      · simp [PyData.canLayAll0, i1, c]
      · simp [PyData.depthAll, PyData.depth, k2]
        omega
  obtain ⟨h1, h2⟩ := k1 gs h
  unfold SeqAt.shaped dG
  rw [Bool.and_eq_true]
  constructor
  · simp [PyData.canLay0, h1]
  · refine decide_eq_true ?_
    simp only [PyData.depth]
    omega
theorem eqv_nil (gs : List (List Str)) : PyData.eqv (dG gs) (.list []) = gs.isEmpty := by
  cases gs <;> simp [dG, PyData.eqv, PyData.eqvAll]
theorem flat_split : ∀ {gs : List (List Str)} {k : Nat} {g : List Str}, gs[k]? = some g → gs.flatten = (gs.take k).flatten ++ (g ++ (gs.drop (k + 1)).flatten)
  | [], _, _, h => by cases h
  | a :: r, 0, g, h => by
    cases h
    rfl
  | a :: r, k + 1, g, h => by
    have ih := flat_split (gs := r) (k := k) (g := g) h
    show a ++ r.flatten = (a ++ (r.take k).flatten) ++ _
    rw [ih, List.append_assoc]
    rfl
theorem take_in {gs : List (List Str)} {k : Nat} {z : Str} (h : z ∈ (gs.take k).flatten) : z ∈ gs.flatten := by
  obtain ⟨g, h1, h2⟩ := List.mem_flatten.mp h
  exact List.mem_flatten.mpr ⟨g, List.mem_of_mem_take h1, h2⟩
theorem drop_in {gs : List (List Str)} {k : Nat} {z : Str} (h : z ∈ (gs.drop k).flatten) : z ∈ gs.flatten := by
  obtain ⟨g, h1, h2⟩ := List.mem_flatten.mp h
  exact List.mem_flatten.mpr ⟨g, List.mem_of_mem_drop h1, h2⟩
theorem rev_flat : ∀ gs : List (List Str), (gs.map List.reverse).flatten.length = gs.flatten.length ∧ ∀ z ∈ (gs.map List.reverse).flatten, z ∈ gs.flatten
  | [] => ⟨rfl, fun z h => (by cases h)⟩
  | g :: r => by
    obtain ⟨h1, h2⟩ := rev_flat r
    refine ⟨?_, fun z hz => ?_⟩
    · show (g.reverse ++ (r.map List.reverse).flatten).length = (g ++ r.flatten).length
      rw [List.length_append, List.length_append, h1, List.length_reverse]
    · have hz : z ∈ g.reverse ++ (r.map List.reverse).flatten := hz
      rcases List.mem_append.mp hz with h | h
      · exact List.mem_append_left _ (List.mem_reverse.mp h)
      · exact List.mem_append_right _ (h2 z h)
section
variable {P : Program} {w : World} {K : PySem.W.Frag} {mg : Str → Option Value} {base : Heap}
def spBent : Sp := fun vs H Q _ => ∃ (p a : Addr) (gs : List (List Str)), vs = [.ref p, .ref a] ∧ LD.LAt p H ∧ GsAt H a gs ∧ (∀ z ∈ gs.flatten, PyData.strOk z = true) ∧ gs.length ≤ 100 ∧ gs.flatten.length ≤ 100 ∧
  ∀ H' b gs', Off p H H' → LD.LAt p H' → GsAt H' b gs' → gs'.length ≤ gs.length + 1 → gs'.flatten.length ≤ 2 * gs.flatten.length + 1 → (∀ z ∈ gs'.flatten, PyData.strOk z = true) → Q (.ref b) H'
theorem scB : FnScope ["_law_left_here", "_law_groups", "_law_way", "_law_spot", "_law_twice", "_law_longer", "_law_parts", "_law_group"] ["_law_left_here", "_law_groups"] (defScope TopL.sBent) := ⟨rfl, rfl, rfl, by decide +kernel, rfl, by decide +kernel, by decide +kernel⟩

theorem ok_bent {f fD : Addr} {fd fdD : FuncData} (F : Fun K "_law_bent" "_law_bent" TopL.sBent f fd) (zn : mg "len" = none) (zM : mg "max" = none) (zl : mg "list" = none) (zv : mg "reversed" = none)
    (GD : FnOk P w K mg base CX0 1 fD fdD ["_law_left_here", "_law_most"] LD.spDraw) (bD : Binds K fdD ["_law_left_here", "_law_most"] []) (gD : mg "_law_draw" = some (.ref fD)) (kD : PySem.W.keepIn K (.ref fD) = true) : FnOk P w K mg base CX0 2 f fd ["_law_left_here", "_law_groups"] spBent := by
  refine F.ok scB (fun vs H Q E h => ?_) (fun cdv A0 outer s H vs Q E hr h => ?_)
  · obtain ⟨p, a, gs, rfl, _⟩ := h
    rfl
  · obtain ⟨p, a, gs, rfl, L, G, ok, l1, l2, q⟩ := h
    refine ⟨_, pss_cons (ps_set (i := 2) scB.nd rfl (.inl rfl) (pe_call GD hr rfl gD kD bD .nil pass0 (pa_cons (pv 0) (pa_cons pe_int pa_nil))))
      (pss_cons (ps_set (i := 3) scB.nd rfl (.inl rfl) (pe_call GD hr rfl gD kD bD .nil pass0 (pa_cons (pv 0) (pa_cons (pe_callB (call_max2 rfl) (by rfl) zM (by decide +kernel) (pa_cons pe_int (pa_cons (pe_callB (id := "len") (r := rLenQ K) call_len_seq (by rfl) zn PySem.boot_len (pa_cons (pv 1) pa_nil)) pa_nil))) pa_nil))))
      (pss_cons (ps_if (PW.pt (pw_or (pt_cmpR (op_eqD hr.units) (pv 1) (pe_lstS pa_nil) (nomark _)) (pw_or1 (pt_cmpR op_eq (pv 2) pe_int (nomark _))))) (pss_one (ps_ret (pe_op op_catS (pv 1) (pe_lstS (pa_cons (pe_lstS pa_nil) pa_nil))))) pss_nil)
      (pss_cons (ps_if (pt_cmpR op_eq (pv 2) pe_int (nomark _)) (pss_one (ps_ret (pe_op op_catS (pe_slice sl_listS (pv 1) (po_some (pv 3)) po_none) (pe_slice sl_listS (pv 1) po_none (po_some (pv 3)))))) pss_nil)
      (pss_cons (ps_if (pt_cmpR op_eq (pv 2) pe_int (nomark _)) (pss_one (ps_ret (pe_lc (own := [("_law_group", 7)]) (g := gName 7) (tt := tYes) rfl scB.nd (pi_list (pv 1)) (blkOk_by (N := ["_law_left_here", "_law_groups", "_law_way", "_law_spot", "_law_twice", "_law_longer", "_law_parts", "_law_group"]) (sc := defScope TopL.sBent) (by decide +kernel)) (fun _ _ _ _ _ => pg_name (i := 7) scB.nd rfl (Or.inl rfl)) (fun _ _ _ _ _ => pts_nil)
          (fun _ _ _ _ _ => pe_lstRevK (K := K) rfl (by rfl) zl (by rfl) zv (pv 7))))) pss_nil)
      (pss_cons (ps_if (pt_cmpR op_eq (pv 2) pe_int (nomark _)) (pss_one (ps_ret (pe_op op_catS (pe_op op_catS (pe_slice sl_listS (pv 1) po_none (po_some (pv 3))) (pe_lstS (pa_cons (pe_slice sl_listS (pe_ix (r := rIxL K) ix_list (pv 1) (pv 3) (fun _ _ => rfl)) (po_some pe_int) po_none) pa_nil))) (pe_slice sl_listS (pv 1) (po_some (pe_op op_add (pv 3) pe_int)) po_none)))) pss_nil)
      (pss_cons (ps_if (pt_cmpR op_eq (pv 2) pe_int (nomark _)) (pss_cons (ps_set (i := 4) scB.nd rfl (.inl rfl) (pe_op op_catS (pe_ix (r := rIxL K) ix_list (pv 1) (pv 3) (fun _ _ => rfl)) (pe_slice sl_listS (pe_ix (r := rIxL K) ix_list (pv 1) (pv 3) (fun _ _ => rfl)) po_none (po_some pe_int))))
          (pss_one (ps_ret (pe_op op_catS (pe_op op_catS (pe_slice sl_listS (pv 1) po_none (po_some (pv 3))) (pe_lstS (pa_cons (pv 4) pa_nil))) (pe_slice sl_listS (pv 1) (po_some (pe_op op_add (pv 3) pe_int)) po_none))))) pss_nil)
      (pss_cons (ps_if (pt_cmpR op_eq (pv 2) pe_int (nomark _)) (pss_cons (ps_set (i := 5) scB.nd rfl (.inl rfl) (pe_op op_catS (pe_ix (r := rIxL K) ix_list (pv 1) (pv 3) (fun _ _ => rfl)) (pe_lstS (pa_cons pe_str pa_nil))))
          (pss_one (ps_ret (pe_op op_catS (pe_op op_catS (pe_slice sl_listS (pv 1) po_none (po_some (pv 3))) (pe_lstS (pa_cons (pv 5) pa_nil))) (pe_slice sl_listS (pv 1) (po_some (pe_op op_add (pv 3) pe_int)) po_none))))) pss_nil)
      (pss_cons (ps_if (pt_cmpR op_eq (pv 2) pe_int (nomark _)) (pss_one (ps_ret (pe_op op_catS (pv 1) (pe_lstS (pa_cons (pe_ix (r := rIxL K) ix_list (pv 1) (pv 3) (fun _ _ => rfl)) pa_nil))))) pss_nil)
      (pss_cons (ps_if (pt_cmpR op_eq (pv 2) pe_int (nomark _)) (pss_cons (ps_set (i := 6) scB.nd rfl (.inl rfl) (pe_lstS (pa_cons (pe_slice sl_listS (pe_ix (r := rIxL K) ix_list (pv 1) (pv 3) (fun _ _ => rfl)) po_none (po_some pe_int)) (pa_cons (pe_slice sl_listS (pe_ix (r := rIxL K) ix_list (pv 1) (pv 3) (fun _ _ => rfl)) (po_some pe_int) po_none) pa_nil))))
          (pss_one (ps_ret (pe_op op_catS (pe_op op_catS (pe_slice sl_listS (pv 1) po_none (po_some (pv 3))) (pv 6)) (pe_slice sl_listS (pv 1) (po_some (pe_op op_add (pv 3) pe_int)) po_none))))) pss_nil)
      (pss_one (ps_ret (pe_op op_catS (pe_slice sl_listS (pv 1) po_none (po_some (pv 3))) (pe_slice sl_listS (pv 1) (po_some (pe_op op_add (pv 3) pe_int)) po_none))))))))))))), ?_⟩
    refine ⟨.ref p, rfl, p, 9, rfl, by decide, by decide, L, fun H1 r1 o1 LA1 h1 => ?_⟩
    obtain ⟨ys0, e0, p0⟩ := G.off L o1
    have lys0 : ys0.length = gs.length := p0.length.symm
    refine ⟨.ref p, rfl, .ref a, rfl, a, ys0, rfl, .inl (SqL.of e0), 1, (ys0.length : Int), rfl, p, max 1 ys0.length, ?_, by omega, by omega, LA1, fun H2 r o2 LA2 hr2 => ?_⟩
    · have : (if (ys0.length : Int) > 1 then (ys0.length : Int) else 1) = ((max 1 ys0.length : Nat) : Int) := by
        split <;> omega
      rw [this]
      rfl
    obtain ⟨ys, e2, p2⟩ := GsAt.off ⟨ys0, e0, p0⟩ LA1 o2
    have lys : ys.length = gs.length := p2.length.symm
    rw [lys0] at hr2
    have o12 : Off p H H2 := o1.trans o2
    have q' : ∀ H' b gs', Same H2 H' → GsAt H' b gs' → gs'.length ≤ gs.length + 1 → gs'.flatten.length ≤ 2 * gs.flatten.length + 1 → (∀ z ∈ gs'.flatten, PyData.strOk z = true) → Q (.ref b) H' :=
      fun H' b gs' s g h1 h2 h3 => q H' b gs' (o12.trans (Off.of s)) (LA2.mono s) g h1 h2 h3
    clear q G LA1 o1 o2
    have ret0 : ∀ H3 m0 m1 b H', Same H2 H3 → H3 m0 = some (.lst []) → Same H3 H' → H' b = some (.lst (ys ++ [V.ref m0])) → m1 = m0 → Q (.ref b) H' := fun H3 m0 m1 b H' s e s' e' _ => by
      refine q' H' b (gs ++ [[]]) (s.trans s') ⟨_, e', pr_app (mades p2 (s.trans s')) (.cons ⟨m0, rfl, s' _ _ e⟩ .nil)⟩ ?_ ?_ ?_
      · rw [List.length_append]
        exact Nat.le_refl _
      · rw [List.flatten_append, List.length_append]
        simp
        omega
      · intro z hz
        rw [List.flatten_append, List.mem_append] at hz
        rcases hz with h | h
        · exact ok z h
        · simp at h
    refine ⟨.ref a, rfl, by simp, fun n3 H3 s3 nn3 e3 => ⟨dG gs, .list [], GsAt.dp ⟨ys, s3 _ _ e2, mades p2 s3⟩, .lst (SqL.of e3) .nil, shaped_dG ok, by decide +kernel, _, rfl, ?_⟩⟩
    rw [eqv_nil]
    have e23 := s3 _ _ e2
    cases hem : gs.isEmpty with
    | true =>
      refine iteT ?_
      exact ⟨.ref a, rfl, by simp, fun m0 K0 t0 n0 g0 => ⟨by simp, fun m1 K1 t1 n1 g1 => ⟨a, m1, ys, [.ref m0], rfl, rfl, t1 _ _ (t0 _ _ e23), g1, by simp; omega, fun b H' s' n' e' => ret0 K0 m0 m0 b H' (s3.trans t0) g0 (t1.trans s') e' rfl⟩⟩⟩
    | false =>
    have hne : gs ≠ [] := fun e => by rw [e] at hem; cases hem
    have hpos : 0 < gs.length := List.length_pos_iff.mpr hne
    have hrl : r < gs.length := by omega
    obtain ⟨y, hy⟩ : ∃ y, ys[r]? = some y := ⟨_, List.getElem?_eq_getElem (by omega)⟩
    obtain ⟨g, hg, rg, rfl, eg⟩ := made_at p2 hy
    have fsp := flat_split hg
    have fln : gs.flatten.length = (gs.take r).flatten.length + (g.length + (gs.drop (r + 1)).flatten.length) := by rw [fsp, List.length_append, List.length_append]
    have okg : ∀ z ∈ g, PyData.strOk z = true := fun z hz => ok z (by rw [fsp]; exact List.mem_append_right _ (List.mem_append_left _ hz))
    have eyr : atI ys (r : Int) = some (.ref rg) := atI_nat hy
    have ltk : (ys.take r).length ≤ 100 := by rw [List.length_take]; omega
    have ldk : (ys.drop (r + 1)).length ≤ 100 := by rw [List.length_drop]; omega
    have fin : ∀ H' b mys mid, Same H2 H' → H' b = some (.lst ((ys.take r ++ mys) ++ ys.drop (r + 1))) → Paired (Made cS H') mid mys → mid.length ≤ 2 → mid.flatten.length ≤ 2 * g.length + 1 → (∀ z ∈ mid.flatten, PyData.strOk z = true) → Q (.ref b) H' := fun H' b mys mid s e pm h1 h2 h3 => by
      refine q' H' b ((gs.take r ++ mid) ++ gs.drop (r + 1)) s ⟨_, e, pr_app (pr_app (mades (pr_take r p2) s) pm) (mades (pr_drop (r + 1) p2) s)⟩ ?_ ?_ fun z hz => ?_
      · simp only [List.length_append, List.length_take, List.length_drop]
        omega
      · simp only [List.flatten_append, List.length_append]
        omega
      · simp only [List.flatten_append, List.mem_append] at hz
        rcases hz with (h | h) | h
        · exact ok z (take_in h)
        · exact h3 z h
        · exact ok z (drop_in h)
    have e2' := e23
    have eg3 := s3 _ _ eg
    have r1i : ((r : Int) + 1) = ((r + 1 : Nat) : Int) := by omega
    refine iteF ⟨.int r1, rfl, rfl, _, rfl, ite2 (fun hc => ?_) (fun hc => ?_)⟩
    · exact ⟨.ref a, rfl, by simp, fun m0 K0 t0 n0 g0 => ⟨by simp, fun m1 K1 t1 n1 g1 => ⟨a, m1, ys, [.ref m0], rfl, rfl, t1 _ _ (t0 _ _ e23), g1, by simp; omega, fun b H' s' n' e' => ret0 K0 m0 m0 b H' (s3.trans t0) g0 (t1.trans s') e' rfl⟩⟩⟩
    refine ⟨.int r1, rfl, rfl, _, rfl, ite2 (fun hc => ?_) (fun hc => ?_)⟩
    · -- turned about
      refine ⟨.ref a, rfl, .int (r : Int), rfl, (r : Int), rfl, a, ys, rfl, SqL.of e23, fun l1 K1 t1 n1 f1 => ?_⟩
      refine ⟨.ref a, rfl, .int (r : Int), rfl, (r : Int), rfl, a, ys, rfl, SqL.of (t1 _ _ e23), fun l2 K2 t2 n2 f2 => ?_⟩
      rw [cut_from] at f1
      rw [cut_to] at f2
      have ldr : (ys.drop r).length ≤ 100 := by rw [List.length_drop]; omega
      refine ⟨l1, l2, _, _, rfl, rfl, t2 _ _ f1, f2, by omega, fun b H' s' n' e' => ?_⟩
      have S := ((s3.trans t1).trans t2).trans s'
      refine q' H' b (gs.drop r ++ gs.take r) S ⟨_, e', pr_app (mades (pr_drop r p2) S) (mades (pr_take r p2) S)⟩ ?_ ?_ fun z hz => ?_
      · simp only [List.length_append, List.length_take, List.length_drop]
        omega
      · have : gs.flatten.length = (gs.take r).flatten.length + (gs.drop r).flatten.length := by
          rw [← List.length_append, ← List.flatten_append, List.take_append_drop]
        rw [List.flatten_append, List.length_append]
        omega
      · rw [List.flatten_append, List.mem_append] at hz
        rcases hz with h | h
        · exact ok z (drop_in h)
        · exact ok z (take_in h)
    refine ⟨.int r1, rfl, rfl, _, rfl, ite2 (fun hc => ?_) (fun hc => ?_)⟩
    · -- each turned
      refine ⟨.ref a, rfl, a, rfl, ⟨_, SqL.of e23⟩, ?_⟩
      refine cn_core (C := cS) (j := 7) (te := tLstRev K (tVar 7)) (σ := [some (.ref p), some (.ref a), some (.int r1), some (.int r), none, none, none, none]) (H1 := H3) ys (gs.map List.reverse) (runs_list (SqL.of e23)) (by omega) (by show 7 < 8; decide) (by rw [List.length_map]; omega) (fun i x o τ H4 Q' hx ho s4 hτ k => ?_) fun D H4 zs s4 nD eD pz => ?_
      · obtain ⟨g', hg', rg', rfl, eg'⟩ := made_at p2 hx
        have eo : o = g'.reverse := by
          rw [List.getElem?_map, hg'] at ho
          exact (Option.some.inj ho).symm
        subst eo
        refine ⟨.ref rg', hτ, rg', _, rfl, SqL.of (s4 _ _ (s3 _ _ eg')), fun q2 H5 s5 n5 e5 => k H5 q2 s5 n5 ?_⟩
        rw [e5, ← List.map_reverse]
        rfl
      · obtain ⟨v1, v2⟩ := rev_flat gs
        exact q' H4 D (gs.map List.reverse) (s3.trans s4) ⟨zs, eD, pz⟩ (by rw [List.length_map]; omega) (by omega) fun z hz => ok z (v2 z hz)
    refine ⟨.int r1, rfl, rfl, _, rfl, ite2 (fun hc => ?_) (fun hc => ?_)⟩
    · -- the first one of a group out
      refine ⟨.ref a, rfl, .int (r : Int), rfl, (r : Int), rfl, a, ys, rfl, SqL.of e23, fun l1 K1 t1 n1 f1 => ?_⟩
      rw [cut_to] at f1
      refine ⟨.ref a, rfl, .int (r : Int), rfl, a, ys, (r : Int), .ref rg, rfl, rfl, SqL.of (t1 _ _ e23), eyr, 1, rfl, rg, g.map V.str, rfl, SqL.of (t1 _ _ eg3), fun m0 K2 t2 n2 f2 => ⟨by simp, fun lm K3 t3 n3' f3 => ?_⟩⟩
      rw [show (some (1 : Int)) = some ((1 : Nat) : Int) from rfl, cut_from, ← List.map_drop] at f2
      refine ⟨l1, lm, _, _, rfl, rfl, t3 _ _ (t2 _ _ f1), f3, by show _ + 1 ≤ 1000; omega, fun c1 K8 t8 n8 f8 => ?_⟩
      have S8 := (((s3.trans t1).trans t2).trans t3).trans t8
      refine ⟨.ref a, rfl, .int (r : Int), rfl, _, _, rfl, rfl, _, rfl, a, ys, rfl, SqL.of (S8 _ _ e2), fun l2 K9 t9 n9 f9 => ?_⟩
      rw [r1i, cut_from] at f9
      refine ⟨c1, l2, _, _, rfl, rfl, t9 _ _ f8, f9, by rw [List.length_append]; show _ + 1 + _ ≤ 1000; omega, fun b H' s' n' e' => ?_⟩
      have S9 := (S8.trans t9).trans s'
      exact fin H' b _ [g.drop 1] S9 e' (.cons ⟨m0, rfl, ((t3.trans t8).trans (t9.trans s')) _ _ f2⟩ .nil) (by simp) (by simp; omega) fun z hz => by
        have hz : z ∈ g.drop 1 ++ [] := hz
        rw [List.append_nil] at hz
        exact okg z (List.mem_of_mem_drop hz)
    refine ⟨.int r1, rfl, rfl, _, rfl, ite2 (fun hc => ?_) (fun hc => ?_)⟩
    · -- the first one of a group twice
      refine ⟨.ref a, rfl, .int (r : Int), rfl, a, ys, (r : Int), .ref rg, rfl, rfl, SqL.of e23, eyr, ?_⟩
      refine ⟨.ref a, rfl, .int (r : Int), rfl, a, ys, (r : Int), .ref rg, rfl, rfl, SqL.of e23, eyr, 1, rfl, rg, g.map V.str, rfl, SqL.of eg3, fun m0 K2 t2 n2 f2 => ?_⟩
      rw [show (some (1 : Int)) = some ((1 : Nat) : Int) from rfl, cut_to, ← List.map_take] at f2
      refine ⟨rg, m0, _, _, rfl, rfl, t2 _ _ eg3, f2, by simp only [List.length_map, List.length_take]; omega, fun tw K3 t3 n3' f3 => ?_⟩
      rw [← List.map_append] at f3
      refine ⟨.ref a, rfl, .int (r : Int), rfl, (r : Int), rfl, a, ys, rfl, SqL.of (t3 _ _ (t2 _ _ e23)), fun l1 K1 t1 n1 f1 => ?_⟩
      rw [cut_to] at f1
      refine ⟨.ref tw, rfl, by simp, fun lm K4 t4 n4 f4 => ?_⟩
      refine ⟨l1, lm, _, _, rfl, rfl, t4 _ _ f1, f4, by show _ + 1 ≤ 1000; omega, fun c1 K8 t8 n8 f8 => ?_⟩
      have S8 := ((((s3.trans t2).trans t3).trans t1).trans t4).trans t8
      refine ⟨.ref a, rfl, .int (r : Int), rfl, _, _, rfl, rfl, _, rfl, a, ys, rfl, SqL.of (S8 _ _ e2), fun l2 K9 t9 n9 f9 => ?_⟩
      rw [r1i, cut_from] at f9
      refine ⟨c1, l2, _, _, rfl, rfl, t9 _ _ f8, f9, by rw [List.length_append]; show _ + 1 + _ ≤ 1000; omega, fun b H' s' n' e' => ?_⟩
      have S9 := (S8.trans t9).trans s'
      exact fin H' b _ [g ++ g.take 1] S9 e' (.cons ⟨tw, rfl, (((t1.trans t4).trans t8).trans (t9.trans s')) _ _ f3⟩ .nil) (by simp) (by simp; omega) fun z hz => by
        have hz : z ∈ g ++ g.take 1 := by simpa using hz
        rcases List.mem_append.mp hz with h | h
        · exact okg z h
        · exact okg z (List.mem_of_mem_take h)
    refine ⟨.int r1, rfl, rfl, _, rfl, ite2 (fun hc => ?_) (fun hc => ?_)⟩
    · -- a strange one
      refine ⟨.ref a, rfl, .int (r : Int), rfl, a, ys, (r : Int), .ref rg, rfl, rfl, SqL.of e23, eyr, by simp, fun m0 K2 t2 n2 f2 => ?_⟩
      refine ⟨rg, m0, _, _, rfl, rfl, t2 _ _ eg3, f2, by simp only [List.length_map, List.length_singleton]; omega, fun tw K3 t3 n3' f3 => ?_⟩
      refine ⟨.ref a, rfl, .int (r : Int), rfl, (r : Int), rfl, a, ys, rfl, SqL.of (t3 _ _ (t2 _ _ e23)), fun l1 K1 t1 n1 f1 => ?_⟩
      rw [cut_to] at f1
      refine ⟨.ref tw, rfl, by simp, fun lm K4 t4 n4 f4 => ?_⟩
      refine ⟨l1, lm, _, _, rfl, rfl, t4 _ _ f1, f4, by show _ + 1 ≤ 1000; omega, fun c1 K8 t8 n8 f8 => ?_⟩
      have S8 := ((((s3.trans t2).trans t3).trans t1).trans t4).trans t8
      refine ⟨.ref a, rfl, .int (r : Int), rfl, _, _, rfl, rfl, _, rfl, a, ys, rfl, SqL.of (S8 _ _ e2), fun l2 K9 t9 n9 f9 => ?_⟩
      rw [r1i, cut_from] at f9
      refine ⟨c1, l2, _, _, rfl, rfl, t9 _ _ f8, f9, by rw [List.length_append]; show _ + 1 + _ ≤ 1000; omega, fun b H' s' n' e' => ?_⟩
      have S9 := (S8.trans t9).trans s'
      exact fin H' b _ [g ++ [("z.strange" : Str)]] S9 e' (.cons ⟨tw, rfl, by rw [(((t1.trans t4).trans t8).trans (t9.trans s')) _ _ f3]; simp [cS]⟩ .nil) (by simp) (by simp; omega) fun z hz => by
        have hz : z ∈ (g ++ [("z.strange" : Str)]) ++ [] := hz
        rw [List.append_nil] at hz
        rcases List.mem_append.mp hz with h | h
        · exact okg z h
        · rw [List.mem_singleton.mp h]
          decide +kernel
    refine ⟨.int r1, rfl, rfl, _, rfl, ite2 (fun hc => ?_) (fun hc => ?_)⟩
    · -- a group twice
      refine ⟨.ref a, rfl, .ref a, rfl, .int (r : Int), rfl, a, ys, (r : Int), .ref rg, rfl, rfl, SqL.of e23, eyr, by simp, fun m0 K2 t2 n2 f2 => ?_⟩
      refine ⟨a, m0, _, _, rfl, rfl, t2 _ _ e23, f2, by simp only [List.length_singleton]; omega, fun b H' s' n' e' => ?_⟩
      have S := (s3.trans t2).trans s'
      refine q' H' b (gs ++ [g]) S ⟨_, e', pr_app (mades p2 S) (.cons ⟨rg, rfl, S _ _ eg⟩ .nil)⟩ (by rw [List.length_append]; exact Nat.le_refl _) ?_ fun z hz => ?_
      · rw [List.flatten_append, List.length_append]
        show _ + (g ++ []).length ≤ _
        rw [List.append_nil]
        omega
      · rw [List.flatten_append, List.mem_append] at hz
        rcases hz with h | h
        · exact ok z h
        · exact okg z (by simpa using h)
    refine ⟨.int r1, rfl, rfl, _, rfl, ite2 (fun hc => ?_) (fun hc => ?_)⟩
    · -- two of a group
      refine ⟨.ref a, rfl, .int (r : Int), rfl, a, ys, (r : Int), .ref rg, rfl, rfl, SqL.of e23, eyr, 1, rfl, rg, g.map V.str, rfl, SqL.of eg3, fun m0 K2 t2 n2 f2 => ?_⟩
      rw [show (some (1 : Int)) = some ((1 : Nat) : Int) from rfl, cut_to, ← List.map_take] at f2
      refine ⟨.ref a, rfl, .int (r : Int), rfl, a, ys, (r : Int), .ref rg, rfl, rfl, SqL.of (t2 _ _ e23), eyr, 1, rfl, rg, g.map V.str, rfl, SqL.of (t2 _ _ eg3), fun m1 K3 t3 n3' f3 => ⟨by simp, fun lm K4 t4 n4 f4 => ?_⟩⟩
      rw [show (some (1 : Int)) = some ((1 : Nat) : Int) from rfl, cut_from, ← List.map_drop] at f3
      refine ⟨.ref a, rfl, .int (r : Int), rfl, (r : Int), rfl, a, ys, rfl, SqL.of (t4 _ _ (t3 _ _ (t2 _ _ e23))), fun l1 K1 t1 n1 f1 => ?_⟩
      rw [cut_to] at f1
      refine ⟨.ref lm, rfl, l1, lm, _, _, rfl, rfl, f1, t1 _ _ f4, by show _ + 2 ≤ 1000; omega, fun c1 K8 t8 n8 f8 => ?_⟩
      have S8 := ((((s3.trans t2).trans t3).trans t4).trans t1).trans t8
      refine ⟨.ref a, rfl, .int (r : Int), rfl, _, _, rfl, rfl, _, rfl, a, ys, rfl, SqL.of (S8 _ _ e2), fun l2 K9 t9 n9 f9 => ?_⟩
      rw [r1i, cut_from] at f9
      refine ⟨c1, l2, _, _, rfl, rfl, t9 _ _ f8, f9, by rw [List.length_append]; show _ + 2 + _ ≤ 1000; omega, fun b H' s' n' e' => ?_⟩
      have S9 := (S8.trans t9).trans s'
      have R := ((t4.trans t1).trans t8).trans (t9.trans s')
      refine fin H' b _ [g.take 1, g.drop 1] S9 e' (.cons ⟨m0, rfl, (t3.trans R) _ _ f2⟩ (.cons ⟨m1, rfl, R _ _ f3⟩ .nil)) (by simp) (by simp; omega) fun z hz => ?_
      have hz : z ∈ g.take 1 ++ (g.drop 1 ++ []) := hz
      rcases List.mem_append.mp hz with h | h
      · exact okg z (List.mem_of_mem_take h)
      · rw [List.append_nil] at h
        exact okg z (List.mem_of_mem_drop h)
    -- a group out
    refine ⟨.ref a, rfl, .int (r : Int), rfl, (r : Int), rfl, a, ys, rfl, SqL.of e23, fun l1 K1 t1 n1 f1 => ?_⟩
    rw [cut_to] at f1
    refine ⟨.ref a, rfl, .int (r : Int), rfl, _, _, rfl, rfl, _, rfl, a, ys, rfl, SqL.of (t1 _ _ e23), fun l2 K9 t9 n9 f9 => ?_⟩
    rw [r1i, cut_from] at f9
    refine ⟨l1, l2, _, _, rfl, rfl, t9 _ _ f1, f9, by omega, fun b H' s' n' e' => ?_⟩
    exact fin H' b [] [] (((s3.trans t1).trans t9).trans s') (by rw [e', List.append_nil]) .nil (by simp) (by simp) fun z hz => (by cases hz)
end
end BL

set_option Elab.async false
set_option linter.all false
set_option maxRecDepth 100000
set_option maxHeartbeats 4000000
/-! is_partition. -/
namespace IP
open PySem PySem.Spec PyProof.Rows L2 FS MP
theorem b_isi : bootBuiltins "isinstance" = some (.builtin "isinstance") := by decide +kernel
theorem b_str : bootBuiltins "str" = some (.type "str") := by decide +kernel
theorem b_list : bootBuiltins "list" = some (.type "list") := by decide +kernel
theorem b_all : bootBuiltins "all" = some (.builtin "all") := by decide +kernel
theorem b_tuple : bootBuiltins "tuple" = some (.type "tuple") := by decide +kernel
theorem b_sorted : bootBuiltins "sorted" = some (.builtin "sorted") := by decide +kernel
/-- no tuple -/
def NoT (H : Hp) (v : V) : Prop := v = .non ∨ (∃ i, v = .int i) ∨ (∃ z, v = .str z) ∨ ∃ q xs, v = .ref q ∧ H q = some (.lst xs)
def IA (H : Hp) (e : Option (List V)) (v : V) : Prop := match e with
  | some l => ∃ q, v = .ref q ∧ H q = some (.tup l)
  | none => NoT H v
def Fl (x : V) : Prop := (∃ z, x = .str z ∧ PyData.strOk z = true) ∨ ∃ i, x = .int i
theorem NoT.mono {H H' : Hp} {v : V} (h : NoT H v) (s : Same H H') : NoT H' v := by
  rcases h with h | h | h | ⟨q, xs, e, h⟩
  · exact .inl h
  · exact .inr (.inl h)
  · exact .inr (.inr (.inl h))
  · exact .inr (.inr (.inr ⟨q, xs, e, s _ _ h⟩))
theorem IA.mono {H H' : Hp} {e : Option (List V)} {v : V} (h : IA H e v) (s : Same H H') : IA H' e v := by
  cases e with
  | none => exact NoT.mono h s
  | some l =>
    obtain ⟨q, e, h⟩ := h
    exact ⟨q, e, s _ _ h⟩
theorem txs_all : ∀ {l : List V}, l.all isStr = true → l = (txs l).map V.str
  | [], _ => rfl
  | x :: r, h => by
    rw [List.all_cons, Bool.and_eq_true] at h
    have ih := txs_all h.2
    cases x with
    | str z =>
      show V.str z :: r = V.str z :: (txs r).map V.str
      rw [← ih]
    | _ => cases h.1
theorem txs_app (a b : List V) : txs (a ++ b) = txs a ++ txs b := List.filterMap_append ..
theorem txs_flat : ∀ its : List (List V), txs its.flatten = (its.map txs).flatten
  | [] => rfl
  | l :: r => by
    show txs (l ++ r.flatten) = txs l ++ (r.map txs).flatten
    rw [txs_app, txs_flat r]
theorem flat_le : ∀ {its : List (List V)} {i : Nat} {l : List V}, its[i]? = some l → (its.take i).flatten.length + l.length ≤ its.flatten.length
  | [], _, _, h => by cases h
  | a :: r, 0, l, h => by
    cases h
    show 0 + a.length ≤ (a ++ r.flatten).length
    rw [List.length_append]
    omega
  | a :: r, i + 1, l, h => by
    have ih := flat_le (its := r) (i := i) h
    show (a ++ (r.take i).flatten).length + l.length ≤ (a ++ r.flatten).length
    rw [List.length_append, List.length_append]
    omega
theorem len_le : ∀ {its : List (List V)}, (∀ l ∈ its, 0 < l.length) → its.length ≤ its.flatten.length
  | [], _ => Nat.le_refl _
  | a :: r, h => by
    have ih := len_le (its := r) fun l hl => h l (List.mem_cons_of_mem _ hl)
    have h1 := h a (List.mem_cons_self ..)
    show r.length + 1 ≤ (a ++ r.flatten).length
    rw [List.length_append]
    omega
def fs (es : List (Option (List V))) : List Str := es.map fun e => first (txs (e.getD []))
theorem isP_of {N : List Str} {es : List (Option (List V))} (h1 : es.all shp = true) (h2 : (es.map fun e => e.getD []).flatten.all isStr = true) : isP N es = ((txs (es.map fun e => e.getD []).flatten).isPerm N && sortedS (fs es) && es.all fun e => sortedS (txs (e.getD []))) := by
  unfold isP isG
  rw [h1, h2, txs_flat, List.map_map, List.map_map, List.all_map]
  rfl
theorem txs_first {l : List V} (h : l = (txs l).map V.str) (hp : 0 < l.length) : l[0]? = some (.str (first (txs l))) := by
  cases hq : txs l with
  | nil => rw [hq] at h; rw [h] at hp; cases hp
  | cons x r => rw [h, hq]; rfl
theorem fl_ok {l : List V} (h : ∀ x ∈ l, Fl x) : ∀ z ∈ txs l, PyData.strOk z = true := fun z hz => by
  obtain ⟨x, hx, ex⟩ := List.mem_filterMap.mp hz
  rcases h x hx with ⟨y, rfl, ok⟩ | ⟨i, rfl⟩
  · cases ex
    exact ok
  · cases ex
section
variable {P : Program} {w : World} {K : PySem.W.Frag} {mg : Str → Option Value} {base : Heap}
theorem NoT.ty {H : Hp} {v : V} (h : NoT H v) : ∃ t, TyX K H v t ∧ PySem.W.kitOne K t (.type "tuple") = some false := by
  rcases h with rfl | ⟨i, rfl⟩ | ⟨z, rfl⟩ | ⟨q, xs, rfl, h⟩
  · exact ⟨_, .base .non, kit_ty (by decide +kernel)⟩
  · exact ⟨_, .base (.int i), kit_ty (by decide +kernel)⟩
  · exact ⟨_, .base (.str z), kit_ty (by decide +kernel)⟩
  · exact ⟨_, .base (.lst h), kit_ty (by decide +kernel)⟩
theorem kt_tt : PySem.W.kitOne K (.type "tuple") (.type "tuple") = some true := kit_ty (by decide +kernel)
theorem kt_ss : PySem.W.kitOne K (.type "str") (.type "str") = some true := kit_ty (by decide +kernel)
theorem kt_is : PySem.W.kitOne K (.type "int") (.type "str") = some false := kit_ty (by decide +kernel)
def tot (es : List (Option (List V))) : Nat := (es.map fun e => e.getD []).flatten.length
def spPart (K : PySem.W.Frag) : Sp := fun vs H Q _ => ∃ (n : Addr) (v : V) (N : List Str), vs = [.ref n, v] ∧ SqT K H n (N.map V.str) ∧ sortedS N = true ∧ (∀ z ∈ N, PyData.strOk z = true) ∧ ((NoT H v ∧ Q (.bl false) H) ∨
  ∃ (t : Addr) (xs : List V) (es : List (Option (List V))), v = .ref t ∧ H t = some (.tup xs) ∧ Paired (IA H) es xs ∧ es.length ≤ 1000 ∧ (∀ l, some l ∈ es → ∀ x ∈ l, Fl x) ∧ tot es < 64 ∧ ∀ H', Same H H' → Q (.bl (isP N es)) H')
theorem scP : FnScope ["pieces", "value", "names", "firsts", "part", "name"] ["pieces", "value"] (defScope TopL.sPart) := ⟨rfl, rfl, rfl, by decide +kernel, rfl, by decide +kernel, by decide +kernel⟩
theorem pair_at {H : Hp} : ∀ {es : List (Option (List V))} {xs : List V}, Paired (IA H) es xs → ∀ {i : Nat} {x : V}, xs[i]? = some x → ∃ e, es[i]? = some e ∧ IA H e x
  | _, _, .nil, i, x, h => by cases h
  | _, _, .cons a t, 0, x, h => ⟨_, rfl, by cases h; exact a⟩
  | _, _, .cons a t, i + 1, x, h => pair_at t h
theorem all_id (bs : List Bool) : bs.all id = bs.all fun b => b := rfl
theorem ok_part {f : Addr} {fd : FuncData} (F : Fun K "is_partition" "is_partition" TopL.sPart f fd) (zi : mg "isinstance" = none) (zt : mg "tuple" = none) (zs : mg "str" = none) (zl : mg "len" = none) (za : mg "all" = none) (zo : mg "sorted" = none) (zli : mg "list" = none) : FnOk P w K mg base CX0 1 f fd ["pieces", "value"] (spPart K) := by
  refine F.ok scP (fun vs H Q E h => ?_) (fun cdv A0 outer s H vs Q E hr h => ?_)
  · obtain ⟨n, v, N, rfl, _⟩ := h
    rfl
  · obtain ⟨n, v, N, rfl, hN, sN, okN, h⟩ := h
    refine ⟨_, pss_cons (ps_if (PW.pt (pw_or (pt_not (pt_val (pe_callB (id := "isinstance") (r := rIsi K) call_isi (by rfl) zi b_isi (pa_cons (pv 1) (pa_cons (pe_bltn rfl zt b_tuple (v := .ty "tuple") rfl) pa_nil))))) (pw_or1 (pt_not (pt_val (pe_callB (cr_all rfl) (by rfl) za b_all (pa_cons (pe_cw (K := K) (pe_lc (own := [("part", 4)]) (g := gName 4) (tt := tYes) rfl scP.nd (pi_tup (pv 1)) (blkOk_by (N := ["pieces", "value", "names", "firsts", "part", "name"]) (sc := defScope TopL.sPart) (by decide +kernel)) (fun _ _ _ _ _ => pg_name (i := 4) scP.nd rfl (Or.inl rfl)) (fun _ _ _ _ _ => pts_nil) (fun _ _ _ _ _ => (pe_and (pe_callB (id := "isinstance") (r := rIsi K) call_isi (by rfl) zi b_isi (pa_cons (pv 4) (pa_cons (pe_bltn rfl zt b_tuple (v := .ty "tuple") rfl) pa_nil))) (pe_one (pe_cmpR op_gt (pe_callB (id := "len") (r := rLenQ K) call_len_seq (by rfl) zl PySem.boot_len (pa_cons (pv 4) pa_nil)) pe_int (nomark _)))))) mono_var) pa_nil))))))) (pss_one (ps_ret pe_bl)) pss_nil)
      (pss_cons (ps_setLc2 (i := 2) (own := [("part", 4), ("name", 5)]) (vs1 := [5]) (g := gName 4) (g1 := gName 5) (tt := tYes) (tt1 := tYes) (wi1 := iTup K (tVar 4)) (te := tVar 5) rfl scP.nd rfl rfl (sw_true rfl rfl rfl (by decide +kernel)) (pi_tup (pv 1)) (blkOk_by (N := ["pieces", "value", "names", "firsts", "part", "name"]) (sc := defScope TopL.sPart) (by decide +kernel)) (by decide)
          (fun _ _ _ _ _ => pg_name (i := 4) scP.nd rfl (Or.inl rfl)) (fun _ _ _ _ _ => pts_nil) (fun _ _ _ _ _ => pi_tup (pv 4)) (fun _ _ _ _ _ => pg_name (i := 5) scP.nd rfl (Or.inl rfl)) (fun _ _ _ _ _ => pts_nil) (fun _ _ _ _ _ => pv 5))
      (pss_cons (ps_if (PW.pt (pw_or (pt_not (pt_val (pe_callB (cr_all rfl) (by rfl) za b_all (pa_cons (pe_cwl (K := K) (pe_lc (own := [("name", 5)]) (g := gName 5) (tt := tYes) rfl scP.nd (pi_list (pv 2)) (blkOk_by (N := ["pieces", "value", "names", "firsts", "part", "name"]) (sc := defScope TopL.sPart) (by decide +kernel)) (fun _ _ _ _ _ => pg_name (i := 5) scP.nd rfl (Or.inl rfl)) (fun _ _ _ _ _ => pts_nil) (fun _ _ _ _ _ => (pe_callB (id := "isinstance") (r := rIsi K) call_isi (by rfl) zi b_isi (pa_cons (pv 5) (pa_cons (pe_bltn rfl zs b_str (v := .ty "str") rfl) pa_nil))))) mono_var) pa_nil)))) (pw_or1 (pt_cmpR (op_neD hr.units) (pe_callB (id := "sorted") (r := rSortL K) cr_sortedL (by rfl) zo b_sorted (pa_cons (pv 2) pa_nil)) (pe_callTy (r := rListS K) call_listS (by rfl) zli b_list (pa_cons (pv 0) pa_nil)) (nomark _))))) (pss_one (ps_ret pe_bl)) pss_nil)
      (pss_cons (ps_setLc (i := 3) (own := [("part", 4)]) (g := gName 4) (tt := tYes) (te := tOp (rIxT K) (tVar 4) (tC (.int 0))) rfl scP.nd rfl rfl (sw_true rfl rfl rfl (by decide +kernel)) (pi_tup (pv 1)) (blkOk_by (N := ["pieces", "value", "names", "firsts", "part", "name"]) (sc := defScope TopL.sPart) (by decide +kernel)) (fun _ _ _ _ _ => pg_name (i := 4) scP.nd rfl (Or.inl rfl)) (fun _ _ _ _ _ => pts_nil)
          (fun _ _ _ _ _ => pe_ix (r := rIxT K) ix_tup (pv 4) pe_int (fun _ _ => rfl)))
      (pss_one (ps_ret (pe_and (pe_cmpR (op_eqD hr.units) (pv 3) (pe_callB (id := "sorted") (r := rSortL K) cr_sortedL (by rfl) zo b_sorted (pa_cons (pv 3) pa_nil)) (nomark _)) (pe_one (pe_callB (cr_all rfl) (by rfl) za b_all (pa_cons (pe_cw (K := K) (pe_lc (own := [("part", 4)]) (g := gName 4) (tt := tYes) rfl scP.nd (pi_tup (pv 1)) (blkOk_by (N := ["pieces", "value", "names", "firsts", "part", "name"]) (sc := defScope TopL.sPart) (by decide +kernel)) (fun _ _ _ _ _ => pg_name (i := 4) scP.nd rfl (Or.inl rfl)) (fun _ _ _ _ _ => pts_nil) (fun _ _ _ _ _ => (pe_cmpR (r := rEqD K) (op_eqD hr.units) (pe_callTy (r := rListS K) call_listS (by rfl) zli b_list (pa_cons (pv 4) pa_nil)) (pe_callB (id := "sorted") (r := rSortT K) cr_sortedT (by rfl) zo b_sorted (pa_cons (pv 4) pa_nil)) (nomark _)))) mono_var) pa_nil))))))))), ?_⟩
    rcases h with ⟨nt, q⟩ | ⟨t, xs, es, rfl, ht, hp, hlen, hfl, htot, q⟩
    · obtain ⟨ty, h1, h2⟩ := nt.ty (K := K)
      exact ⟨v, rfl, v, .ty "tuple", ty, .type "tuple", false, rfl, .ty "tuple", h1, h2, false, rfl, iteT q⟩
    · have q' : ∀ H' b, Same H H' → isP N es = b → Q (.bl b) H' := fun H' b s e => by rw [← e]; exact q H' s
      have lx : es.length = xs.length := hp.length
      refine ⟨.ref t, rfl, .ref t, .ty "tuple", .type "tuple", .type "tuple", true, rfl, .ty "tuple", .base (.tup ht), kt_tt, true, rfl, iteF ?_⟩
      refine ⟨.ref t, rfl, t, xs, es.map fun e => V.bl (shp e), rfl, .inl (.inl ht), by omega, by show 4 < 6; decide, by rw [List.length_map, lx], fun i x v τ H2 Q' hx hv s2 hτ k => ?_, fun D H1 s1 nD eD => ?_⟩
      · obtain ⟨e, he, ia⟩ := pair_at hp hx
        rw [List.getElem?_map, he] at hv
        have ev : v = .bl (shp e) := (Option.some.inj hv).symm
        subst ev
        have ia2 := ia.mono s2
        cases e with
        | none =>
          obtain ⟨ty, h1, h2⟩ := NoT.ty (K := K) ia2
          exact ⟨x, hτ, x, .ty "tuple", ty, .type "tuple", false, rfl, .ty "tuple", h1, h2, _, rfl, iteF (k H2 (Same.refl _))⟩
        | some l =>
          obtain ⟨p, rfl, hl⟩ := ia2
          refine ⟨.ref p, hτ, .ref p, .ty "tuple", .type "tuple", .type "tuple", true, rfl, .ty "tuple", .base (.tup hl), kt_tt, _, rfl, iteT ?_⟩
          refine ⟨.ref p, hτ, p, l, rfl, .inr (.inl (.inl hl)), _, _, rfl, rfl, ?_⟩
          have e0 : shp (some l) = decide ((l.length : Int) > 0) := by simp [shp]
          have kk := k H2 (Same.refl _)
          rw [e0] at kk
          exact kk
      · have eD' : H1 D = some (.lst ((es.map shp).map V.bl)) := by
          rw [eD, List.map_map]
          rfl
        have ea : ((es.map shp).all id) = es.all shp := by
          rw [List.all_map]
          rfl
        refine ⟨D, es.map shp, rfl, SqL.of eD', _, rfl, ?_⟩
        rw [ea]
        cases hs : es.all shp with
        | false => exact iteT (q' H1 false s1 (by simp only [isP, hs, Bool.false_and]))
        | true =>
          refine iteF ?_
          have sh : ∀ {i : Nat} {x : V}, xs[i]? = some x → ∃ p l, es[i]? = some (some l) ∧ x = .ref p ∧ H p = some (.tup l) ∧ 0 < l.length := fun {i x} hx => by
            obtain ⟨e, he, ia⟩ := pair_at hp hx
            have hm := List.all_eq_true.mp hs e (List.mem_of_getElem? he)
            cases e with
            | none => cases hm
            | some l =>
              obtain ⟨p, e1, e2⟩ := ia
              exact ⟨p, l, he, e1, e2, of_decide_eq_true hm⟩
          have at_its : ∀ {i : Nat} {l : List V}, es[i]? = some (some l) → (es.map fun e => e.getD [])[i]? = some l := fun {i l} he => by
            rw [List.getElem?_map, he]
            rfl
          -- names
          refine ⟨.ref t, rfl, t, rfl, ⟨xs, same_tup s1 (.inl (.inl ht))⟩, fun D2 hD2 => ⟨fun i m H' => m = xs.length - i ∧ i ≤ xs.length ∧ Same H1 H' ∧ H' D2 = some (.lst (((es.map fun e => e.getD []).take i).flatten)), ⟨xs.length, by omega, Nat.zero_le _, same_new hD2, by rw [upd_same]; rfl⟩, fun i m H2 hw => ?_⟩⟩
          obtain ⟨em, hi, s2, e2⟩ := hw
          subst em
          have hT : SqT K H2 t xs := same_tup (s1.trans s2) (.inl (.inl ht))
          by_cases hlt : i < xs.length
          · refine .inr ⟨(walk_tup (K := K) (a := t) (xs := xs)).goes i H2 hlt hT, fun H' => Same H1 H' ∧ H' D2 = some (.lst (((es.map fun e => e.getD []).take (i + 1)).flatten)), fun H' hn => ⟨xs.length - (i + 1), by omega, rfl, hlt, hn.1, hn.2⟩, fun x H' y => ?_⟩
            obtain ⟨eH, hx⟩ := (walk_tup (K := K) (a := t) (xs := xs)).yields i H2 x H' hlt hT y
            subst eH
            obtain ⟨p, l, he, rfl, hl, hpos⟩ := sh hx
            have hfl := flat_le (at_its he)
            refine ⟨rfl, .ref p, rfl, p, rfl, ⟨l, .inl (.inl (s2 _ _ (s1 _ _ hl)))⟩, fun j k H3 => k = l.length - j ∧ j ≤ l.length ∧ Same H1 H3 ∧ H3 D2 = some (.lst (((es.map fun e => e.getD []).take i).flatten ++ l.take j)), ⟨l.length, by omega, Nat.zero_le _, s2, by rw [e2, List.take_zero, List.append_nil]⟩, fun j k H3 hw1 => ?_⟩
            obtain ⟨ek, hj, s3, e3⟩ := hw1
            subst ek
            have hT3 : SqT K H3 p l := same_tup s3 (.inl (.inl (s1 _ _ hl)))
            by_cases hjl : j < l.length
            · refine .inr ⟨(walk_tup (K := K) (a := p) (xs := l)).goes j H3 hjl hT3, fun H' => Same H1 H' ∧ H' D2 = some (.lst (((es.map fun e => e.getD []).take i).flatten ++ l.take (j + 1))), fun H' hn => ⟨l.length - (j + 1), by omega, rfl, hjl, hn.1, hn.2⟩, fun x1 H4 y1 => ?_⟩
              obtain ⟨eH, hx1⟩ := (walk_tup (K := K) (a := p) (xs := l)).yields j H3 x1 H4 hjl hT3 y1
              subst eH
              refine ⟨rfl, x1, rfl, _, e3, ?_, fun b o eb => by rw [upd_ne (ne_of_none eb hD2)]; exact s3 _ _ eb, ?_⟩
              · rw [List.length_append, List.length_take]
                exact small1000 (by unfold tot at htot; omega)
              · rw [upd_same, List.take_add_one, hx1, ← List.append_assoc]
                rfl
            · have ej : j = l.length := by omega
              subst ej
              refine .inl ⟨(walk_tup (K := K) (a := p) (xs := l)).stops H3 hT3, s3, ?_⟩
              rw [e3, List.take_length, List.take_add_one, at_its he, List.flatten_append]
              show some (HO.lst (((es.map fun e => e.getD []).take i).flatten ++ l)) = some (HO.lst (((es.map fun e => e.getD []).take i).flatten ++ (l ++ [])))
              rw [List.append_nil]
          have ei : i = xs.length := by omega
          subst ei
          refine .inl ⟨(walk_tup (K := K) (a := t) (xs := xs)).stops H2 hT, ?_⟩
          have e2' : H2 D2 = some (.lst (es.map fun e => e.getD []).flatten) := by
            rw [e2, ← lx, ← List.length_map (f := fun e : Option (List V) => e.getD []), List.take_length]
          have s02 := s1.trans s2
          have mem_fl : ∀ x ∈ (es.map fun e => e.getD []).flatten, Fl x := fun x hx => by
            obtain ⟨l, hl, hxl⟩ := List.mem_flatten.mp hx
            obtain ⟨e, he, el⟩ := List.mem_map.mp hl
            subst el
            cases e with
            | none => cases hxl
            | some l => exact hfl l he x hxl
          unfold tot at htot
          refine ⟨.ref D2, rfl, D2, (es.map fun e => e.getD []).flatten, (es.map fun e => e.getD []).flatten.map fun x => V.bl (isStr x), rfl, SqL.of e2', by omega, by show 5 < 6; decide, List.length_map .., fun i x v τ H3 Q' hx hv s3 hτ k => ?_, fun D3 H3 s3 n3 e3 => ?_⟩
          · rw [List.getElem?_map, hx] at hv
            have ev : v = .bl (isStr x) := (Option.some.inj hv).symm
            subst ev
            rcases mem_fl x (List.mem_of_getElem? hx) with ⟨z, rfl, _⟩ | ⟨z, rfl⟩
            · exact ⟨_, hτ, _, .ty "str", .type "str", .type "str", true, rfl, .ty "str", .base (.str z), kt_ss, k H3 (Same.refl _)⟩
            · exact ⟨_, hτ, _, .ty "str", .type "int", .type "str", false, rfl, .ty "str", .base (.int z), kt_is, k H3 (Same.refl _)⟩
          have e3' : H3 D3 = some (.lst (((es.map fun e => e.getD []).flatten.map isStr).map V.bl)) := by
            rw [e3, List.map_map]
            rfl
          have ea3 : (((es.map fun e => e.getD []).flatten.map isStr).all id) = (es.map fun e => e.getD []).flatten.all isStr := by
            rw [List.all_map]
            rfl
          refine ⟨D3, (es.map fun e => e.getD []).flatten.map isStr, rfl, SqL.of e3', _, rfl, ?_⟩
          rw [ea3]
          cases hst : (es.map fun e => e.getD []).flatten.all isStr with
          | false => exact iteT (q' H3 false (s02.trans s3) (by simp only [isP, hs, hst, Bool.true_and, Bool.false_and]))
          | true =>
            refine iteF ?_
            have hall := txs_all hst
            have hP := isP_of (N := N) hs hst
            have okA := fl_ok mem_fl
            have lenA : (txs (es.map fun e => e.getD []).flatten).length = (es.map fun e => e.getD []).flatten.length := by
              have := congrArg List.length hall
              rw [List.length_map] at this
              exact this.symm
            refine ⟨.ref D2, rfl, D2, txs (es.map fun e => e.getD []).flatten, rfl, SqL.of (by rw [← hall]; exact s3 _ _ e2'), by omega, fun ys p4 H4 per srt s4 n4 e4 => ?_⟩
            refine ⟨.ref n, rfl, n, N.map V.str, rfl, .inr (same_tup ((s02.trans s3).trans s4) hN), fun l5 H5 s5 n5 e5 => ?_⟩
            refine ⟨_, _, dp_list (SqL.of (s5 _ _ e4)), dp_list (SqL.of e5), shaped_txs ys (fun z hz => okA z (per.mem_iff.mp hz)), shaped_txs N okN, _, rfl, ?_⟩
            rw [eqv_txs, sort_other per srt sN]
            have s05 := ((s02.trans s3).trans s4).trans s5
            cases hper : (txs (es.map fun e => e.getD []).flatten).isPerm N with
            | false => exact iteT (q' H5 false s05 (by rw [hP, hper, Bool.false_and, Bool.false_and]))
            | true =>
              refine iteF ?_
              rw [hper, Bool.true_and] at hP
              have each : ∀ {i : Nat} {l : List V}, es[i]? = some (some l) → l = (txs l).map V.str ∧ (txs l).length < 64 ∧ (∀ z ∈ txs l, PyData.strOk z = true) := fun {i l} he => by
                have hm : l ∈ (es.map fun e => e.getD []) := List.mem_of_getElem? (at_its he)
                have h1 : l.all isStr = true := List.all_eq_true.mpr fun x hx => List.all_eq_true.mp hst x (List.mem_flatten.mpr ⟨l, hm, hx⟩)
                have h2 := txs_all h1
                have h3 := flat_le (at_its he)
                have h4 : (txs l).length = l.length := by
                  have := congrArg List.length h2
                  rw [List.length_map] at this
                  exact this.symm
                exact ⟨h2, by omega, fl_ok fun x hx => mem_fl x (List.mem_flatten.mpr ⟨l, hm, hx⟩)⟩
              have lfs : (fs es).length < 64 := by
                have h1 : (es.map fun e => e.getD []).length ≤ (es.map fun e => e.getD []).flatten.length := len_le fun l hl => by
                  obtain ⟨e, he, el⟩ := List.mem_map.mp hl
                  have h2 := List.all_eq_true.mp hs e he
                  subst el
                  cases e with
                  | none => cases h2
                  | some l => exact of_decide_eq_true h2
                rw [List.length_map] at h1
                show (es.map _).length < 64
                rw [List.length_map]
                omega
              have okF : ∀ z ∈ fs es, PyData.strOk z = true := fun z hz => by
                obtain ⟨e, he, ez⟩ := List.mem_map.mp hz
                obtain ⟨i, hi2, hi3⟩ := List.getElem_of_mem he
                have h2 := List.all_eq_true.mp hs e he
                cases e with
                | none => cases h2
                | some l =>
                  have hh := each (i := i) (l := l) (by rw [List.getElem?_eq_getElem hi2, hi3])
                  subst ez
                  have h0 := txs_first hh.1 (of_decide_eq_true h2)
                  have hm := Eq.mp (congrArg (fun m => V.str (first (txs l)) ∈ m) hh.1) (List.mem_of_getElem? h0)
                  obtain ⟨y, hy, ey⟩ := List.mem_map.mp hm
                  cases ey
                  exact hh.2.2 _ hy
              delta tNext
              dsimp only
              delta tSeq tAsg
              dsimp only
              refine cw_of (K := K) (tl := tVar 1) (te := tOp (rIxT K) (tVar 4) (tC (.int 0))) (j := 4) mono_var [some (.ref n), some (.ref t), some (.ref D2), none, none, none] H5 _ ?_
              refine ⟨.ref t, rfl, t, xs, (fs es).map V.str, rfl, same_tup s05 (.inl (.inl ht)), by omega, by show 4 < 6; decide, by unfold fs; rw [List.length_map, List.length_map, lx], fun i x v τ H6 Q' hx hv s6 hτ k => ?_, fun D6 H6 s6 n6 e6 => ?_⟩
              · obtain ⟨p, l, he, rfl, hl, hpos⟩ := sh hx
                unfold fs at hv
                rw [List.getElem?_map, List.getElem?_map, he] at hv
                have ev : v = .str (first (txs l)) := (Option.some.inj hv).symm
                subst ev
                exact ⟨_, hτ, p, l, 0, _, rfl, rfl, .inl (.inl (s6 _ _ (s05 _ _ hl))), atI_nat (j := 0) (txs_first (each he).1 hpos), k H6 (Same.refl _)⟩
              have s06 := s05.trans s6
              refine ⟨.ref D6, rfl, .ref D6, rfl, D6, fs es, rfl, SqL.of e6, lfs, fun ys7 p7 H7 per7 srt7 s7 n7 e7 => ?_⟩
              refine ⟨_, _, dp_list (SqL.of (s7 _ _ e6)), dp_list (SqL.of e7), shaped_txs _ okF, shaped_txs ys7 (fun z hz => okF z (per7.mem_iff.mp hz)), _, rfl, ?_⟩
              rw [eqv_txs, show decide (fs es = ys7) = sortedS (fs es) by rw [← sort_self per7 srt7]; exact decide_eq_decide.mpr eq_comm]
              have s07 := s06.trans s7
              cases hf : sortedS (fs es) with
              | false => exact iteF (q' H7 false s07 (by rw [hP, hf, Bool.false_and]))
              | true =>
                rw [hf, Bool.true_and] at hP
                refine iteT ⟨.ref t, rfl, t, xs, es.map fun e => V.bl (sortedS (txs (e.getD []))), rfl, same_tup s07 (.inl (.inl ht)), by omega, by show 4 < 6; decide, by rw [List.length_map, lx], fun i x v τ H8 Q' hx hv s8 hτ k => ?_, fun D9 H9 s9 n9 e9 => ?_⟩
                · obtain ⟨p, l, he, rfl, hl, hpos⟩ := sh hx
                  rw [List.getElem?_map, he] at hv
                  have ev : v = .bl (sortedS (txs l)) := (Option.some.inj hv).symm
                  subst ev
                  obtain ⟨el, l64, okl⟩ := each he
                  have hl8 := s8 _ _ (s07 _ _ hl)
                  refine ⟨_, hτ, p, l, rfl, .inr (.inl (.inl hl8)), fun q3 H10 s10 n10 e10 => ?_⟩
                  rw [el] at e10
                  refine ⟨_, hτ, p, txs l, rfl, .inl (.inl (by rw [← el]; exact s10 _ _ hl8)), l64, fun ys p11 H11 per11 srt11 s11 n11 e11 => ?_⟩
                  refine ⟨_, _, dp_list (SqL.of (s11 _ _ e10)), dp_list (SqL.of e11), shaped_txs _ okl, shaped_txs ys (fun z hz => okl z (per11.mem_iff.mp hz)), ?_⟩
                  rw [eqv_txs, show decide (txs l = ys) = sortedS (txs l) by rw [← sort_self per11 srt11]; exact decide_eq_decide.mpr eq_comm]
                  exact k H11 (s10.trans s11)
                have e9' : H9 D9 = some (.lst ((es.map fun e => sortedS (txs (e.getD []))).map V.bl)) := by
                  rw [e9, List.map_map]
                  rfl
                have ea9 : ((es.map fun e => sortedS (txs (e.getD []))).all id) = es.all fun e => sortedS (txs (e.getD [])) := by
                  rw [List.all_map]
                  rfl
                refine ⟨D9, _, rfl, SqL.of e9', ?_⟩
                rw [ea9]
                exact q' H9 _ (s07.trans s9) hP
end
end IP

set_option Elab.async false
set_option linter.all false
set_option maxRecDepth 100000
set_option maxHeartbeats 8000000
/-! The law's own answer. -/
namespace BL
open PySem PySem.Spec PyProof.Rows L2 FS MP
section
variable {P : Program} {w : World} {K : PySem.W.Frag} {mg : Str → Option Value} {base : Heap}
def spRight : Sp := fun vs H Q _ => ∃ (n a : Addr) (N : List Str) (gs : List (List Str)), vs = [.ref n, .ref a] ∧ H n = some (.lst (N.map V.str)) ∧ GsAt H a gs ∧ sortedS N = true ∧ (∀ z ∈ N, PyData.strOk z = true) ∧ (∀ z ∈ gs.flatten, PyData.strOk z = true) ∧ gs.length ≤ 100 ∧ gs.flatten.length < 64 ∧
  ∀ H', Same H H' → Q (.bl (isR N gs)) H'
theorem scR : FnScope ["_law_names", "_law_groups", "_law_last", "_law_found", "_law_group"] ["_law_names", "_law_groups"] (defScope TopL.sRight) := ⟨rfl, rfl, rfl, by decide +kernel, rfl, by decide +kernel, by decide +kernel⟩
theorem ok_right {f : Addr} {fd : FuncData} (F : Fun K "_law_is_right" "_law_is_right" TopL.sRight f fd) (zn : mg "len" = none) (zo : mg "sorted" = none) : FnOk P w K mg base CX0 1 f fd ["_law_names", "_law_groups"] spRight := by
  refine F.ok scR (fun vs H Q E h => ?_) (fun cdv A0 outer s H vs Q E hr h => ?_)
  · obtain ⟨n, a, N, gs, rfl, _⟩ := h
    rfl
  · obtain ⟨n, a, N, gs, rfl, hN, ⟨ys, ea, pa⟩, sN, okN, ok, l1, l2, q⟩ := h
    refine ⟨_, pss_cons (ps_set (i := 2) scR.nd rfl (.inl rfl) pe_str)
      (pss_cons (ps_set (i := 3) scR.nd rfl (.inl rfl) (pe_lstS pa_nil))
      (pss_cons (ps_for PassesOwn.never rfl (pi_list (pv 1)) (pg_name (i := 4) scR.nd rfl (Or.inl rfl))
        (pss_cons (ps_if (PW.pt (pw_or (pt_cmpR op_eq (pe_callB (id := "len") (r := rLenQ K) call_len_seq (by rfl) zn PySem.boot_len (pa_cons (pv 4) pa_nil)) pe_int (nomark _)) (pw_or (pt_not (pt_cmpR op_gt_str (pe_ix (r := rIxL K) ix_list (pv 4) pe_int (fun _ _ => rfl)) (pv 2) (nomark _)))
            (pw_or1 (pt_cmpR (op_neD hr.units) (pe_callB (id := "sorted") (r := rSortL K) cr_sortedL (by rfl) zo (by decide +kernel) (pa_cons (pv 4) pa_nil)) (pv 4) (nomark _)))))) (pss_one (ps_ret pe_bl)) pss_nil)
        (pss_cons (ps_set (i := 2) scR.nd rfl (.inl rfl) (pe_ix (r := rIxL K) ix_list (pv 4) pe_int (fun _ _ => rfl)))
        (pss_one (ps_expr (pe_bm PySem.F.plainAttrs_list PySem.F.slot_list_extend PySem.F.type_list_extend mt_extend (pv 3) (pa_cons (pv 4) pa_nil)))))))
      (pss_one (ps_ret (pe_cmpR (op_eqD hr.units) (pe_callB (id := "sorted") (r := rSortL K) cr_sortedL (by rfl) zo (by decide +kernel) (pa_cons (pv 3) pa_nil)) (pv 0) (nomark _)))))), ?_⟩
    refine ⟨by simp, fun d H1 s1 n1 e1 => ?_⟩
    have la : ys.length = gs.length := pa.length.symm
    refine ⟨.ref a, rfl, a, rfl, ⟨_, SqL.of (s1 _ _ ea)⟩, for_list (xs := ys) (fun i σ H' => ∃ last v4, σ = [some (.ref n), some (.ref a), some (.str last), some (.ref d), v4] ∧ Same H H' ∧ H' d = some (.lst ((gs.take i).flatten.map V.str)) ∧ goR "" gs = goR last (gs.drop i)) ⟨"", none, rfl, s1, e1, rfl⟩ (fun i σ H' _ ⟨_, _, _, s', _⟩ => SqL.of (s' _ _ ea)) ?turn ?done⟩
    case turn =>
      rintro i y σ H2 hy ⟨last, v4, rfl, s2, e2, hg⟩
      obtain ⟨g, hgi, rg, rfl, eg⟩ := made_at pa hy
      have hil := (List.getElem?_eq_some_iff.mp hgi).1
      have eg2 := s2 _ _ eg
      have fsp := flat_split hgi
      have fln : gs.flatten.length = (gs.take i).flatten.length + (g.length + (gs.drop (i + 1)).flatten.length) := by rw [fsp, List.length_append, List.length_append]
      have okg : ∀ z ∈ g, PyData.strOk z = true := fun z hz => ok z (by rw [fsp]; exact List.mem_append_right _ (List.mem_append_left _ hz))
      have ed : gs.drop i = g :: gs.drop (i + 1) := by
        rw [List.drop_eq_getElem_cons hil]
        rw [(List.getElem?_eq_some_iff.mp hgi).2]
      have no : ∀ H', Same H H' → goR last (g :: gs.drop (i + 1)) = false → Q (.bl false) H' := fun H' s' h => by
        have := q H' s'
        rw [show isR N gs = false by unfold isR; rw [hg, ed, h]; rfl] at this
        exact this
      refine ⟨.ref rg, rfl, rg, _, rfl, .inl (SqL.of eg2), rfl, _, rfl, ite2 (fun hc => ?_) (fun hc => ?_)⟩
      · refine no H2 s2 ?_
        cases g with
        | nil => rfl
        | cons x r => simp at hc; omega
      obtain ⟨x, r, rfl⟩ : ∃ x r, g = x :: r := by
        cases g with
        | nil => exact (hc (by simp)).elim
        | cons x r => exact ⟨x, r, rfl⟩
      have e0 : atI ((x :: r).map V.str) 0 = some (.str x) := atI_nat (j := 0) rfl
      refine ⟨.ref rg, rfl, rg, _, 0, _, rfl, rfl, SqL.of eg2, e0, .str last, rfl, _, _, rfl, rfl, _, rfl, ?_⟩
      cases hlt : decide (last.cps.toList < x.cps.toList) with
      | false =>
        refine iteT (no H2 s2 ?_)
        show (decide (last.cps.toList < x.cps.toList) && sortedS (x :: r) && goR x _) = false
        rw [hlt]
        rfl
      | true =>
      refine iteF ⟨.ref rg, rfl, rg, x :: r, rfl, SqL.of eg2, by omega, fun zs q3 H3 per srt s3 n3 e3 => ?_⟩
      refine ⟨.ref rg, rfl, _, _, dp_list (SqL.of e3), dp_list (SqL.of (s3 _ _ eg2)), shaped_txs zs (fun z hz => okg z (per.mem_iff.mp hz)), shaped_txs _ okg, _, rfl, ?_⟩
      rw [eqv_txs, sort_self per srt]
      cases hso : sortedS (x :: r) with
      | false =>
        refine iteT (no H3 (s2.trans s3) ?_)
        show (decide (last.cps.toList < x.cps.toList) && sortedS (x :: r) && goR x _) = false
        rw [hso, Bool.and_false]
        rfl
      | true =>
      have eg3 := s3 _ _ eg2
      refine iteF ⟨.ref rg, rfl, rg, _, 0, _, rfl, rfl, SqL.of eg3, e0, .ref d, rfl, .inl ⟨rfl, _, SqL.of (s3 _ _ e2)⟩, .ref rg, rfl, d, rg, _, _, rfl, rfl, s3 _ _ e2, eg3, ?_, _, _, rfl, ?_, ?_, ?_⟩
      · rw [List.length_map, List.length_map]
        exact Nat.le_of_lt (small1000 (by omega))
      · intro b o e
        rw [upd_ne (ne_of_none e n1)]
        exact s3 _ _ (s2 _ _ e)
      · rw [upd_same, ← List.map_append, List.take_add_one, hgi]
        simp
      · rw [hg, ed]
        show (decide (last.cps.toList < x.cps.toList) && sortedS (x :: r) && goR x _) = _
        rw [hlt, hso]
        rfl
    case done =>
      rintro σ H2 ⟨last, v4, rfl, s2, e2, hg⟩
      rw [la] at e2 hg
      rw [List.take_length] at e2
      rw [List.drop_length] at hg
      refine ⟨.ref d, rfl, d, gs.flatten, rfl, SqL.of e2, l2, fun zs q3 H3 per srt s3 n3 e3 => ?_⟩
      refine ⟨.ref n, rfl, _, _, dp_list (SqL.of e3), dp_list (SqL.of (s3 _ _ (s2 _ _ hN))), shaped_txs zs (fun z hz => ok z (per.mem_iff.mp hz)), shaped_txs N okN, ?_⟩
      rw [eqv_txs, sort_other per srt sN]
      have := q H3 (s2.trans s3)
      unfold isR at this
      rw [hg] at this
      exact this
end
end BL

set_option Elab.async false
set_option linter.all false
set_option maxRecDepth 100000
set_option maxHeartbeats 16000000
/-! The law. -/
namespace BL
open PySem PySem.Spec PyProof.Rows L2 FS MP IP
section
variable {X : Cx}
def rTupN (K : PySem.W.Frag) : List V → Hp → VK → Prop := fun xs H Q => ∃ p ys, xs = [.ref p] ∧ SqL K H p ys ∧ ∀ l H', Same H H' → H l = none → H' l = some (.tup ys) → Q (.ref l) H'
theorem call_tupN : CallR X (.type "tuple") (rTupN X.K) := fun pins s σ H xs us Q I r ⟨p, ys, e, h, q⟩ =>
  call_tuple_of pins s σ H xs us Q I r ⟨p, ys, e, .inl ⟨h, fun l nl => q l _ (same_new nl) nl upd_same⟩⟩
end
def W8 : List Str := ["m.f", "m.ab", "n.c", "m.a", "n.a1", "o.zz", "m.main", "n.b"]
def cT (g : List Str) : HO := .tup (g.map V.str)
theorem LAt_ne_tup {H : Hp} {p b : Addr} {xs : List V} (L : LD.LAt p H) (h : H b = some (.tup xs)) : b ≠ p := fun z => by
  subst z
  obtain ⟨ms, hm, _⟩ := L
  rw [hm] at h
  cases h
theorem LAt_ne_txt {H : Hp} {p b : Addr} {N : List Str} (L : LD.LAt p H) (h : H b = some (.lst (N.map V.str))) : b ≠ p := fun z => by
  subst z
  obtain ⟨ms, hm, h2, _⟩ := L
  have e : HO.lst (ms.map V.int) = .lst (N.map V.str) := Option.some.inj (hm.symm.trans h)
  have e : ms.map V.int = N.map V.str := by injection e
  cases ms with
  | nil => simp at h2
  | cons x r =>
    cases N with
    | nil => cases e
    | cons y q => cases e
theorem LAt_none {H : Hp} {p b : Addr} (L : LD.LAt p H) (h : H b = none) : b ≠ p := fun z => by
  subst z
  obtain ⟨ms, hm, _⟩ := L
  rw [hm] at h
  cases h
theorem MadeT.off {H H' : Hp} {p : Addr} {g : List Str} {y : V} (h : Made cT H g y) (L : LD.LAt p H) (o : Off p H H') : Made cT H' g y := by
  obtain ⟨r, e, h⟩ := h
  exact ⟨r, e, o _ _ (LAt_ne_tup L h) h⟩
theorem ia_made {H : Hp} {gs : List (List Str)} {zs : List V} (h : Paired (Made cT H) gs zs) : Paired (IA H) (ofG gs) zs := by
  induction h with
  | nil => exact .nil
  | cons m _ ih =>
    obtain ⟨r, e, h⟩ := m
    exact .cons ⟨r, e, h⟩ ih
theorem ia_none {H : Hp} {gs : List (List Str)} {zs : List V} (h : Paired (Made cS H) gs zs) : Paired (IA H) (gs.map fun _ => none) zs := by
  induction h with
  | nil => exact .nil
  | cons m _ ih =>
    obtain ⟨r, e, h⟩ := m
    exact .cons (show NoT H _ from .inr (.inr (.inr ⟨r, _, e, h⟩))) ih
theorem tot_app (a b : List (Option (List V))) : tot (a ++ b) = tot a + tot b := by
  unfold tot
  rw [List.map_append, List.flatten_append, List.length_append]
theorem tot_ofG (gs : List (List Str)) : tot (ofG gs) = gs.flatten.length := by
  induction gs with
  | nil => rfl
  | cons g r ih =>
    show ((g.map V.str) ++ ((ofG r).map fun e => e.getD []).flatten).length = (g ++ r.flatten).length
    rw [List.length_append, List.length_append, List.length_map]
    exact congrArg _ ih
theorem tot_none (gs : List (List Str)) : tot (gs.map fun _ => (none : Option (List V))) = 0 := by
  induction gs with
  | nil => rfl
  | cons g r ih => exact ih
theorem fl_ofG {gs : List (List Str)} (ok : ∀ z ∈ gs.flatten, PyData.strOk z = true) : ∀ l, some l ∈ ofG gs → ∀ x ∈ l, Fl x := fun l hl x hx => by
  obtain ⟨g, hg, e⟩ := List.mem_map.mp hl
  cases e
  obtain ⟨z, hz, rfl⟩ := List.mem_map.mp hx
  exact .inl ⟨z, rfl, ok z (List.mem_flatten.mpr ⟨g, hg, hz⟩)⟩
theorem isP_none {N : List Str} {es : List (Option (List V))} (h : none ∈ es) : isP N es = false := by
  have : es.all shp = false := by
    cases e : es.all shp with
    | false => rfl
    | true =>
      have := List.all_eq_true.mp e none h
      cases this
  unfold isP
  rw [this, Bool.false_and, Bool.false_and]
theorem isP_int {N : List Str} {es : List (Option (List V))} (h : some [V.int 7] ∈ es) : isP N es = false := by
  have : ((es.map fun e => e.getD []).flatten).all isStr = false := by
    cases e : ((es.map fun e => e.getD []).flatten).all isStr with
    | false => rfl
    | true =>
      have := List.all_eq_true.mp e (.int 7) (List.mem_flatten.mpr ⟨[.int 7], List.mem_map.mpr ⟨_, h, rfl⟩, by simp⟩)
      cases this
  unfold isP
  rw [this, Bool.and_false, Bool.false_and]
theorem eqv_refl (gs : List (List Str)) : PyData.eqv (dG gs) (dG gs) = true := by
  have k : ∀ gs : List (List Str), PyData.eqvAll (gs.map fun g => PyData.list (g.map PyData.str)) (gs.map fun g => PyData.list (g.map PyData.str)) = true := by
    intro gs
    induction gs with
    | nil => simp [PyData.eqvAll]
    | cons g r ih =>
      simp only [List.map_cons, PyData.eqvAll, ih, eqv_txs, decide_true, Bool.and_true]
  simp only [dG, PyData.eqv, k]
theorem isP_nil {x : Str} {r : List Str} : isP (x :: r) [] = false := rfl
/-- no partition, whatever it is -/
def OtP (N : List Str) (H : Hp) (v : V) : Prop := NoT H v ∨ ∃ (t : Addr) (xs : List V) (es : List (Option (List V))), v = .ref t ∧ H t = some (.tup xs) ∧ Paired (IA H) es xs ∧ es.length ≤ 1000 ∧ (∀ l, some l ∈ es → ∀ x ∈ l, Fl x) ∧ tot es < 64 ∧ (isP N es = false ∨ (N = [] ∧ xs = []))
theorem OtP.mono {N : List Str} {H H' : Hp} {v : V} (h : OtP N H v) (s : Same H H') : OtP N H' v := by
  rcases h with h | ⟨t, xs, es, e, h, p, r⟩
  · exact .inl (h.mono s)
  · exact .inr ⟨t, xs, es, e, s _ _ h, Paired.mono (fun _ _ m => IA.mono m s) p, r⟩
theorem W8_nd : W8.Nodup := by decide +kernel
theorem W8_ne : ∀ z ∈ W8, z ≠ ("" : Str) := by decide +kernel
theorem W8_ok : ∀ z ∈ W8, PyData.strOk z = true := by decide +kernel
section
variable {P : Program} {w : World} {K : PySem.W.Frag} {mg : Str → Option Value} {base : Heap}
def spLaw (K : PySem.W.Frag) : Sp := fun vs H Q _ => ∃ (a : Addr) (ns : List Int), vs = [.ref a] ∧ SqL K H a (ns.map V.int) ∧ ns.length ≤ 63 ∧ ∀ H', Q (.bl true) H'
abbrev NL : List Str := ["_law_script", "_law_left_here", "_law_names", "_law_many", "_law_groups", "_law_turn", "_law_right", "_law_value", "_law_given", "_law_spot", "_law_others", "_law_other", "_law_name", "_law_group"]
theorem scL : FnScope ["_law_script", "_law_left_here", "_law_names", "_law_many", "_law_groups", "_law_turn", "_law_right", "_law_value", "_law_given", "_law_spot", "_law_others", "_law_other", "_law_name", "_law_group"] ["_law_script"] (defScope TopL.sLaw) := ⟨rfl, rfl, rfl, by decide +kernel, rfl, by decide +kernel, by decide +kernel⟩
theorem ok_law {f fL fD fG fB fR fI : Addr} {fd fdL fdD fdG fdB fdR fdI : FuncData} (F : Fun K "law" "law" TopL.sLaw f fd) (zo : mg "sorted" = none) (zr : mg "range" = none) (zt : mg "tuple" = none) (zM : mg "max" = none) (zn : mg "len" = none) (zl : mg "list" = none)
    (GL : FnOk P w K mg base CX0 1 fL fdL ["_law_script"] (LD.spLeft K)) (bL : Binds K fdL ["_law_script"] []) (gL : mg "_law_left" = some (.ref fL)) (kL : PySem.W.keepIn K (.ref fL) = true)
    (GD : FnOk P w K mg base CX0 1 fD fdD ["_law_left_here", "_law_most"] LD.spDraw) (bD : Binds K fdD ["_law_left_here", "_law_most"] []) (gD : mg "_law_draw" = some (.ref fD)) (kD : PySem.W.keepIn K (.ref fD) = true)
    (GG : FnOk P w K mg base CX0 1 fG fdG ["_law_names", "_law_labels"] spGroup) (bG : Binds K fdG ["_law_names", "_law_labels"] []) (gG : mg "_law_part" = some (.ref fG)) (kG : PySem.W.keepIn K (.ref fG) = true)
    (GB : FnOk P w K mg base CX0 2 fB fdB ["_law_left_here", "_law_groups"] spBent) (bB : Binds K fdB ["_law_left_here", "_law_groups"] []) (gB : mg "_law_bent" = some (.ref fB)) (kB : PySem.W.keepIn K (.ref fB) = true)
    (GR : FnOk P w K mg base CX0 1 fR fdR ["_law_names", "_law_groups"] spRight) (bR : Binds K fdR ["_law_names", "_law_groups"] []) (gR : mg "_law_is_right" = some (.ref fR)) (kR : PySem.W.keepIn K (.ref fR) = true)
    (GI : FnOk P w K mg base CX0 1 fI fdI ["pieces", "value"] (spPart K)) (bI : Binds K fdI ["pieces", "value"] []) (gI : mg "is_partition" = some (.ref fI)) (kI : PySem.W.keepIn K (.ref fI) = true) :
    FnOk P w K mg base CX0 3 f fd ["_law_script"] (spLaw K) := by
  refine F.ok scL (fun vs H Q E h => ?_) (fun cdv A0 outer s H vs Q E hr h => ?_)
  · obtain ⟨a, ns, rfl, _⟩ := h
    rfl
  · obtain ⟨a, ns, rfl, hS, hlen, q⟩ := h
    have hr1 : Room 1 _ := hr.mono (by decide)
    refine ⟨_, pss_cons (ps_set (i := 1) scL.nd rfl (.inr rfl) (pe_call GL hr1 rfl gL kL bL .nil pass0 (pa_cons (pv 0) pa_nil)))
      (pss_cons (ps_set (i := 2) scL.nd rfl (.inl rfl) (pe_callB (id := "sorted") (r := rSortL K) cr_sortedL (by rfl) zo (by decide +kernel) (pa_cons (pe_slice sl_listS (pe_lstS (pa_cons pe_str (pa_cons pe_str (pa_cons pe_str (pa_cons pe_str (pa_cons pe_str (pa_cons pe_str (pa_cons pe_str (pa_cons pe_str pa_nil))))))))) po_none (po_some (pe_call GD hr1 rfl gD kD bD .nil pass0 (pa_cons (pv 1) (pa_cons pe_int pa_nil))))) pa_nil)))
      (pss_cons (ps_set (i := 3) scL.nd rfl (.inr rfl) (pe_op op_add pe_int (pe_call GD hr1 rfl gD kD bD .nil pass0 (pa_cons (pv 1) (pa_cons pe_int pa_nil)))))
      (pss_cons (ps_set (i := 4) scL.nd rfl (.inl rfl) (pe_call GG hr1 rfl gG kG bG .nil pass0 (pa_cons (pv 2) (pa_cons (pe_lc (own := [("_law_name", 12)]) (g := gName 12) (tt := tYes) rfl scL.nd (pi_list (pv 2)) (blkOk_by (N := NL) (sc := defScope TopL.sLaw) (by decide +kernel)) (fun _ _ _ _ _ => pg_name (i := 12) scL.nd rfl (Or.inl rfl)) (fun _ _ _ _ _ => pts_nil)
          (fun _ _ _ _ _ => pe_call GD hr1 rfl gD kD bD .nil pass0 (pa_cons (pv 1) (pa_cons (pv 3) pa_nil)))) pa_nil))))
      (pss_cons (ps_for PassesOwn.never rfl (pi_range1 (by rfl) zr (pa_cons (pe_call GD hr1 rfl gD kD bD .nil pass0 (pa_cons (pv 1) (pa_cons pe_int pa_nil))) pa_nil)) (pg_name (i := 5) scL.nd rfl (Or.inl rfl))
          (pss_one (ps_set (i := 4) scL.nd rfl (.inl rfl) (pe_call GB hr rfl gB kB bB .nil pass0 (pa_cons (pv 1) (pa_cons (pv 4) pa_nil))))))
      (pss_cons (ps_set (i := 6) scL.nd rfl (.inl rfl) (pe_call GR hr1 rfl gR kR bR .nil pass0 (pa_cons (pv 2) (pa_cons (pv 4) pa_nil))))
      (pss_cons (ps_set (i := 7) scL.nd rfl (.inl rfl) (pe_callTy (r := rTupN K) call_tupN (by rfl) zt boot_tuple (pa_cons (pe_lc (own := [("_law_group", 13)]) (g := gName 13) (tt := tYes) rfl scL.nd (pi_list (pv 4)) (blkOk_by (N := NL) (sc := defScope TopL.sLaw) (by decide +kernel)) (fun _ _ _ _ _ => pg_name (i := 13) scL.nd rfl (Or.inl rfl)) (fun _ _ _ _ _ => pts_nil)
          (fun _ _ _ _ _ => pe_callTy (r := rTupN K) call_tupN (by rfl) zt boot_tuple (pa_cons (pv 13) pa_nil))) pa_nil)))
      (pss_cons (ps_set (i := 8) scL.nd rfl (.inl rfl) (pe_callTy (r := rTupN K) call_tupN (by rfl) zt boot_tuple (pa_cons (pv 2) pa_nil)))
      (pss_cons (ps_if (pt_cmpR (op_neD hr.units) (pe_call GI hr1 rfl gI kI bI .nil pass0 (pa_cons (pv 8) (pa_cons (pv 7) pa_nil))) (pv 6) (nomark _)) (pss_one (ps_ret pe_bl)) pss_nil)
      (pss_cons (ps_set (i := 9) scL.nd rfl (.inl rfl) (pe_call GD hr1 rfl gD kD bD .nil pass0 (pa_cons (pv 1) (pa_cons (pe_callB (call_max2 rfl) (by rfl) zM (by decide +kernel) (pa_cons pe_int (pa_cons (pe_callB (id := "len") (r := rLenQ K) call_len_seq (by rfl) zn PySem.boot_len (pa_cons (pv 7) pa_nil)) pa_nil))) pa_nil))))
      (pss_cons (ps_set (i := 10) scL.nd rfl (.inl rfl) (pe_lstS (pa_cons (pv 4) (pa_cons pe_non (pa_cons pe_int (pa_cons pe_str (pa_cons (pe_callTy (r := rListS K) call_listS (by rfl) zl (by decide +kernel) (pa_cons (pv 7) pa_nil)) (pa_cons (pe_op op_catB (pe_tupS (pa_cons pe_non pa_nil)) (pv 7)) (pa_cons (pe_op op_catB (pv 7) (pe_tupS (pa_cons (pe_tupS (pa_cons pe_int pa_nil)) pa_nil))) pa_nil)))))))))
      (pss_cons (ps_expr (pe_bm PySem.F.plainAttrs_list PySem.F.slot_list_append PySem.F.type_list_append mt_append (pv 10) (pa_cons (pe_op op_catB (pe_op op_catB (pe_slice sl_tupB (pv 7) po_none (po_some (pv 9))) (pe_tupS (pa_cons (pe_lstS (pa_cons pe_str pa_nil)) pa_nil))) (pe_slice sl_tupB (pv 7) (po_some (pv 9)) po_none)) pa_nil)))
      (pss_cons (ps_expr (pe_bm PySem.F.plainAttrs_list PySem.F.slot_list_append PySem.F.type_list_append mt_append (pv 10) (pa_cons (pe_op op_catB (pe_callTy (r := rTupN K) call_tupN (by rfl) zt boot_tuple (pa_cons (pe_lc (own := [("_law_group", 13)]) (g := gName 13) (tt := tYes) rfl scL.nd (pi_tup (pe_slice sl_tupB (pv 7) po_none (po_some (pe_op op_add (pv 9) pe_int)))) (blkOk_by (N := NL) (sc := defScope TopL.sLaw) (by decide +kernel)) (fun _ _ _ _ _ => pg_name (i := 13) scL.nd rfl (Or.inl rfl)) (fun _ _ _ _ _ => pts_nil)
          (fun _ _ _ _ _ => pe_callTy (r := rListS K) call_listS (by rfl) zl (by decide +kernel) (pa_cons (pv 13) pa_nil))) pa_nil)) (pe_slice sl_tupB (pv 7) (po_some (pe_op op_add (pv 9) pe_int)) po_none)) pa_nil)))
      (pss_cons (ps_for PassesOwn.never rfl (pi_list (pv 10)) (pg_name (i := 11) scL.nd rfl (Or.inl rfl))
          (pss_one (ps_if (PW.pt (pw_and (pt_cmpR op_notBl (pe_call GI hr1 rfl gI kI bI .nil pass0 (pa_cons (pv 8) (pa_cons (pv 11) pa_nil))) pe_bl (nomark _)) (pw_and1 (pt_not (PW.pt (pw_and (pt_cmpR (op_eqD hr.units) (pv 2) (pe_lstS pa_nil) (nomark _)) (pw_and1 (pt_cmpR (op_eqD hr.units) (pv 11) (pe_tupS pa_nil) (nomark _))))))))) (pss_one (ps_ret pe_bl)) pss_nil)))
      (pss_one (ps_ret (pe_and (pe_cmpR (op_eqD hr.units) (pe_call GI hr1 rfl gI kI bI .nil pass0 (pa_cons (pv 8) (pa_cons (pv 7) pa_nil))) (pv 6) (nomark _)) (pe_one (pe_cmpR (op_eqD hr.units) (pv 4) (pe_lc (own := [("_law_group", 13)]) (g := gName 13) (tt := tYes) rfl scL.nd (pi_tup (pv 7)) (blkOk_by (N := NL) (sc := defScope TopL.sLaw) (by decide +kernel)) (fun _ _ _ _ _ => pg_name (i := 13) scL.nd rfl (Or.inl rfl)) (fun _ _ _ _ _ => pts_nil)
          (fun _ _ _ _ _ => pe_callTy (r := rListS K) call_listS (by rfl) zl (by decide +kernel) (pa_cons (pv 13) pa_nil))) (nomark _))))))))))))))))))), ?_⟩
    refine ⟨.ref a, rfl, a, ns, rfl, hS, hlen, fun H1 p s1 np L1 => ?_⟩
    refine ⟨by simp, fun l8 G8 s8 n8 e8 => ⟨.ref p, rfl, p, 9, rfl, by decide, by decide, L1.mono s8, fun H2 r o2 L2' hr2 => ⟨(r : Int), rfl, l8, W8.map V.str, rfl, SqL.of (o2 _ _ (LAt_none L1 n8) e8), fun l9 G9 s9 n9 e9 => ?_⟩⟩⟩
    rw [cut_to, ← List.map_take] at e9
    have tl8 : (W8.take r).length ≤ 8 := by rw [List.length_take]; exact Nat.min_le_right _ _
    refine ⟨l9, W8.take r, rfl, SqL.of e9, by omega, fun N n H3 per srt s3 nn3 en => ?_⟩
    have N8 : N.length ≤ 8 := by rw [per.length_eq]; exact tl8
    have Nin : ∀ z ∈ N, z ∈ W8 := fun z hz => List.mem_of_mem_take (per.mem_iff.mp hz)
    have Nnd : N.Nodup := per.nodup_iff.mpr ((List.take_sublist r W8).nodup W8_nd)
    have Nne : ∀ z ∈ N, z ≠ ("" : Str) := fun z hz => W8_ne z (Nin z hz)
    have okN : ∀ z ∈ N, PyData.strOk z = true := fun z hz => W8_ok z (Nin z hz)
    have L3 := (L2'.mono s9).mono s3
    clear e9 e8
    refine ⟨.ref p, rfl, p, 5, rfl, by decide, by decide, L3, fun H4 m o4 L4 hm => ⟨_, _, rfl, rfl, ?_⟩⟩
    have npn : n ≠ p := LAt_ne_txt L3 en
    have en4 := o4 _ _ npn en
    refine ⟨.ref n, rfl, .ref n, rfl, n, rfl, ⟨_, SqL.of en4⟩, fun D hD => ?_⟩
    have nDp : D ≠ p := LAt_none L4 hD
    refine lc_list (xs := N.map V.str) (fun i H' => Off p H4 H' ∧ LD.LAt p H' ∧ ∃ ls : List Int, H' D = some (.lst (ls.map V.int)) ∧ ls.length = i) ⟨Off.of (same_new hD), L4.mono (same_new hD), [], upd_same, rfl⟩ (fun _ _ _ h => SqL.of (h.1 _ _ npn en4)) (fun i x H' hx hh => ?_) (fun H' hh => ?_)
    · obtain ⟨o', L', ls, eD, el⟩ := hh
      have hi : i < N.length := by
        have := (List.getElem?_eq_some_iff.mp hx).1
        rw [List.length_map] at this
        exact this
      refine ⟨by simp [wipe], .ref p, rfl, .int (1 + (m : Int)), rfl, p, 1 + m, by simp, by omega, by omega, L', fun H5 z o5 L5 hz => ⟨ls.map V.int, o5 _ _ nDp eD, ?_, ?_, ?_, ls ++ [(z : Int)], ?_, ?_⟩⟩
      · rw [List.length_map, el]
        exact small1000 (by omega)
      · intro b o nb eb
        rw [upd_ne (ne_of_none eb hD)]
        exact o5 _ _ nb (o' _ _ nb eb)
      · obtain ⟨ms, hm', r'⟩ := L5
        exact ⟨ms, by rw [upd_ne (Ne.symm nDp)]; exact hm', r'⟩
      · rw [upd_same, List.map_append]
        rfl
      · rw [List.length_append, el]
        rfl
    obtain ⟨o', L', ls, eD, el⟩ := hh
    rw [List.length_map] at el
    refine ⟨n, D, N, ls, rfl, o' _ _ npn en4, eD, el, N8, fun H6 g gs s6 ng6 G6 fl6 l6 mem6 => ?_⟩
    have en6 := s6 _ _ (o' _ _ npn en4)
    have L6 := L'.mono s6
    refine ⟨.ref p, rfl, p, 3, rfl, by decide, by decide, L6, fun H7 t o7 L7 ht => ⟨_, rfl, by omega, by omega, ?_⟩⟩
    refine for_range (fun i σ H' => ∃ (g' : Addr) (gs' : List (List Str)) (v5 : Option V), σ = [some (.ref a), some (.ref p), some (.ref n), some (.int (1 + (m : Int))), some (.ref g'), v5, none, none, none, none, none, none, none, none] ∧ LD.LAt p H' ∧ H' n = some (.lst (N.map V.str)) ∧ GsAt H' g' gs' ∧ (∀ z ∈ gs'.flatten, PyData.strOk z = true) ∧ gs'.length ≤ 8 + i ∧ gs'.flatten.length + 1 ≤ 9 * 2 ^ i)
      ⟨g, gs, none, rfl, L7, o7 _ _ npn en6, G6.off L6 o7, fun z hz => okN z (mem6 z hz), by omega, by omega⟩ ?turn ?done
    case turn =>
      rintro i σ H' hi ⟨g', gs', v5, rfl, L8, en8, G8', ok8, l8', f8⟩
      have hi2 : i = 0 ∨ i = 1 := by omega
      have f8' : gs'.flatten.length ≤ 17 := by rcases hi2 with rfl | rfl <;> omega
      refine ⟨.ref p, rfl, .ref g', rfl, p, g', gs', rfl, L8, G8', ok8, by omega, by omega, fun H9 b gs9 o9 L9 G9' h1 h2 h3 => ⟨b, gs9, _, rfl, L9, o9 _ _ npn en8, G9', h3, by omega, ?_⟩⟩
      rcases hi2 with rfl | rfl <;> omega
    case done =>
      rintro σ H8 ⟨g', gs', v5, rfl, L8, en8, G8', ok8, l8', f8⟩
      have ht2 : t = 0 ∨ t = 1 ∨ t = 2 := by omega
      have f8 : gs'.flatten.length + 1 ≤ 9 * 2 ^ t := f8
      have ft : gs'.flatten.length ≤ 35 := by rcases ht2 with rfl | rfl | rfl <;> omega
      have lt : gs'.length ≤ 10 := by rcases ht2 with rfl | rfl | rfl <;> simp at l8' <;> omega
      clear f8 l8' l6 fl6 G6
      refine ⟨.ref n, rfl, .ref g', rfl, n, g', N, gs', rfl, en8, G8', srt, okN, ok8, by omega, by omega, fun H9 s9' => ?_⟩
      have en9 := s9' _ _ en8
      have L9 := L8.mono s9'
      have G9' := G8'.mono s9'
      obtain ⟨ys, eys, pys⟩ := G9'
      have lys : ys.length = gs'.length := pys.length.symm
      refine ⟨.ref g', rfl, g', rfl, ⟨_, SqL.of eys⟩, fun D2 nD2 => ?_⟩
      refine cn_at (C := cT) (j := 13) (te := tCB (rTupN K) (tCons (tVar 13) tNil)) (H1 := H9) (σ := [some (.ref a), some (.ref p), some (.ref n), some (.int (1 + (m : Int))), some (.ref g'), v5, some (.bl (isR N gs')), none, none, none, none, none, none, none]) nD2 ys gs' (runs_list (SqL.of eys)) (by omega) (by show 13 < 14; decide) lys.symm (fun i x o τ H2 Q' hx ho s2 hτ k => ?_) fun H10 zs s10 eD2 pz => ?_
      · obtain ⟨g0, hg0, rg0, rfl, eg0⟩ := made_at pys hx
        have e0 : o = g0 := Option.some.inj (ho.symm.trans hg0)
        subst e0
        exact ⟨.ref rg0, hτ, rg0, _, rfl, SqL.of (s2 _ _ eg0), fun l H3 s3 n3 e3 => k H3 l s3 n3 e3⟩
      refine ⟨D2, zs, rfl, SqL.of eD2, fun t1 H11 s11 n11 et => ?_⟩
      refine ⟨.ref n, rfl, n, N.map V.str, rfl, SqL.of (s11 _ _ (s10 _ _ en9)), fun gv H12 s12 n12 egv => ?_⟩
      have lzs : zs.length = gs'.length := pz.length.symm
      have S912 := (s10.trans s11).trans s12
      have tofG : tot (ofG gs') = gs'.flatten.length := tot_ofG gs'
      have lofG : (ofG gs').length = gs'.length := List.length_map _
      have pz12 := mades pz (s11.trans s12)
      have et12 := s12 _ _ et
      refine ⟨.ref gv, rfl, .ref t1, rfl, gv, .ref t1, N, rfl, .inl (.inl egv), srt, okN, .inr ⟨t1, zs, ofG gs', rfl, et12, ia_made pz12, by omega, fl_ofG ok8, by omega, fun H13 s13 => ?_⟩⟩
      rw [right_eq Nnd Nne]
      refine ⟨.bl (isR N gs'), rfl, .bool (isR N gs'), .bool (isR N gs'), .bl _, .bl _, rfl, rfl, _, rfl, ?_⟩
      rw [show (!PyData.eqv (.bool (isR N gs')) (.bool (isR N gs'))) = false by cases isR N gs' <;> rfl]
      refine iteF ?_
      have L13 := (L9.mono S912).mono s13
      have et13 := s13 _ _ et12
      have egv13 := s13 _ _ egv
      refine ⟨.ref p, rfl, .ref t1, rfl, t1, zs, rfl, .inr (.inl (.inl et13)), 1, (zs.length : Int), rfl, p, max 1 zs.length, ?_, by omega, by omega, L13, fun H14 kk o14 L14 hkk => ?_⟩
      · have : (if (zs.length : Int) > 1 then (zs.length : Int) else 1) = ((max 1 zs.length : Nat) : Int) := by
          split <;> omega
        rw [this]
        rfl
      have et14 := o14 _ _ (LAt_ne_tup L13 et13) et13
      have egv14 := o14 _ _ (LAt_ne_tup L13 egv13) egv13
      have en14 := o14 _ _ npn (s13 _ _ (S912 _ _ en9))
      have G14 : GsAt H14 g' gs' := GsAt.off ((GsAt.mono ⟨ys, eys, pys⟩ S912).mono s13) L13 o14
      have pz14 : Paired (Made cT H14) gs' zs := Paired.mono (fun _ _ m => MadeT.off m L13 o14) (mades pz12 s13)
      clear pz pz12 et et12 et13 egv egv13 en9 en8 en6 en4 en G8' L9 L8 L6 L4 L3 eD2 eys pys
      obtain ⟨ys, eys, pys⟩ := G14
      have lzk : zs.length ≤ 10 := by omega
      have ltot : tot (ofG gs') < 64 := by omega
      -- the others
      refine ⟨.ref g', rfl, .ref t1, rfl, t1, zs, rfl, .inr (.inl (.inl et14)), fun lv H15 s15 n15 e15 => ?_⟩
      have et15 := s15 _ _ et14
      refine ⟨by simp, fun q1 H16 s16 n16 e16 => ⟨.ref t1, rfl, q1, t1, [.non], zs, rfl, rfl, e16, s16 _ _ et15, by simp; omega, fun c1 H17 s17 e17 => ?_⟩⟩
      have et17 := s17 _ _ (s16 _ _ et15)
      refine ⟨.ref t1, rfl, by simp, fun q7 H18 s18 n18 e18 => ⟨by simp, fun q8 H19 s19 n19 e19 => ⟨t1, q8, zs, [.ref q7], rfl, rfl, s19 _ _ (s18 _ _ et17), e19, by simp; omega, fun c2 H20 s20 e20 => ?_⟩⟩⟩
      refine ⟨by simp, fun o H21 s21 n21 e21 => ?_⟩
      have S1420 : Same H14 H20 := ((((s15.trans s16).trans s17).trans s18).trans s19).trans s20
      have S1421 := S1420.trans s21
      have et21 := S1421 _ _ et14
      -- one with a list between
      refine ⟨.ref o, rfl, .inl ⟨rfl, _, SqL.of e21⟩, .ref t1, rfl, .int (kk : Int), rfl, (kk : Int), rfl, t1, zs, rfl, et21, fun u1 H22 s22 f22 => ?_⟩
      rw [cut_to] at f22
      refine ⟨by simp, fun m1 H23 s23 n23 e23 => ⟨by simp, fun m2 H24 s24 n24 e24 => ⟨u1, m2, _, _, rfl, rfl, s24 _ _ (s23 _ _ f22), e24, by rw [List.length_take, List.length_singleton]; omega, fun u2 H25 s25 f25 => ?_⟩⟩⟩
      have S2125 := ((s22.trans s23).trans s24).trans s25
      refine ⟨.ref t1, rfl, .int (kk : Int), rfl, (kk : Int), rfl, t1, zs, rfl, S2125 _ _ et21, fun u3 H26 s26 f26 => ?_⟩
      rw [cut_from] at f26
      refine ⟨u2, u3, _, _, rfl, rfl, s26 _ _ f25, f26, by simp only [List.length_append, List.length_take, List.length_drop, List.length_singleton]; omega, fun c3 H27 s27 e27 => ?_⟩
      have S2127 := (S2125.trans s26).trans s27
      refine ⟨o, _, _, rfl, rfl, S2127 _ _ e21, small1000 (by simp), ?_⟩
      have Sx : Same H20 (upd H27 o (.lst ([V.ref g', .non, .int 7, .str "m.f", .ref lv, .ref c1, .ref c2] ++ [.ref c3]))) := fun b ob e => by
        rw [upd_ne (ne_of_none e n21)]
        exact S2127 _ _ (s21 _ _ e)
      have off27 : ∀ b xs, H27 b = some (.tup xs) → b ≠ o := fun b xs e z => by
        rw [z, S2127 _ _ e21] at e
        cases e
      have em1 := (s24.trans (s25.trans (s26.trans s27))) _ _ e23
      have nm1 : m1 ≠ o := fun z => by
        rw [z, s22 _ _ e21] at n23
        cases n23
      have e28 : (upd H27 o (.lst ([V.ref g', .non, .int 7, .str "m.f", .ref lv, .ref c1, .ref c2] ++ [.ref c3]))) o = some (.lst ([V.ref g', .non, .int 7, .str "m.f", .ref lv, .ref c1, .ref c2] ++ [.ref c3])) := upd_same
      have ec3 : (upd H27 o (.lst ([V.ref g', .non, .int 7, .str "m.f", .ref lv, .ref c1, .ref c2] ++ [.ref c3]))) c3 = some (.tup ((zs.take kk ++ [.ref m1]) ++ zs.drop kk)) := by rw [upd_ne (off27 _ _ e27)]; exact e27
      have em28 : (upd H27 o (.lst ([V.ref g', .non, .int 7, .str "m.f", .ref lv, .ref c1, .ref c2] ++ [.ref c3]))) m1 = some (.lst [.str "m.f"]) := by rw [upd_ne nm1]; exact em1
      generalize hH28 : (upd H27 o (.lst ([V.ref g', .non, .int 7, .str "m.f", .ref lv, .ref c1, .ref c2] ++ [.ref c3]))) = H28 at Sx e28 ec3 em28 ⊢
      have k1i : ((kk : Int) + 1) = ((kk + 1 : Nat) : Int) := by omega
      have S1428 := S1420.trans Sx
      have et28 := S1428 _ _ et14
      have pz28 := mades pz14 S1428
      -- one of lists
      refine ⟨.ref o, rfl, .inl ⟨rfl, _, SqL.of e28⟩, .ref t1, rfl, .int (kk : Int), rfl, _, _, rfl, rfl, _, rfl, t1, zs, rfl, et28, fun u4 H29 s29 f29 => ⟨u4, rfl, ⟨_, .inl (.inl f29)⟩, fun D3 nD3 => ?_⟩⟩
      rw [k1i, cut_to] at f29
      have ltz : (zs.take (kk + 1)).length ≤ 10 := by rw [List.length_take]; omega
      refine cn_at (C := cS) (j := 13) (te := tCB (rListS K) (tCons (tVar 13) tNil)) (H1 := H29) (σ := [some (.ref a), some (.ref p), some (.ref n), some (.int (1 + (m : Int))), some (.ref g'), v5, some (.bl (isR N gs')), some (.ref t1), some (.ref gv), some (.int kk), some (.ref o), none, none, none]) nD3 (zs.take (kk + 1)) (gs'.take (kk + 1)) (runs_tup (.inl (.inl f29))) (by omega) (by show 13 < 14; decide) (by rw [List.length_take, List.length_take, lzs]) (fun i x ob τ H2 Q' hx ho s2 hτ k => ?_) fun H30 ws s30 eD3 pw => ?_
      · obtain ⟨g0, hg0, rg0, rfl, eg0⟩ := made_at (pr_take (kk + 1) (mades pz28 s29)) hx
        have e0 : ob = g0 := Option.some.inj (ho.symm.trans hg0)
        subst e0
        exact ⟨.ref rg0, hτ, rg0, _, rfl, .inr (.inl (.inl (s2 _ _ eg0))), fun l H3 s3 n3 e3 => k H3 l s3 n3 e3⟩
      have lws : ws.length = (gs'.take (kk + 1)).length := pw.length.symm
      have lws10 : ws.length ≤ 10 := by rw [lws, List.length_take]; omega
      refine ⟨D3, ws, rfl, SqL.of eD3, fun t4 H31 s31 n31 e31 => ?_⟩
      have S2831 := (s29.trans s30).trans s31
      refine ⟨.ref t1, rfl, .int (kk : Int), rfl, _, _, rfl, rfl, _, rfl, t1, zs, rfl, S2831 _ _ et28, fun u5 H32 s32 f32 => ?_⟩
      rw [k1i, cut_from] at f32
      refine ⟨t4, u5, _, _, rfl, rfl, s32 _ _ e31, f32, by rw [List.length_drop]; omega, fun c4 H33 s33 e33 => ?_⟩
      have S2833 := (S2831.trans s32).trans s33
      refine ⟨o, _, _, rfl, rfl, S2833 _ _ e28, small1000 (by simp), ?_⟩
      have o33 := S2833 _ _ e28
      have e34 : (upd H33 o (.lst ([V.ref g', .non, .int 7, .str "m.f", .ref lv, .ref c1, .ref c2] ++ [.ref c3] ++ [.ref c4]))) o = some (.lst ([V.ref g', .non, .int 7, .str "m.f", .ref lv, .ref c1, .ref c2] ++ [.ref c3] ++ [.ref c4])) := upd_same
      have to34 : ∀ b ob, b ≠ o → H33 b = some ob → (upd H33 o (.lst ([V.ref g', .non, .int 7, .str "m.f", .ref lv, .ref c1, .ref c2] ++ [.ref c3] ++ [.ref c4]))) b = some ob := fun b ob nb e => by rw [upd_ne nb]; exact e
      have Sy : Same H20 (upd H33 o (.lst ([V.ref g', .non, .int 7, .str "m.f", .ref lv, .ref c1, .ref c2] ++ [.ref c3] ++ [.ref c4]))) := fun b ob e => to34 b ob (ne_of_none e n21) (S2833 _ _ (Sx _ _ e))
      have ntup : ∀ b xs, H33 b = some (.tup xs) → b ≠ o := fun b xs e z => by
        rw [z, o33] at e
        cases e
      have ec3' := to34 _ _ (ntup _ _ (S2833 _ _ ec3)) (S2833 _ _ ec3)
      have em1' : (upd H33 o (.lst ([V.ref g', .non, .int 7, .str "m.f", .ref lv, .ref c1, .ref c2] ++ [.ref c3] ++ [.ref c4]))) m1 = some (.lst [.str "m.f"]) := to34 _ _ nm1 (S2833 _ _ em28)
      have ec4' := to34 _ _ (ntup _ _ e33) e33
      have pw' : Paired (Made cS (upd H33 o (.lst ([V.ref g', .non, .int 7, .str "m.f", .ref lv, .ref c1, .ref c2] ++ [.ref c3] ++ [.ref c4])))) (gs'.take (kk + 1)) ws := Paired.mono (fun g0 y0 m0 => by
        obtain ⟨r0, ey, er⟩ := m0
        have er33 := ((s31.trans s32).trans s33) _ _ er
        refine ⟨r0, ey, to34 _ _ (fun z => ?_) er33⟩
        rw [z, o33] at er33
        have e : HO.lst ([V.ref g', .non, .int 7, .str "m.f", .ref lv, .ref c1, .ref c2] ++ [.ref c3]) = cS g0 := Option.some.inj er33
        have e : [V.ref g', .non, .int 7, .str "m.f", .ref lv, .ref c1, .ref c2] ++ [.ref c3] = g0.map V.str := by injection e
        cases g0 with
        | nil => cases e
        | cons b q => cases e) pw
      generalize hH34 : (upd H33 o (.lst ([V.ref g', .non, .int 7, .str "m.f", .ref lv, .ref c1, .ref c2] ++ [.ref c3] ++ [.ref c4]))) = H34 at e34 Sy ec3' em1' ec4' pw' ⊢
      clear to34 ntup
      have S34 := S1420.trans Sy
      have et34 := S34 _ _ et14
      have egv34 := S34 _ _ egv14
      have en34 := S34 _ _ en14
      have pz34 := mades pz14 S34
      have G34 : GsAt H34 g' gs' := GsAt.mono ⟨ys, eys, pys⟩ S34
      have pI := ia_made pz34
      have S1520 := (((s16.trans s17).trans s18).trans s19).trans s20
      have ttd : tot ((ofG gs').take kk) + tot ((ofG gs').drop kk) = tot (ofG gs') := by rw [← tot_app, List.take_append_drop]
      have O0 : OtP N H34 (.ref g') := .inl (.inr (.inr (.inr ⟨g', ys, rfl, S34 _ _ eys⟩)))
      have O1 : OtP N H34 .non := .inl (.inl rfl)
      have O2 : OtP N H34 (.int 7) := .inl (.inr (.inl ⟨7, rfl⟩))
      have O3 : OtP N H34 (.str "m.f") := .inl (.inr (.inr (.inl ⟨"m.f", rfl⟩)))
      have O4 : OtP N H34 (.ref lv) := .inl (.inr (.inr (.inr ⟨lv, zs, rfl, Sy _ _ (S1520 _ _ e15)⟩)))
      have O5 : OtP N H34 (.ref c1) := .inr ⟨c1, _, none :: ofG gs', rfl, Sy _ _ (((s18.trans s19).trans s20) _ _ e17), .cons (show NoT H34 V.non from .inl rfl) pI, by rw [List.length_cons]; omega, fun x hx => by
        rcases List.mem_cons.mp hx with h | h
        · cases h
        · exact fl_ofG ok8 x h, (show tot ([none] ++ ofG gs') < 64 by rw [tot_app]; show 0 + _ < 64; omega), .inl (isP_none (List.mem_cons_self ..))⟩
      have O6 : OtP N H34 (.ref c2) := .inr ⟨c2, _, ofG gs' ++ [some [.int 7]], rfl, Sy _ _ e20, pr_app pI (.cons ⟨q7, rfl, Sy _ _ ((s19.trans s20) _ _ e18)⟩ .nil), by rw [List.length_append, List.length_singleton]; omega, fun x hx => by
        rcases List.mem_append.mp hx with h | h
        · exact fl_ofG ok8 x h
        · have e : x = [V.int 7] := Option.some.inj (List.mem_singleton.mp h)
          subst e
          intro y hy
          rw [List.mem_singleton.mp hy]
          exact .inr ⟨7, rfl⟩, (by rw [tot_app]; show _ + 1 < 64; omega), .inl (isP_int (List.mem_append_right _ (List.mem_singleton.mpr rfl)))⟩
      have O7 : OtP N H34 (.ref c3) := .inr ⟨c3, _, ((ofG gs').take kk ++ [none]) ++ (ofG gs').drop kk, rfl, ec3', pr_app (pr_app (pr_take kk pI) (.cons (show NoT H34 (.ref m1) from .inr (.inr (.inr ⟨m1, _, rfl, em1'⟩))) .nil)) (pr_drop kk pI), by simp only [List.length_append, List.length_take, List.length_drop, List.length_singleton]; omega, fun x hx => by
        rcases List.mem_append.mp hx with h | h
        · rcases List.mem_append.mp h with h | h
          · exact fl_ofG ok8 x (List.mem_of_mem_take h)
          · cases List.mem_singleton.mp h
        · exact fl_ofG ok8 x (List.mem_of_mem_drop h), (by rw [tot_app, tot_app]; show _ + 0 + _ < 64; omega), .inl (isP_none (List.mem_append_left _ (List.mem_append_right _ (List.mem_singleton.mpr rfl))))⟩
      have O8 : OtP N H34 (.ref c4) := .inr ⟨c4, _, ((gs'.take (kk + 1)).map fun _ => none) ++ (ofG gs').drop (kk + 1), rfl, ec4', pr_app (ia_none pw') (pr_drop (kk + 1) pI), by simp only [List.length_append, List.length_map, List.length_take, List.length_drop]; omega, fun x hx => by
        rcases List.mem_append.mp hx with h | h
        · obtain ⟨_, _, e⟩ := List.mem_map.mp h
          cases e
        · exact fl_ofG ok8 x (List.mem_of_mem_drop h), (by
          have t1 : tot ((ofG gs').take (kk + 1)) + tot ((ofG gs').drop (kk + 1)) = tot (ofG gs') := by rw [← tot_app, List.take_append_drop]
          rw [tot_app, tot_none]
          omega), (by
          cases hg : gs' with
          | nil =>
            rw [hg] at lzs lws
            have z0 : zs = [] := List.length_eq_zero_iff.mp lzs
            have w0 : ws = [] := List.length_eq_zero_iff.mp (by rw [lws]; rfl)
            cases hN : N with
            | nil => exact .inr ⟨rfl, by rw [z0, w0, List.drop_nil]; rfl⟩
            | cons x r => exact .inl (by show isP (x :: r) (List.drop (kk + 1) []) = false; rw [List.drop_nil]; rfl)
          | cons x r => exact .inl (isP_none (List.mem_append_left _ (List.mem_cons_self ..))))⟩
      have hall : ∀ x ∈ [V.ref g', .non, .int 7, .str "m.f", .ref lv, .ref c1, .ref c2] ++ [.ref c3] ++ [.ref c4], OtP N H34 x := fun x hx => by
        have hx : x = V.ref g' ∨ x = .non ∨ x = .int 7 ∨ x = .str "m.f" ∨ x = .ref lv ∨ x = .ref c1 ∨ x = .ref c2 ∨ x = .ref c3 ∨ x = .ref c4 := by simpa using hx
        rcases hx with h | h | h | h | h | h | h | h | h <;> rw [h] <;> assumption
      clear O0 O1 O2 O3 O4 O5 O6 O7 O8
      refine ⟨.ref o, rfl, o, rfl, ⟨_, SqL.of e34⟩, for_list (xs := [V.ref g', .non, .int 7, .str "m.f", .ref lv, .ref c1, .ref c2] ++ [.ref c3] ++ [.ref c4]) (fun i σ H' => ∃ v11, σ = [some (.ref a), some (.ref p), some (.ref n), some (.int (1 + (m : Int))), some (.ref g'), v5, some (.bl (isR N gs')), some (.ref t1), some (.ref gv), some (.int kk), some (.ref o), v11, none, none] ∧ Same H34 H') ⟨none, rfl, Same.refl _⟩ (fun _ _ _ _ ⟨_, _, sq⟩ => SqL.of (sq _ _ e34)) ?t3 ?d3⟩
      case t3 =>
        rintro i x σ H' hx ⟨v11, rfl, sq⟩
        rcases (hall x (List.mem_of_getElem? hx)).mono sq with nt | ⟨tt, xs, es, rfl, h, pp, ll, ff, to, hb⟩
        · exact ⟨.ref gv, rfl, x, rfl, gv, x, N, rfl, .inl (.inl (sq _ _ egv34)), srt, okN, .inl ⟨nt, false, false, rfl, rfl, _, rfl, iteF (iteF ⟨_, rfl, sq⟩)⟩⟩
        · refine ⟨.ref gv, rfl, .ref tt, rfl, gv, .ref tt, N, rfl, .inl (.inl (sq _ _ egv34)), srt, okN, .inr ⟨tt, xs, es, rfl, h, pp, ll, ff, to, fun H2 s2 => ⟨isP N es, false, rfl, rfl, _, rfl, ?_⟩⟩⟩
          cases hi : isP N es with
          | false => exact iteF (iteF ⟨_, rfl, sq.trans s2⟩)
          | true =>
            rcases hb with hb | ⟨hN, hX⟩
            · rw [hi] at hb
              cases hb
            · refine iteT ⟨.ref n, rfl, by simp, fun n0 H3 s3 n3 e3 => ⟨.list (N.map PyData.str), .list [], dp_list (SqL.of (s3 _ _ (s2 _ _ (sq _ _ en34)))), .lst (SqL.of e3) .nil, shaped_txs N okN, by decide +kernel, _, rfl, ?_⟩⟩
              rw [show PyData.eqv (.list (N.map PyData.str)) (.list []) = true by rw [hN]; simp [PyData.eqv, PyData.eqvAll]]
              refine iteT ⟨.ref tt, rfl, by simp, fun n1 H4 s4 n4 e4 => ⟨.tuple [], .tuple [], .tup (.inl (.inl (s4 _ _ (s3 _ _ (s2 _ _ h))))) (by rw [hX]; exact .nil), .tup (.inl (.inl e4)) .nil, by decide +kernel, by decide +kernel, _, rfl, ?_⟩⟩
              rw [show PyData.eqv (.tuple []) (.tuple []) = true by simp [PyData.eqv, PyData.eqvAll]]
              exact iteF ⟨_, rfl, ((sq.trans s2).trans s3).trans s4⟩
      case d3 =>
        rintro σ H' ⟨v11, rfl, sq⟩
        refine ⟨.ref gv, rfl, .ref t1, rfl, gv, .ref t1, N, rfl, .inl (.inl (sq _ _ egv34)), srt, okN, .inr ⟨t1, zs, ofG gs', rfl, sq _ _ et34, ia_made (mades pz34 sq), by omega, fl_ofG ok8, by omega, fun H36 s36 => ?_⟩⟩
        rw [right_eq Nnd Nne]
        refine ⟨.bl (isR N gs'), rfl, .bool (isR N gs'), .bool (isR N gs'), .bl _, .bl _, rfl, rfl, _, rfl, ?_⟩
        rw [show (PyData.eqv (.bool (isR N gs')) (.bool (isR N gs'))) = true by cases isR N gs' <;> rfl]
        have S36 := sq.trans s36
        refine iteT ⟨.ref g', rfl, .ref t1, rfl, t1, rfl, ⟨_, .inl (.inl (S36 _ _ et34))⟩, fun D4 nD4 => ?_⟩
        refine cn_at (C := cS) (j := 13) (te := tCB (rListS K) (tCons (tVar 13) tNil)) (H1 := H36) (σ := [some (.ref a), some (.ref p), some (.ref n), some (.int (1 + (m : Int))), some (.ref g'), v5, some (.bl (isR N gs')), some (.ref t1), some (.ref gv), some (.int kk), some (.ref o), v11, none, none]) nD4 zs gs' (runs_tup (.inl (.inl (S36 _ _ et34)))) (by omega) (by show 13 < 14; decide) lzs.symm (fun i x ob τ H2 Q' hx ho s2 hτ k => ?_) fun H37 ws2 s37 eD4 pw2 => ?_
        · obtain ⟨g0, hg0, rg0, rfl, eg0⟩ := made_at (mades pz34 S36) hx
          have e0 : ob = g0 := Option.some.inj (ho.symm.trans hg0)
          subst e0
          exact ⟨.ref rg0, hτ, rg0, _, rfl, .inr (.inl (.inl (s2 _ _ eg0))), fun l H3 s3 n3 e3 => k H3 l s3 n3 e3⟩
        · refine ⟨dG gs', dG gs', (G34.mono (S36.trans s37)).dp, GsAt.dp ⟨ws2, eD4, pw2⟩, shaped_dG ok8, shaped_dG ok8, ?_⟩
          rw [eqv_refl]
          exact q _
end
end BL

set_option Elab.async false
set_option linter.all false
set_option maxRecDepth 100000
set_option maxHeartbeats 8000000
namespace BL
open PySem PySem.Spec PyProof.Rows L2 FS IP
theorem all_mk {l : PySem.W.OpenLaw} {w : World} {K : PySem.W.Frag} {h : Heap} {mg : Str → Option Value} {fa fI fL fD fG fB fR fW : Addr} (X : K.In h) (G : h.Ns mainGlobals mg) (hfa : mg "law" = some (.ref fa))
    {ocI kVI dcI pmI cdI ctI : Value} {odI anI : Option Addr} {slI : Array (Option Value)}
    {ocL kVL dcL pmL cdL ctL : Value} {odL anL : Option Addr} {slL : Array (Option Value)}
    {ocD kVD dcD pmD cdD ctD : Value} {odD anD : Option Addr} {slD : Array (Option Value)}
    {ocG kVG dcG pmG cdG ctG : Value} {odG anG : Option Addr} {slG : Array (Option Value)}
    {ocB kVB dcB pmB cdB ctB : Value} {odB anB : Option Addr} {slB : Array (Option Value)}
    {ocR kVR dcR pmR cdR ctR : Value} {odR anR : Option Addr} {slR : Array (Option Value)}
    {ocW kVW dcW pmW cdW ctW : Value} {odW anW : Option Addr} {slW : Array (Option Value)}
    (zisinstance : PySem.W.nsIn K mainGlobals "isinstance" = some none)
    (ztuple : PySem.W.nsIn K mainGlobals "tuple" = some none)
    (zstr : PySem.W.nsIn K mainGlobals "str" = some none)
    (zlen : PySem.W.nsIn K mainGlobals "len" = some none)
    (zall : PySem.W.nsIn K mainGlobals "all" = some none)
    (zsorted : PySem.W.nsIn K mainGlobals "sorted" = some none)
    (zlist : PySem.W.nsIn K mainGlobals "list" = some none)
    (zmax : PySem.W.nsIn K mainGlobals "max" = some none)
    (zrange : PySem.W.nsIn K mainGlobals "range" = some none)
    (zreversed : PySem.W.nsIn K mainGlobals "reversed" = some none)
    (zint : PySem.W.nsIn K mainGlobals "int" = some none)
    (aI : PySem.W.nsIn K mainGlobals "is_partition" = some (some (.ref fI)))
    (lI : K.lookup fI = some ⟨ocI, odI, .func (PySem.W.fnOf "is_partition" "is_partition" (defArgs TopL.sPart) (defBody TopL.sPart) (defScope TopL.sPart) .none kVI dcI pmI anI cdI ctI), slI⟩) (cI : PySem.W.codeIn K cdI "is_partition" = true) (kI : PySem.W.keepIn K (.ref fI) = true)
    (aL : PySem.W.nsIn K mainGlobals "_law_left" = some (some (.ref fL)))
    (lL : K.lookup fL = some ⟨ocL, odL, .func (PySem.W.fnOf "_law_left" "_law_left" (defArgs TopL.sLeft) (defBody TopL.sLeft) (defScope TopL.sLeft) .none kVL dcL pmL anL cdL ctL), slL⟩) (cL : PySem.W.codeIn K cdL "_law_left" = true) (kL : PySem.W.keepIn K (.ref fL) = true)
    (aD : PySem.W.nsIn K mainGlobals "_law_draw" = some (some (.ref fD)))
    (lD : K.lookup fD = some ⟨ocD, odD, .func (PySem.W.fnOf "_law_draw" "_law_draw" (defArgs TopL.sDraw) (defBody TopL.sDraw) (defScope TopL.sDraw) .none kVD dcD pmD anD cdD ctD), slD⟩) (cD : PySem.W.codeIn K cdD "_law_draw" = true) (kD : PySem.W.keepIn K (.ref fD) = true)
    (aG : PySem.W.nsIn K mainGlobals "_law_part" = some (some (.ref fG)))
    (lG : K.lookup fG = some ⟨ocG, odG, .func (PySem.W.fnOf "_law_part" "_law_part" (defArgs TopL.sGroup) (defBody TopL.sGroup) (defScope TopL.sGroup) .none kVG dcG pmG anG cdG ctG), slG⟩) (cG : PySem.W.codeIn K cdG "_law_part" = true) (kG : PySem.W.keepIn K (.ref fG) = true)
    (aB : PySem.W.nsIn K mainGlobals "_law_bent" = some (some (.ref fB)))
    (lB : K.lookup fB = some ⟨ocB, odB, .func (PySem.W.fnOf "_law_bent" "_law_bent" (defArgs TopL.sBent) (defBody TopL.sBent) (defScope TopL.sBent) .none kVB dcB pmB anB cdB ctB), slB⟩) (cB : PySem.W.codeIn K cdB "_law_bent" = true) (kB : PySem.W.keepIn K (.ref fB) = true)
    (aR : PySem.W.nsIn K mainGlobals "_law_is_right" = some (some (.ref fR)))
    (lR : K.lookup fR = some ⟨ocR, odR, .func (PySem.W.fnOf "_law_is_right" "_law_is_right" (defArgs TopL.sRight) (defBody TopL.sRight) (defScope TopL.sRight) .none kVR dcR pmR anR cdR ctR), slR⟩) (cR : PySem.W.codeIn K cdR "_law_is_right" = true) (kR : PySem.W.keepIn K (.ref fR) = true)
    (aW : PySem.W.nsIn K mainGlobals "law" = some (some (.ref fW)))
    (lW : K.lookup fW = some ⟨ocW, odW, .func (PySem.W.fnOf "law" "law" (defArgs TopL.sLaw) (defBody TopL.sLaw) (defScope TopL.sLaw) .none kVW dcW pmW anW cdW ctW), slW⟩) (cW : PySem.W.codeIn K cdW "law" = true) (kW : PySem.W.keepIn K (.ref fW) = true)
    : ∃ fd : FuncData, (∀ (s : Shared) (v : Value), BindsTo s fd ⟨[v], []⟩ [("_law_script", v)]) ∧ ∀ base : Heap, K.In base → base.Ns mainGlobals mg → FnOk l.prog w K mg base CX0 3 fa fd ["_law_script"] (spLaw K) := by
  have e := hfa.symm.trans (PySem.W.mg_of X G aW)
  cases e
  have FI := fun_mk (st := TopL.sPart) lI cI kI
  have bI := FI.binds (ps := ["pieces", "value"]) fun _ _ _ _ _ _ us hl => match us, hl with | [_, _], _ => rfl
  have FL := fun_mk (st := TopL.sLeft) lL cL kL
  have bL := FL.binds (ps := ["_law_script"]) fun _ _ _ _ _ _ us hl => match us, hl with | [_], _ => rfl
  have FD := fun_mk (st := TopL.sDraw) lD cD kD
  have bD := FD.binds (ps := ["_law_left_here", "_law_most"]) fun _ _ _ _ _ _ us hl => match us, hl with | [_, _], _ => rfl
  have FG := fun_mk (st := TopL.sGroup) lG cG kG
  have bG := FG.binds (ps := ["_law_names", "_law_labels"]) fun _ _ _ _ _ _ us hl => match us, hl with | [_, _], _ => rfl
  have FB := fun_mk (st := TopL.sBent) lB cB kB
  have bB := FB.binds (ps := ["_law_left_here", "_law_groups"]) fun _ _ _ _ _ _ us hl => match us, hl with | [_, _], _ => rfl
  have FR := fun_mk (st := TopL.sRight) lR cR kR
  have bR := FR.binds (ps := ["_law_names", "_law_groups"]) fun _ _ _ _ _ _ us hl => match us, hl with | [_, _], _ => rfl
  have FW := fun_mk (st := TopL.sLaw) lW cW kW
  have bW := FW.binds (ps := ["_law_script"]) fun _ _ _ _ _ _ us hl => match us, hl with | [_], _ => rfl
  refine ⟨PySem.W.fnOf "law" "law" (defArgs TopL.sLaw) (defBody TopL.sLaw) (defScope TopL.sLaw) .none kVW dcW pmW anW cdW ctW, fun s v => .of_eq rfl, fun base _ _ => ?_⟩
  have GI : FnOk l.prog w K mg base CX0 1 fI _ ["pieces", "value"] (spPart K) := ok_part FI (PySem.W.mg_none_of X G zisinstance) (PySem.W.mg_none_of X G ztuple) (PySem.W.mg_none_of X G zstr) (PySem.W.mg_none_of X G zlen) (PySem.W.mg_none_of X G zall) (PySem.W.mg_none_of X G zsorted) (PySem.W.mg_none_of X G zlist)
  have GL : FnOk l.prog w K mg base CX0 1 fL _ ["_law_script"] (LD.spLeft K) := LD.ok_left FL (PySem.W.mg_none_of X G zlist) (PySem.W.mg_none_of X G zlen)
  have GD : FnOk l.prog w K mg base CX0 1 fD _ ["_law_left_here", "_law_most"] LD.spDraw := LD.ok_draw FD (PySem.W.mg_none_of X G zlen) (PySem.W.mg_none_of X G zint)
  have GG : FnOk l.prog w K mg base CX0 1 fG _ ["_law_names", "_law_labels"] spGroup := ok_group FG (PySem.W.mg_none_of X G zlen) (PySem.W.mg_none_of X G zrange) (PySem.W.mg_none_of X G zlist)
  have GB : FnOk l.prog w K mg base CX0 2 fB _ ["_law_left_here", "_law_groups"] spBent := ok_bent FB (PySem.W.mg_none_of X G zlen) (PySem.W.mg_none_of X G zmax) (PySem.W.mg_none_of X G zlist) (PySem.W.mg_none_of X G zreversed) GD bD (PySem.W.mg_of X G aD) kD
  have GR : FnOk l.prog w K mg base CX0 1 fR _ ["_law_names", "_law_groups"] spRight := ok_right FR (PySem.W.mg_none_of X G zlen) (PySem.W.mg_none_of X G zsorted)
  exact ok_law FW (PySem.W.mg_none_of X G zsorted) (PySem.W.mg_none_of X G zrange) (PySem.W.mg_none_of X G ztuple) (PySem.W.mg_none_of X G zmax) (PySem.W.mg_none_of X G zlen) (PySem.W.mg_none_of X G zlist) GL bL (PySem.W.mg_of X G aL) kL GD bD (PySem.W.mg_of X G aD) kD GG bG (PySem.W.mg_of X G aG) kG GB bB (PySem.W.mg_of X G aB) kB GR bR (PySem.W.mg_of X G aR) kR GI bI (PySem.W.mg_of X G aI) kI
end BL
open PySem PySem.W PyProof.Rows in
set_option maxRecDepth 100000 in
set_option maxHeartbeats 0 in
theorem PySem.Challenge.cw_foldsame_k50_partitions_holds : PySem.Challenge.rw_foldsame_k50_partitions.Holds := by
  w_on; o_law; k_head; (case hw => w_witness2)
  k_fill
  refine L2.walk_of (l := PySem.Challenge.rw_foldsame_k50_partitions) (n := 63) (k := 3) (x := "_law_script") (CX := fun _ => L2.CX0) (sp := fun w => BL.spLaw _) rfl (by decide) rfl ⟨rfl, by decide, by decide⟩ (fun w h Y => PySem.W.kIn_of Y) ?F (fun _ _ a ns hl _ hS => ⟨a, ns, rfl, hS, hl, fun _ => rfl⟩) (fun _ _ _ _ _ h => h)
  case F =>
    intro w mg fa h KX G hmg
    refine' BL.all_mk KX G hmg ?zisinstance ?ztuple ?zstr ?zlen ?zall ?zsorted ?zlist ?zmax ?zrange ?zreversed ?zint ?aI ?lI ?cI ?kI ?aL ?lL ?cL ?kL ?aD ?lD ?cD ?kD ?aG ?lG ?cG ?kG ?aB ?lB ?cB ?kB ?aR ?lR ?cR ?kR ?aW ?lW ?cW ?kW
    (case zisinstance => k_is)
    (case ztuple => k_is)
    (case zstr => k_is)
    (case zlen => k_is)
    (case zall => k_is)
    (case zsorted => k_is)
    (case zlist => k_is)
    (case zmax => k_is)
    (case zrange => k_is)
    (case zreversed => k_is)
    (case zint => k_is)
    (case aI => k_is)
    (case lI => k_is)
    (case cI => k_is)
    (case kI => k_is)
    (case aL => k_is)
    (case lL => k_is)
    (case cL => k_is)
    (case kL => k_is)
    (case aD => k_is)
    (case lD => k_is)
    (case cD => k_is)
    (case kD => k_is)
    (case aG => k_is)
    (case lG => k_is)
    (case cG => k_is)
    (case kG => k_is)
    (case aB => k_is)
    (case lB => k_is)
    (case cB => k_is)
    (case kB => k_is)
    (case aR => k_is)
    (case lR => k_is)
    (case cR => k_is)
    (case kR => k_is)
    (case aW => k_is)
    (case lW => k_is)
    (case cW => k_is)
    (case kW => k_is)
