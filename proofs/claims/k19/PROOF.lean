import PyProof.Rows.All
import Wide.All
import OpenK.AllK
import Wide.FinOn
import HandS.ForMost
import HandS.Exc
import HandS.ExcInit
import HandS.ExcIs
import HandS.ExcField
import PyProof.ReprReads
import HandS.NoneIn
import HandS.Flow
import HandS.IsInst
import HandS.Walk
import HandS.More
import HandS.Text
import KE.GoesEnum
import HandS.Star
import HandS.Conv
import KE.KDictSum
import HandS.WordsExc
import HandS.DictComp
import PyProof.TupleOfSeq
import PyProof.Rows.SortStr
import HandS.SetFor
import HandS.IterVal
import KE.KOwnIter
import HandS.Rev
import HandS.GenList
import HandS.ExcValue
import PyProof.ListNew
import HandS.TupAny
import OpenK.KMeth
import OpenK.KOps
import HandS.Strs
import HandS.SetKeys
import HandS.Defaults
import HandS.OwnEq
import PyProof.InstNe
import HandS.DeepEq
import KE.KEqDict
import PySem.Challenge.RW_foldsame_k19_known_names
set_option Elab.async false
set_option linter.all false
set_option maxRecDepth 100000
set_option maxHeartbeats 4000000
/-! Own rules: exceptions of own classes as values (made, read, asked by isinstance), repr of lists of plain values. -/
namespace PySem.W
open PySem PySem.Spec PySem.Calls PyProof.Rows
section
variable {prog : Program} {w : World} {A : Around} {E : Value → Shared → Prop} {s : Shared} {K : Frag} {x D : Addr} {ox : Obj} {od : Option Obj}
theorem fs_findClass (hdct : hasDictIn K D = true) (ha : findIn K (.ref D) "__class__" = some (some (.builtin "object.__class__"))) (hn : specialIn K (.builtin "object.__class__") "__get__" = some (some (.builtin "getset_descriptor.__get__")))
    (htk : takesIn K (.builtin "object.__class__") = some true) : findObj K D od "__class__" = some (.bind (.builtin "getset_descriptor.__get__") (.builtin "object.__class__")) := by
  obtain ⟨cd, hcd, _⟩ := any_some hdct
  unfold findObj; rw [hcd, Option.bind_some, ha, Option.bind_some]; simp [hn, htk]
theorem fs_class {Q : Option Value → Shared → Prop} (hga : findIn K (.ref D) "__getattribute__" = some (some (.builtin "BaseException.__getattribute__"))) (hgt : findIn K (.ref D) "__getattr__" = some none) (hsub : subIn K (.ref D) (.type "BaseException") = some true)
    (hdct : hasDictIn K D = true) (ha : findIn K (.ref D) "__class__" = some (some (.builtin "object.__class__")))
    (hn : specialIn K (.builtin "object.__class__") "__get__" = some (some (.builtin "getset_descriptor.__get__"))) (htk : takesIn K (.builtin "object.__class__") = some true) (hm : mroIn K D (.type "object") = some true)
    (KX : K.In s.heap) (J : InstAt s.heap x ox D od) (hq : Q (some (.ref D)) { s with toks := s.toks + 1 }) : wpAny (model prog w) A (getAttr? (.ref x) "__class__") Q E s := by
  have hfind : findObj K D od "__class__" = some (.bind (.builtin "getset_descriptor.__get__") (.builtin "object.__class__")) := fs_findClass hdct ha hn htk
  obtain ⟨hp, gg, dd, tt, oo⟩ := s
  have M0 := J.type (M := model prog w); have M1 := looks_findIn (M := model prog w) KX hga
  have M2 := looks_findIn (M := model prog w) KX hgt; have M3 := looks_find (M := model prog w) KX J hfind
  have hisB : Looks (model prog w) hp (isInstance (.ref x) (.type "BaseException")) true := M0.andThen (looks_subIn KX hsub)
  have e0 : (false && onTheHeap (Value.builtin "BaseException.__getattribute__")) = false := rfl
  have e2 : (Value.builtin "BaseException.__getattribute__" == Value.builtin "object.__getattribute__") = false := by decide +kernel
  have e1 : (onTheHeap (Value.ref D) && Value.builtin "BaseException.__getattribute__" == Value.builtin "object.__getattribute__") = false := by rw [e2] <;> rfl
  unfold getAttr? getAttrBy? getAttrBy
  refine wpAny_bind (wpAny_mkText (wpAny_bind (wpAny_attempt (wpAny_holding (wpAny_bind (M0.at (wpAny_bind (M1.at ?_))))))))
  show wpAny _ _ (if (onTheHeap (Value.ref D) && Value.builtin "BaseException.__getattribute__" == Value.builtin "object.__getattribute__") = true then _ else _) _ _ _
  rw [e1, if_neg Bool.false_ne_true]; unfold getAttrByItsOwn hookBefore
  refine wpAny_bind ?_
  rw [if_pos (show onTheHeap (Value.ref D) = true from rfl)]; refine M2.at ?_
  refine wpAny_bind (wpAny_attempt (wpAny_holding ?_)); unfold callGetattribute
  rw [e0, if_neg Bool.false_ne_true]; unfold boundAndCalled
  rw [PySem.F.excAttr_ValueError.ga.bind (.ref x)]; refine wpAny_bind (wpAny_pure ?_)
  show wpAny _ _ (call (.builtin "BaseException.__getattribute__") [.ref x, .str "__class__" tt]) _ _ _
  refine wpAny_call (codeAny_call_builtin PySem.F.excAttr_ValueError.ga.plain PySem.F.entry_bexc_ga ?_)
  refine @check_slot (model prog w) _ _ ⟨hp, gg, dd, tt + 1, oo⟩ "BaseException.__getattribute__" "BaseException" "__getattribute__" (.ref x) [.str "__class__" tt] [] _ (by decide +kernel) (by decide +kernel) hisB (PySem.F.args_bexc_ga (.ref x) (.str "__class__" tt)) ?_
  unfold Builtin.«object.__getattribute__»
  refine wpAny_bind (wpAny_of_eq (a := ((Value.ref x : Value), [Value.str "__class__" tt])) (by first | rfl | (simp only [slotArgs]; rfl)) ?_)
  refine wpAny_bind (wpAny_pure (wpAny_bind (M0.at (wpAny_bind (M3.at ?_)))))
  show wpAny _ _ (holding [Value.builtin "object.__class__"] (call (.builtin "getset_descriptor.__get__") [.builtin "object.__class__", .ref x, .ref D]) >>= ret) _ _ _
  refine wpAny_bind (wpAny_holding (wpAny_call (class_get (s := ⟨hp, gg, dd, tt + 1, oo⟩) (ox := ox) (od := od) KX J hm ?_))); refine wpAny_pure ?_
  show wpAny _ _ (handedOut (.ref D)) _ _ _
  rw [handedOut_of (v := .ref D) rfl]
  first | exact wpAny_pure (wpAny_pure hq) | exact wpAny_pure hq | exact wpAny_pure (wpAny_bind (wpAny_pure (wpAny_pure hq)))
theorem fs_kitx (hga : findIn K (.ref D) "__getattribute__" = some (some (.builtin "BaseException.__getattribute__"))) (hgt : findIn K (.ref D) "__getattr__" = some none) (hsub : subIn K (.ref D) (.type "BaseException") = some true) (hdct : hasDictIn K D = true) (ha : findIn K (.ref D) "__class__" = some (some (.builtin "object.__class__")))
    (hn : specialIn K (.builtin "object.__class__") "__get__" = some (some (.builtin "getset_descriptor.__get__"))) (htk : takesIn K (.builtin "object.__class__") = some true) (hm : mroIn K D (.type "object") = some true) :
    KitX K (.ref x) (.ref D) (fun h => ∃ ox od, InstAt h x ox D od) where
  ty := fun _ _ _ ⟨_, _, J⟩ => J.type
  it := fun _ _ KX _ => by
    obtain ⟨cc, hcc, _⟩ := any_some hdct
    unfold clsIn at hcc
    split at hcc
    · rename_i hlook
      intro A1 Q1 E1 s1 kk qq; unfold isType loadHead
      exact wpAny_bind (wpAny_loadPart (kk _ _ (KX _ _ hlook)) (wpAny_pure qq))
    · cases hcc
  ne := fun hh tp dd its nn sl KX htp => by
    obtain ⟨cc, hcc, _⟩ := any_some hdct
    refine Bool.eq_false_iff.mpr fun qq => ?_
    have eD : D = tp := Value.ref.inj (beq_iff_eq.mp qq)
    subst eD; unfold clsIn at hcc
    split at hcc
    · rename_i hlook
      have zz := (KX _ _ hlook).symm.trans htp; cases zz
    · cases hcc
  ca := fun KX ⟨_, _, J⟩ kk => fs_class hga hgt hsub hdct ha hn htk hm KX J kk
end
end PySem.W
namespace FS
open PySem PySem.Spec PyProof.Rows L2
/-! ### made -/
/-- C(e, ..) as a value, C's own __init__ keeping sp -/
def tMkV (C : Addr) (sp : Sp) (dvs : List V) (ta : TA) : TE := fun σ H Q => ta σ H fun vs H1 => vs.length ≤ 1000 ∧ ∀ a, H1 a = none →
  sp (.ref a :: (vs ++ dvs)) (upd H1 a (exo a C none)) (fun v H2 => v = .non ∧ Q (.ref a) H2) (fun _ _ _ => False)
section
variable {X : Cx} {e : Expr} {es : List Expr} {te : TE} {ta : TA} {p pos : Pos}
theorem pe_mkV {CX : CXT} {x : Str} {C fI : Addr} {k : Nat} {fd : FuncData} {ps : List Str} {sp : Sp} {ds : List Value} {dvs : List V} (T : OexC X.K C) (iC : PySem.W.findIn X.K (.ref C) "__init__" = some (some (.ref fI))) (tI : PySem.W.typeIn X.K (.ref fI) = some (.type "function"))
    (F1 : FnOk X.prog X.w X.K X.mg X.base CX k fI fd ps sp) (hr : Room (k + 1) X.A) (hb : Binds X.K fd ps ds) (hd : Vals dvs ds) (hx : Passes CX X (fun _ _ _ => False)) (hg : Gl X x) (hm : X.mg x = some (.ref C)) (ha : PA X (e :: es) ta)
    (hdb : (x == ("__debug__" : Str)) = false := by decide) (he : starEach (e :: es) X.env = (false, eval e X.env) :: starEach es X.env := by rfl) (hpl : (backTo pos (starEach es X.env)).any (·.1) = false := by rfl) :
    PE X (.Call (.Name x p) (e :: es) [] pos) (tMkV C sp dvs ta) := by
  refine ⟨fun pins st0 σ H Q I h => ?_⟩
  obtain ⟨nm, q, N, bs, bm, sn, sub, ab, col, dd, k0, k1, k2, k3, k5, hC, hbm⟩ := T.cls
  refine wpAny_Call_Name_kw (ld_glob I hg hm ?_ hdb)
  refine PySem.W.callWith_K (h₀ := X.base) I.ok.mod.kin T.kC (thn (ha.run pos pins st0 σ H _ I h) fun us s1 ⟨vs, H1, I1, r1, hz, q1⟩ => ⟨I1.kIn, ?_⟩) he hpl
  show wpAny _ _ (call (.ref C) us) _ _ _
  obtain ⟨hp, g, dr, tk, os⟩ := s1
  have hsz1 : hp.objs.size ≤ hp.objs.size + 1 := Nat.le_succ _
  have hn1 : H1 (hp.objs.size + 1) = none := I1.hok.fresh hsz1
  have hq1 := q1 (hp.objs.size + 1) hn1
  have kk1 : ∀ b o, hp.get? b = some o → ((hp.push (PySem.W.kdv_tup us)).push (PySem.HandSPX.excO C hp.objs.size)).get? b = some o := fun b o eo => Heap.get?_push_of_some _ (Heap.get?_push_of_some _ eo)
  have hget1 : ((hp.push (PySem.W.kdv_tup us)).push (PySem.HandSPX.excO C hp.objs.size)).get? (hp.objs.size + 1) = some (PySem.HandSPX.excO C hp.objs.size) := by heap_get
  have J2 : Inv X pins σ (upd H1 (hp.objs.size + 1) (exo (hp.objs.size + 1) C none)) ⟨(hp.push (PySem.W.kdv_tup us)).push (PySem.HandSPX.excO C hp.objs.size), g, dr, tk, os⟩ :=
    I1.laid (t' := tk) (a := hp.objs.size + 1) (o := exo (hp.objs.size + 1) C none) (h' := (hp.push (PySem.W.kdv_tup us)).push (PySem.HandSPX.excO C hp.objs.size)) kk1 hsz1 (exo_ok hget1)
  have rr2 : Vals (V.ref (hp.objs.size + 1) :: (vs ++ dvs)) (Value.ref (hp.objs.size + 1) :: (us ++ ds)) := .cons rfl (r1.append hd)
  have hl1 : (Value.ref (hp.objs.size + 1) :: us ++ ds).length = ps.length := by
    have e9 := rr2.length
    rw [F1.len _ _ _ _ hq1] at e9; exact e9.symm
  have hus1 : us.length ≤ sizeLine := by
    rw [← Paired.length r1, sizeLine_eq]; omega
  refine wpAny_call (PySem.HandSPX.call_own F.excBase_ValueError (fun Y => PySem.HandSPX.refsVE_contains Y bm hbm) (I1.kIn _ _ hC) (PySem.W.looks_findIn I1.kIn iC) (fun self => PySem.W.bind_fn I1.kIn self tI) hus1
    (codeAny_mono (F1.run _ X.stack _ _ ⟨Value.ref (hp.objs.size + 1) :: us, []⟩ (Value.ref (hp.objs.size + 1) :: (us ++ ds)) _ _ (fun _ _ _ => False) (hr.make C us []) (J2.env0.make C us []) (hb _ (Value.ref (hp.objs.size + 1) :: us) J2.kIn hl1) rr2 hq1) fun r s' hq' => ?_))
  cases r with
  | error er => exact hx pins σ _ _ er s' J2 hq'
  | ok fl =>
    cases fl with
    | ret u =>
      obtain ⟨v, H2, os2, bare2, un2, hok2, rv, ev, q2⟩ := hq'
      subst ev
      exact ⟨rv, .ref (hp.objs.size + 1), H2, J2.call' (ch := []) os2 un2 hok2 bare2 (fun b z => absurd z (by simp)), rfl, q2⟩
    | next => exact False.elim hq'
    | brk => exact False.elim hq'
    | cont => exact False.elim hq'
/-! ### read -/
def tXo (K : PySem.W.Frag) (f : Str) (te : TE) : TE := fun σ H Q => te σ H fun x H1 => ∃ (a C dd : Addr) (fs : List (Str × V)) (v : V), x = .ref a ∧ H1 a = some (exo a C (some dd)) ∧ H1 dd = some (exd dd fs) ∧ XfC K C ∧ PySem.W.findIn K (.ref C) f = some none ∧ fs.lookup f = some v ∧ Q v H1
theorem pe_xo {n : Str} (he : PE X e te) (hb : attributeBase e n X.env (eval e X.env) = eval e X.env := by rfl) : PE X (.Attribute e n pos) (tXo X.K n te) := by
  refine ⟨fun pins s σ H Q I h => ?_⟩
  refine attr_of hb (thn (he.run pins s σ H _ I h) fun u s1 hh => ?_)
  obtain ⟨x, H1, I1, rx, a, C, dd, fs, v, ex, ea, ed, T, hno, l, q⟩ := hh
  subst ex
  obtain rfl : u = Value.ref a := rx
  obtain ⟨t1, ho⟩ := exo_at I1.hok ea
  obtain ⟨mA, hns, hr⟩ := exd_at I1.hok ed
  obtain ⟨od, hod, hl⟩ := lookIn_ns hns
  obtain ⟨u, hu, ru⟩ := RelO.some_of (v := v) (o := mA n) (by rw [← l]; exact hr n)
  have J : PySem.W.InstAt s1.heap a { cls := .ref C, dict := some dd, data := .fields #[.ref t1, .none, .none, .none, .bool false, .none] } C (some od) := ⟨ho, rfl, rfl, hod⟩
  exact HandSPX.exc_get I1.kIn J T.ga T.gg T.exC (PySem.W.findObj_own T.hdC hno rfl (by rw [hl, hu])) (handed_of ru) ⟨v, H1, I1.tok _, ru, q⟩
end
/-! ### isinstance -/
def rIsO (K : PySem.W.Frag) : List V → Hp → VK → Prop := fun xs H Q => ∃ (a C d : Addr) (fs : List (Str × V)) (c : V) (cv : Value) (b : Bool), xs = [.ref a, c] ∧ H a = some (exo a C (some d)) ∧ H d = some (exd d fs) ∧ ExcC K C ∧ (∀ u, RelV c u → u = cv) ∧ PySem.W.kitOne K (.ref C) cv = some b ∧ Q (.bl b) H
theorem call_isO {X : Cx} : CallR X (.builtin "isinstance") (rIsO X.K) := by
  intro pins s σ H xs us Q I r h
  obtain ⟨a, C, d, fs, c, cv, b, rfl, ea, ed, T, hcv, e, q⟩ := h
  obtain ⟨u1, u2, rfl, r1, r2⟩ := vals2 r
  cases (show u1 = Value.ref a from r1)
  have ec := hcv _ r2
  subst ec
  obtain ⟨t1, ho⟩ := exo_at I.hok ea
  obtain ⟨mA, hns, hr⟩ := exd_at I.hok ed
  obtain ⟨od, hod, hl⟩ := lookIn_ns hns
  have J : PySem.W.InstAt s.heap a { cls := .ref C, dict := some d, data := .fields #[.ref t1, .none, .none, .none, .bool false, .none] } C (some od) := ⟨ho, rfl, rfl, hod⟩
  exact PySem.W.kia_one (PySem.W.fs_kitx T.hg T.hk T.hs T.hd T.ha T.hn T.ht T.hm) I.kIn ⟨_, _, J⟩ e (fun z => nomatch z) fun tk => ⟨.bl b, H, I.tok tk, rfl, q⟩
/-! ### repr of a list of plain values (an empty dict among them, not deeper) -/
inductive Dq (K : PySem.W.Frag) (H : Hp) : V → PyData → Prop
  | dp {v : V} {d : PyData} : Dp K H v d → d.hasDict = false → Dq K H v d
  | emp {a : Addr} : H a = some (.dK []) → Dq K H (.ref a) (.dict [])
inductive DqAll (K : PySem.W.Frag) (H : Hp) : List V → List PyData → Prop
  | nil : DqAll K H [] []
  | cons {v : V} {vs : List V} {d : PyData} {ds : List PyData} : Dq K H v d → DqAll K H vs ds → DqAll K H (v :: vs) (d :: ds)
section
variable {X : Cx} {pins : List (Addr × Obj)} {σ : L2.St} {H : Hp} {s : Shared}
theorem Dq.repr (I : Inv X pins σ H s) {v : V} {d : PyData} {u : Value} (h : Dq X.K H v d) (r : RelV v u) (hs : d.showable = true) (hz : d.shown.length ≤ sizeLine) :
    ∃ as bs, Reads s.heap u d as ∧ ReadAtMost s.heap d.depth bs ∧ ReprK X.prog X.w bs s.heap d.depth u d.shown := by
  cases h with
  | dp h hd =>
    obtain ⟨as, rd⟩ := Dp.reads I d v u h r
    obtain ⟨bs, h1, h2⟩ := ReprK.of_reads (prog := X.prog) (w := X.w) rd hs (PyData.noDict_hsm hd) hz
    exact ⟨as, bs, rd, h1, h2⟩
  | @emp a ea =>
    cases (show u = Value.ref a from r)
    obtain ⟨_, hsm, vs, kv, o, es, ep, h1, h2, h3, _, h4, _⟩ := (show ObjOk X.prog X.w H s.heap a (.dK []) from I.hok a _ ea)
    cases kv
    have e0 : es.toList = [] := by
      cases hq : es.toList with
      | nil => rfl
      | cons x xs =>
        rw [hq] at h4
        first | exact absurd h4 (by simp [Pairs]) | cases h4
    have rd : Reads s.heap (.ref a) (.dict []) (a :: [] ++ []) := .dict (kvs := []) h1 h2.1 h3 (by rw [e0]; exact .nil) (by rw [e0]; exact .nil)
    obtain ⟨bs, q1, q2⟩ := ReprK.of_reads (prog := X.prog) (w := X.w) rd hs (fun _ hm => by
      have : sysModules = a := by simpa using hm
      rw [this] at hsm
      simp at hsm) hz
    exact ⟨_, bs, rd, q1, q2⟩
theorem DqAll.repr (I : Inv X pins σ H s) : ∀ {vs : List V} {ds : List PyData} {us : List Value}, DqAll X.K H vs ds → Vals vs us → PyData.showableAll ds = true → (∀ t ∈ PyData.shownAll ds, t.length ≤ sizeLine) →
    ∃ as bs, ReadsAll s.heap us ds as ∧ ReadAtMost s.heap (PyData.depthAll ds) bs ∧ ReprAllK X.prog X.w bs s.heap (PyData.depthAll ds) us (PyData.shownAll ds)
  | _, _, _, .nil, .nil, _, _ => ⟨[], [], .nil, (fun _ h => nomatch h), by simp only [PyData.shownAll]; exact .nil⟩
  | _, _, _, .cons (d := d) (ds := ds) h hl, .cons r rl, hs, hz => by
    have hs2 : d.showable = true ∧ PyData.showableAll ds = true := by simpa [PyData.showableAll] using hs
    obtain ⟨a1, c1, rd1, q1, k1⟩ := Dq.repr I h r hs2.1 (hz _ (by simp only [PyData.shownAll]; exact List.mem_cons_self ..))
    obtain ⟨a2, c2, rd2, q2, k2⟩ := DqAll.repr I hl rl hs2.2 (fun t ht => hz t (by simp only [PyData.shownAll]; exact List.mem_cons_of_mem _ ht))
    refine ⟨_, c1 ++ c2, .cons rd1 rd2, ?_, ?_⟩
    · simp only [PyData.depthAll]
      exact (q1.mono (Nat.le_max_left _ _)).append (q2.mono (Nat.le_max_right _ _))
    · simp only [PyData.depthAll, PyData.shownAll]
      exact .cons ((k1.more fun b hb => List.mem_append_left _ hb).level_le (Nat.le_max_left _ _)) (k2.more_le (fun b hb => List.mem_append_right _ hb) (Nat.le_max_right _ _))
end
def rReprL (K : PySem.W.Frag) : List V → Hp → VK → Prop := fun xs H Q => ∃ (a : Addr) (v : V) (vs : List V) (ds : List PyData), xs = [.ref a] ∧ H a = some (.lst (v :: vs)) ∧ DqAll K H (v :: vs) ds ∧ PyData.showableAll ds = true ∧ PyData.depthAll ds ≤ 30 ∧
  (listText (PyData.shownAll ds)).length ≤ sizeLine ∧ Q (.str (listText (PyData.shownAll ds))) H
theorem call_reprL {X : Cx} (hg : X.A.guards = some []) (hu : X.A.units + 64 < cLine) : CallR X (.builtin "repr") (rReprL X.K) := by
  intro pins s σ H xs us Q I r h
  obtain ⟨a, v, vs, ds, rfl, ea, hd, hs, hdep, hz, q⟩ := h
  cases r with
  | cons ra rn =>
    cases rn
    rename_i u1
    cases (show u1 = Value.ref a from ra)
    obtain ⟨_, its, n, rv, ho⟩ := (show ObjOk X.prog X.w H s.heap a (.lst (v :: vs)) from I.hok a _ ea)
    cases rv with
    | @cons _ u _ ul r1 r2 =>
      obtain ⟨as, bs, rd, hb, hk⟩ := DqAll.repr I hd (.cons r1 r2) hs (fun t ht => Nat.le_trans (listText_mem_le ht) hz)
      have rr : Reads s.heap (.ref a) (.list ds) (a :: as) := .list ho rfl rfl rd
      have hna : a ∉ bs := not_mem_of_deeper rr (by simp only [PyData.depth]; omega) hb
      refine call_repr_slot (by omega) ⟨_, ho, rfl⟩ F.slot_list_repr.toG ?_
      exact call_list_reprK ho rfl rfl hna (by simpa using hk.length_eq) (fun i y e => hk.item i y (by simpa using e)) hg (fun b _ => Clear.nil b) (by show X.A.units + 1 + _ < cLine; omega) (fun _ _ e => e)
        (fun h' t tk hk' => ⟨_, _, rfl, .str (listText (PyData.shownAll ds)), H, I.kept (t' := tk) hk', ⟨_, rfl⟩, q⟩) hz
end FS

set_option Elab.async false
set_option linter.all false
set_option maxRecDepth 100000
set_option maxHeartbeats 4000000
/-! The law's own def is called where no guard stands: its promise may use that (repr of lists asks it). -/
namespace FS
open PySem PySem.Spec PyProof.Rows L2
structure FnG (P : Program) (w : World) (K : PySem.W.Frag) (mg : Str → Option Value) (base : Heap) (k : Nat) (f : Addr) (fd : FuncData) (ps : List Str) (sp : Sp) : Prop where
  len : ∀ vs H Q E, sp vs H Q E → vs.length = ps.length
  run : ∀ (A : Around) (out1 : List Env) (st1 : Shared) (H : Hp) (args : Args) (us : List Value) (vs : List V) (Q : VK) (E : XK), A.guards = some [] → Room k A → Env0 P w K mg base A out1 st1 H → BindsTo st1 fd args (ps.zip us) → Vals vs us → sp vs H Q E →
    codeAny (model P w) A (.call (.ref f) args) (CR CX0 out1 P w H st1 Q E) st1
section
variable {P : Program} {w : World} {K : PySem.W.Frag} {mg : Str → Option Value} {base : Heap}
theorem okG {x qual : Str} {st : Stmt} {f : Addr} {fd : FuncData} {N ps : List Str} {k : Nat} {sp : Sp} (F : Fun K x qual st f fd) (S : FnScope N ps (defScope st)) (hlen : ∀ vs H Q E, sp vs H Q E → vs.length = ps.length)
    (hbd : ∀ (cdv : Value) (A : Around) (out1 : List Env) (st1 : Shared) (H : Hp) (vs : List V) (Q : VK) (E : XK), (A.deeper (envOfC qual (defScope st) st1.heap.objs.size f cdv)).guards = some [] → Room k (A.deeper (envOfC qual (defScope st) st1.heap.objs.size f cdv)) → sp vs H Q E →
      ∃ t, PSs (cxOf CX0 P w K mg base N qual (defScope st) f cdv A out1 st1 H E).nox (defBody st) t ∧ t { nx := fun _ H' => Q .non H', rt := Q } (start N vs) H) : FnG P w K mg base (k + 1) f fd ps sp := by
  obtain ⟨oc, od, kV, doc, pm, an, cdv, ct, osl, rfl, lk, hcd⟩ := F.ex
  refine ⟨hlen, fun A out1 st1 H args us vs Q E hgd hr1 en0 hb1 rv1 hsp1 => ?_⟩
  have hl1 := hlen _ _ _ _ hsp1
  have KX1 : K.In st1.heap := en0.mod.kin.keeps fun b1 o1 e1 => (en0.bs b1 o1 e1).1
  have lim1 : st1.heap.NoLimit := en0.mod.nolimit.keeps fun b1 o1 e1 => (en0.bs b1 o1 e1).1
  have hknd : ∀ y1 ∈ ps.zip us, (defScope st).names.lookup y1.1 = some .local ∨ ((defScope st).names.lookup y1.1 = some .cell ∧ ((cellsFrom (st1.heap.objs.size + 1) (defScope st).names []).lookup y1.1).isSome = true) := fun ⟨n1, v1⟩ hy1 => by
    rcases S.par n1 (List.of_mem_zip hy1).1 with q1 | q1
    · exact .inl q1
    · exact .inr ⟨q1, PySem.W.cellsFrom_some _ _ _ (.inl q1)⟩
  refine codeAny_call_function hr1.depth (KX1 _ _ lk) rfl S.co S.gen rfl (PySem.W.codeRec_of KX1 hcd) (hb1 _ _ _ _ ?_)
  refine wpAny_newFunctionEnv_cells S.kind hknd fun env1 he1 st2 x1 => ?_
  subst he1; refine ⟨lim1.keeps x1.toInCall.keep, codeAny_func ?_⟩
  obtain ⟨t, ht0, hq1⟩ := hbd cdv A out1 st1 H vs Q E hgd (hr1.deeper _) hsp1
  have ht := ht0.nox
  have I1 : Inv (cxOf CX0 P w K mg base N qual (defScope st) f cdv A out1 st1 H E) [] (start N vs) H st2 := inv_start S hr1.hd en0 hl1 rv1 x1
  refine wpAny_mono (ht.run [] st2 (start N vs) H _ I1 hq1) (fun fl st3 hs1 => ?_) fun _ st3 hs1 => hs1
  have done1 : ∀ {σ1 : L2.St} {H1 : Hp} {v : V} {u : Value}, Inv (cxOf CX0 P w K mg base N qual (defScope st) f cdv A out1 st1 H E) [] σ1 H1 st3 → RelV v u → Q v H1 → CE out1 P w H st1 Q u st3 :=
    fun {σ1 H1 v u} J1 rv q1 => ⟨v, H1, J1.os, J1.bare, J1.base, J1.hok, rv, q1⟩
  cases fl with
  | ret u => obtain ⟨v, σ1, H1, J1, rv, q1⟩ := hs1; exact done1 J1 rv q1
  | next => obtain ⟨σ1, H1, J1, q1⟩ := hs1; exact done1 (v := V.non) (u := Value.none) J1 rfl q1
  | brk => obtain ⟨_, _, _, q1⟩ := hs1; exact False.elim q1
  | cont => obtain ⟨_, _, _, q1⟩ := hs1; exact False.elim q1
theorem law_callG {mb : Str → Option Value} {k : Nat} {fa a : Addr} {fd : FuncData} {x : Str} {sp : Sp} {st1 : Shared} {vs : List Value} {ns : List Int}
    (KX : K.In st1.heap) (hns : st1.heap.Ns mainGlobals mg) (hbl : st1.heap.Ns builtinsNs mb) (hbb : ∀ x : Str, x ≠ "__name__" → mb x = bootBuiltins x) (hlim : st1.heap.NoLimit) (hgn : st1.gens = #[])
    (hat : st1.heap.get? a = some { cls := .type "list", data := .seq vs.toArray }) (hi : IntsAre vs ns) (hl : ns.length ≤ sizeLine) (hr1 : Room k callerA)
    (F : ∀ base : Heap, K.In base → base.Ns mainGlobals mg → FnG P w K mg base k fa fd [x] sp) (hbind : ∀ (s : Shared) (u : Value), BindsTo s fd ⟨[u], []⟩ [(x, u)])
    (hsp1 : ∀ H : Hp, Only H → SqL K H a (ns.map V.int) → sp [.ref a] H (fun v _ => v = .bl true) fun _ _ _ => False) :
    codeAny (model P w) callerA (.call (.ref fa) ⟨[.ref a], []⟩) (fun r s' => r = .ok (.ret (.bool true)) ∧ OldK st1.heap s'.heap ∧ s'.os = st1.os ∧ AllBare s'.gens) st1 := by
  have rv1 := vals_ints hi
  have lenV1 := hi.length
  have core1 : ∀ H : Hp, Only H → SqL K H a (ns.map V.int) → HOk P w H st1.heap → (∀ b1, H b1 ≠ none → b1 = a) → (H a ≠ none → K.lookup a = none) →
      codeAny (model P w) callerA (.call (.ref fa) ⟨[.ref a], []⟩) (fun r s' => r = .ok (.ret (.bool true)) ∧ OldK st1.heap s'.heap ∧ s'.os = st1.os ∧ AllBare s'.gens) st1 := by
    intro H hO1 hS1 hok1 hA1 hK1
    have base1 : ∀ {b1 : Addr} {o1 : Obj}, st1.heap.get? b1 = some o1 → H b1 = none → (hidT st1.heap H).get? b1 = some o1 := fun e1 n1 => hidT_get e1 n1
    have noA1 : ∀ {b1 : Addr} {o1 : Obj} {es1 : Array DictEntry} {ep1 : Nat}, st1.heap.get? b1 = some o1 → o1.data = .dict es1 ep1 → H b1 = none := fun {b1 o1 es1 ep1} e1 d1 => by
      cases q1 : H b1 with
      | none => rfl
      | some u1 =>
        have e2 : b1 = a := hA1 b1 (by rw [q1]; simp)
        subst e2; rw [hat] at e1; cases e1
        have d2 : Data.seq vs.toArray _ = Data.dict es1 ep1 := d1
        cases d2
    have nsK1 : ∀ {b1 : Addr} {m : Str → Option Value}, st1.heap.Ns b1 m → (hidT st1.heap H).Ns b1 m := fun {b1 m} ⟨o1, es1, ep1, e1, d1, r1⟩ => ⟨o1, es1, ep1, base1 e1 (noA1 e1 d1), d1, r1⟩
    have hKb1 : K.In (hidT st1.heap H) := fun b1 o1 e1 => base1 (KX b1 o1 e1) (by
      cases q1 : H b1 with
      | none => rfl
      | some u1 =>
        have e2 : b1 = a := hA1 b1 (by rw [q1]; simp)
        subst e2; rw [hK1 (by rw [q1]; simp)] at e1; cases e1)
    have hM1 : Mod K mg (hidT st1.heap H) := ⟨hKb1, nsK1 hns, ⟨mb, nsK1 hbl, hbb⟩, let ⟨mc, h1, h2⟩ := hlim; ⟨mc, nsK1 h1, h2⟩⟩
    have en0 : Env0 P w K mg (hidT st1.heap H) callerA [] st1 H := ⟨rfl, hM1, fun b1 o1 e1 => of_hidT e1, Nat.le_of_eq (hidT_size _ _), trivial, fun b1 hb1 => absurd (show b1 ∈ ([] : List Addr) from hb1) (by simp), hok1, .of_eq hgn⟩
    refine codeAny_mono ((F _ hKb1 (nsK1 hns)).run callerA [] st1 H ⟨[.ref a], []⟩ [.ref a] [.ref a] _ _ rfl hr1 en0 (hbind st1 (.ref a)) (.cons rfl .nil) (hsp1 H hO1 hS1)) fun r s' h1 => ?_
    cases r with
    | error e1 => exact False.elim h1
    | ok fl =>
      cases fl with
      | next => exact False.elim h1
      | brk => exact False.elim h1
      | cont => exact False.elim h1
      | ret u1 =>
        obtain ⟨v1, H1, os1, bare1, un1, hok2, r1, q1⟩ := h1
        have q2 : v1 = .bl true := q1
        subst q2; obtain rfl : u1 = Value.bool true := r1
        refine ⟨rfl, OldK.of_keep fun b1 o1 e1 => ?_, os1, bare1⟩
        cases q3 : H b1 with
        | none => exact un1.keep b1 o1 e1 q3 (by intro z; exact absurd (show b1 ∈ ([] : List Addr) from z) (by simp)) (by simp)
        | some u2 =>
          rcases hO1 b1 with z1 | ⟨ob1, xs1, z1⟩
          · rw [q3] at z1; cases z1
          · have z2 := un1.frzs b1 ob1 _ z1
            obtain ⟨e3, _⟩ := hok1 b1 _ z1; obtain ⟨e4, _⟩ := hok2 b1 _ z2
            rw [e1] at e3; cases e3; exact e4
  cases hk1 : K.lookup a with
  | some o1 =>
    have e1 := KX a o1 hk1
    rw [hat] at e1; cases e1
    refine core1 (fun _ => none) (fun _ => .inl rfl) (.inr ⟨_, vs.toArray, _, hk1, rfl, rfl, rfl, by rw [List.size_toArray, lenV1]; exact hl, by simpa using rv1⟩) (fun b1 u1 z1 => by have z2 : (none : Option HO) = some u1 := z1; cases z2) (fun b1 z1 => absurd rfl z1) fun z1 => absurd rfl z1
  | none =>
    refine core1 (fun b1 => if b1 = a then some (.frz { cls := .type "list", data := .seq vs.toArray } (.lst (ns.map V.int))) else none) (fun b1 => ?_) (.inl (.inr ⟨{ cls := .type "list", data := .seq vs.toArray }, if_pos rfl⟩)) (fun b1 u1 z1 => ?_) (fun b1 z1 => ?_) fun _ => hk1
    · by_cases hb1 : b1 = a
      · exact .inr ⟨_, _, if_pos hb1⟩
      · exact .inl (if_neg hb1)
    · by_cases hb1 : b1 = a
      · have z2 := (if_pos hb1).symm.trans z1
        cases z2; subst hb1
        exact ⟨hat, by rw [List.length_map]; exact hl, vs, _, rv1, hat⟩
      · have z2 := (if_neg hb1).symm.trans z1
        cases z2
    · by_cases hb1 : b1 = a
      · exact hb1
      · exact absurd (if_neg hb1) z1
end
theorem walk_G {l : PySem.W.OpenLaw} {n k : Nat} {qp : Program} {loose : List Str} {XP : (Str → Option Value) → Heap → Prop} {YP : World → Heap → Prop} {dr : DefRec} {KK : Params → PySem.W.Frag} {sp : World → Sp} {x : Str}
    (hn : l.most = some n) (hn2 : n ≤ sizeLine) (hdf : dr.params.defaults = []) (hr1 : Room k callerA) (hY : ∀ (w : World) (h : Heap), YP w h → (KK w.params).In h)
    (F : ∀ (w : World) (mg : Str → Option Value) (fa : Addr) (h : Heap), (KK w.params).In h → h.Ns mainGlobals mg → mg dr.name = some (.ref fa) →
      ∃ fd : FuncData, (∀ (s : Shared) (u : Value), BindsTo s fd ⟨[u], []⟩ [(x, u)]) ∧ ∀ base : Heap, (KK w.params).In base → base.Ns mainGlobals mg → FnG l.prog w (KK w.params) mg base k fa fd [x] (sp w))
    (hsp1 : ∀ (w : World) (H : Hp) (a : Addr) (ns : List Int), ns.length ≤ n → Only H → SqL (KK w.params) H a (ns.map V.int) → sp w [.ref a] H (fun v _ => v = .bl true) fun _ _ _ => False) :
    PySem.W.WalkO qp loose XP YP l.row.toRowW dr [] (fun f vs => PySem.call f vs) := by
  refine Att.attach_call hn hdf fun w s0 st1 mg mb fa o pm cd doc a vs ns G Y ho hd hcd hmg hobj hints hlen hgn => ?_
  have KX1 := hY w _ Y
  obtain ⟨fd, hb1, hF1⟩ := F w mg fa _ KX1 G.T.g hmg
  exact law_callG KX1 G.T.g G.T.b G.T.builtins G.T.nolimit hgn hobj hints (Nat.le_trans hlen hn2) hr1 hF1 hb1 (fun H hO1 hS1 => hsp1 w H a ns hlen hO1 hS1)
end FS

set_option Elab.async false
set_option linter.all false
set_option maxRecDepth 100000
set_option maxHeartbeats 4000000
/-! What both laws on errors use: an error's class, a made error, plain values that repr shows, isinstance over a list of errors. -/
namespace FS
open PySem PySem.Spec PyProof.Rows L2
/-! ### heaps -/
theorem same_new {H : Hp} {p : Addr} {o : HO} (h : H p = none) : Same H (upd H p o) := fun b x e => by
  rw [upd_ne (ne_of_none e h)]; exact e
/-- all but p as it was -/
def Off (p : Addr) (H H' : Hp) : Prop := ∀ b o, b ≠ p → H b = some o → H' b = some o
theorem Off.of {p : Addr} {H H' : Hp} (h : Same H H') : Off p H H' := fun b o _ e => h b o e
theorem Off.trans {p : Addr} {H H1 H2 : Hp} (h : Off p H H1) (k : Off p H1 H2) : Off p H H2 := fun b o n e => k b o n (h b o n e)
theorem Off.put {p : Addr} {H : Hp} {o : HO} : Off p H (upd H p o) := fun b x n e => by rw [upd_ne n]; exact e
theorem Off.same {p : Addr} {H H1 H2 : Hp} (h : Same H H1) (hp : H p = none) (k : Off p H1 H2) : Same H H2 := fun b o e => k b o (ne_of_none e hp) (h b o e)
/-! ### plain values -/
mutual
theorem Dp_mono {K : PySem.W.Frag} {H H' : Hp} (s : Same H H') : ∀ (d : PyData) (v : V), Dp K H v d → Dp K H' v d
  | .none, _, h => by cases h; exact .non
  | .bool b, _, h => by cases h; exact .bl b
  | .int i, _, h => by cases h; exact .int i
  | .str x, _, h => by cases h; exact .str x
  | .list ds, _, h => by
    cases h with
    | lst hs ha => exact .lst (s.seq hs) (DpAll_mono s ds _ ha)
  | .tuple ds, _, h => by
    cases h with
    | tup hs ha =>
      refine .tup ?_ (DpAll_mono s ds _ ha)
      rcases hs with (h | ⟨o, h⟩) | h
      · exact .inl (.inl (s _ _ h))
      · exact .inl (.inr ⟨o, s _ _ h⟩)
      · exact .inr h
  | .dict _, _, h => by cases h
theorem DpAll_mono {K : PySem.W.Frag} {H H' : Hp} (s : Same H H') : ∀ (ds : List PyData) (vs : List V), DpAll K H vs ds → DpAll K H' vs ds
  | [], _, h => by cases h; exact .nil
  | d :: ds, _, h => by
    cases h with
    | cons h1 h2 => exact .cons (Dp_mono s d _ h1) (DpAll_mono s ds _ h2)
end
/-- a value that repr shows shortly -/
def Nice (K : PySem.W.Frag) (H : Hp) (v : V) (d : PyData) : Prop := Dq K H v d ∧ d.showable = true ∧ d.depth ≤ 5 ∧ d.shown.length ≤ 40
theorem Dq_mono {K : PySem.W.Frag} {H H' : Hp} {v : V} {d : PyData} (s : Same H H') (h : Dq K H v d) : Dq K H' v d := by
  cases h with
  | dp h hd => exact .dp (Dp_mono s d v h) hd
  | emp h => exact .emp (s _ _ h)
theorem Nice.mono {K : PySem.W.Frag} {H H' : Hp} {v : V} {d : PyData} (s : Same H H') (h : Nice K H v d) : Nice K H' v d := ⟨Dq_mono s h.1, h.2⟩
inductive NiceAll (K : PySem.W.Frag) (H : Hp) : List V → List PyData → Prop
  | nil : NiceAll K H [] []
  | cons {v : V} {vs : List V} {d : PyData} {ds : List PyData} : Nice K H v d → NiceAll K H vs ds → NiceAll K H (v :: vs) (d :: ds)
theorem NiceAll.dq {K : PySem.W.Frag} {H : Hp} : ∀ {vs : List V} {ds : List PyData}, NiceAll K H vs ds → DqAll K H vs ds
  | _, _, .nil => .nil
  | _, _, .cons h t => .cons h.1 t.dq
theorem NiceAll.show {K : PySem.W.Frag} {H : Hp} : ∀ {vs : List V} {ds : List PyData}, NiceAll K H vs ds → PyData.showableAll ds = true
  | _, _, .nil => by simp [PyData.showableAll]
  | _, _, .cons h t => by simp only [PyData.showableAll, h.2.1, t.show, Bool.and_self]
theorem NiceAll.depth {K : PySem.W.Frag} {H : Hp} : ∀ {vs : List V} {ds : List PyData}, NiceAll K H vs ds → PyData.depthAll ds ≤ 30
  | _, _, .nil => by simp [PyData.depthAll]
  | _, _, .cons h t => by
    simp only [PyData.depthAll]
    have h1 := h.2.2.1
    have h2 := t.depth
    omega
theorem text_len : ∀ (ts : List Str) (k : Nat) (acc : Str), (∀ t ∈ ts, t.length ≤ 40) → (textFrom k acc ts).length ≤ acc.length + 42 * ts.length
  | [], k, acc, _ => Nat.le_refl _
  | t :: r, k, acc, h => by
    have h1 := h t (List.mem_cons_self ..)
    have h2 : (Str.ofString "").length = 0 := by decide
    have h3 : (Str.ofString ", ").length = 2 := by decide
    unfold textFrom
    refine Nat.le_trans (text_len r _ _ (fun x hx => h x (List.mem_cons_of_mem _ hx))) ?_
    rw [List.length_cons]
    repeat rw [strLen_append]
    split <;> omega
theorem NiceAll.len {K : PySem.W.Frag} {H : Hp} : ∀ {vs : List V} {ds : List PyData}, NiceAll K H vs ds → (PyData.shownAll ds).length = vs.length ∧ ∀ t ∈ PyData.shownAll ds, t.length ≤ 40
  | _, _, .nil => ⟨by simp [PyData.shownAll], fun t h => by simp [PyData.shownAll] at h⟩
  | _, _, .cons h t => by
    obtain ⟨h1, h2⟩ := t.len
    simp only [PyData.shownAll]
    refine ⟨by rw [List.length_cons, List.length_cons, h1], fun x hx => ?_⟩
    rcases List.mem_cons.mp hx with rfl | hx
    · exact h.2.2.2
    · exact h2 x hx
theorem NiceAll.size {K : PySem.W.Frag} {H : Hp} {vs : List V} {ds : List PyData} (h : NiceAll K H vs ds) (hv : vs.length ≤ 1000) : (listText (PyData.shownAll ds)).length ≤ sizeLine := by
  obtain ⟨h1, h2⟩ := h.len
  have h3 := text_len (PyData.shownAll ds) 0 "[" h2
  have h4 : (Str.ofString "[").length = 1 := by decide
  have h5 : (Str.ofString "]").length = 1 := by decide
  unfold listText
  rw [strLen_append, sizeLine_eq]
  rw [h1] at h3
  omega
end FS

set_option Elab.async false
set_option linter.all false
set_option maxRecDepth 100000
set_option maxHeartbeats 4000000
namespace FS
open PySem PySem.Spec PyProof.Rows L2
/-! ### an error's class -/
structure EC (K : PySem.W.Frag) (mg : Str → Option Value) (nm : Str) (C fI : Addr) : Prop where
  oex : OexC K C
  gC : mg nm = some (.ref C)
  iC : PySem.W.findIn K (.ref C) "__init__" = some (some (.ref fI))
  tI : PySem.W.typeIn K (.ref fI) = some (.type "function")
  xf : XfC K C
  ec : ExcC K C
theorem ec_mk {K : PySem.W.Frag} {h : Heap} {mg : Str → Option Value} (X : K.In h) (G : h.Ns mainGlobals mg) {nm : Str} {C fI : Addr} {n1 q : Str} {N : Addr} {bs bm : List Value} {sn : List Str} {sub : List Value} {ab : Bool} {col : Option Bool} {dd : Option Addr} {m0 m1 m2 m3 m5 : Option Value}
    (aC : PySem.W.nsIn K mainGlobals nm = some (some (.ref C))) (xL : K.lookup C = some (excClassObj n1 q C N bs bm true sn sub ab col dd m0 m1 m2 m3 m5 "ValueError.__new__")) (bmv : PySem.HandSPX.refsVE bm = true)
    (sa : PySem.W.findIn K (.ref C) "__setattr__" = some (some (.builtin "object.__setattr__"))) (ga : PySem.W.findIn K (.ref C) "__getattribute__" = some (some (.builtin "BaseException.__getattribute__"))) (gg : PySem.W.findIn K (.ref C) "__getattr__" = some none)
    (a1 : PySem.W.findIn K (.ref C) "__init__" = some (some (.ref fI))) (t1 : PySem.W.typeIn K (.ref fI) = some (.type "function")) (kC : PySem.W.keepIn K (.ref C) = true) (eC : PySem.W.subIn K (.ref C) (.type "BaseException") = some true)
    (tC : PySem.W.typeIn K (.ref C) = some (.type "type")) (hC : PySem.W.hasDictIn K C = true) (cC : PySem.W.findIn K (.ref C) "__class__" = some (some (.builtin "object.__class__"))) (mC : PySem.W.mroIn K C (.type "object") = some true)
    (hn : PySem.W.specialIn K (.builtin "object.__class__") "__get__" = some (some (.builtin "getset_descriptor.__get__"))) (ht : PySem.W.takesIn K (.builtin "object.__class__") = some true) : EC K mg nm C fI :=
  ⟨⟨⟨n1, q, N, bs, bm, sn, sub, ab, col, dd, m0, m1, m2, m3, m5, xL, bmv⟩, sa, eC, tC, kC⟩, PySem.W.mg_of X G aC, a1, t1, ⟨ga, gg, eC, hC⟩, ⟨ga, gg, eC, hC, cC, hn, ht, mC⟩⟩
/-- isinstance's answer over classes -/
theorem kit_own {K : PySem.W.Frag} {D C : Addr} {b : Bool} (hd : PySem.W.hasDictIn K C = true) (ty : PySem.W.typeIn K (.ref C) = some (.type "type")) (h : PySem.W.subIn K (.ref D) (.ref C) = some b) (hb : D = C → b = true) : PySem.W.kitOne K (.ref D) (.ref C) = some b := by
  unfold PySem.W.kitOne
  by_cases e : D = C
  · subst e
    rw [if_pos (by simp), hb rfl]
  · have ne : ((Value.ref D) == (Value.ref C)) = false := beq_eq_false_iff_ne.mpr fun q => e (Value.ref.inj q)
    rw [ne, if_neg Bool.false_ne_true]
    obtain ⟨cd, hc, _⟩ := PySem.W.any_some hd
    show (if ((PySem.W.clsIn K C).isSome && PySem.W.typeIn K (.ref C) == some (.type "type")) = true then PySem.W.subIn K (.ref D) (.ref C) else none) = some b
    rw [if_pos (by rw [hc, ty] <;> rfl)]
    exact h
theorem kit_ve {K : PySem.W.Frag} {D : Addr} {b : Bool} (h : PySem.W.subIn K (.ref D) (.type "ValueError") = some b) : PySem.W.kitOne K (.ref D) (.type "ValueError") = some b := by
  unfold PySem.W.kitOne
  have ne : ((Value.ref D) == (Value.type "ValueError")) = false := beq_eq_false_iff_ne.mpr fun q => nomatch q
  rw [ne, if_neg Bool.false_ne_true]
  show (if PySem.W.kitMeta "ValueError" = true then PySem.W.subIn K (.ref D) (.type "ValueError") else none) = some b
  rw [if_pos (by decide +kernel)]
  exact h
/-! ### an error made -/
def ErrAt (H : Hp) (a C : Addr) (fs : List (Str × V)) : Prop := ∃ d, H a = some (exo a C (some d)) ∧ H d = some (exd d fs)
theorem ErrAt.mono {H H' : Hp} {a C : Addr} {fs : List (Str × V)} (s : Same H H') (h : ErrAt H a C fs) : ErrAt H' a C fs := by
  obtain ⟨d, h1, h2⟩ := h
  exact ⟨d, s _ _ h1, s _ _ h2⟩
def spI1 (C : Addr) (f : Str) : Sp := fun vs H Q _ => ∃ (a : Addr) (v : V), vs = [.ref a, v] ∧ H a = some (exo a C none) ∧ ∀ H', Off a H H' → ErrAt H' a C [(f, v)] → Q .non H'
def spI2 (C : Addr) (f g : Str) : Sp := fun vs H Q _ => ∃ (a : Addr) (v u : V), vs = [.ref a, v, u] ∧ H a = some (exo a C none) ∧ ∀ H', Off a H H' → ErrAt H' a C [(g, u), (f, v)] → Q .non H'
def spI3 (C : Addr) (f g i : Str) : Sp := fun vs H Q _ => ∃ (a : Addr) (v u x : V), vs = [.ref a, v, u, x] ∧ H a = some (exo a C none) ∧ ∀ H', Off a H H' → ErrAt H' a C [(i, x), (g, u), (f, v)] → Q .non H'
theorem off_first {H : Hp} {a dx C : Addr} {u : HO} (n : H dx = none) : Off a H (upd (upd H dx u) a (exo a C (some dx))) := fun b o hb e => by rw [upd_ne hb, upd_ne (ne_of_none e n)]; exact e
theorem err_first {H : Hp} {a dx C : Addr} {fs : List (Str × V)} (ne : dx ≠ a) : ErrAt (upd (upd H dx (exd dx fs)) a (exo a C (some dx))) a C fs := ⟨dx, upd_same, by rw [upd_ne ne, upd_same]⟩
theorem err_next {H : Hp} {a dx C : Addr} {fs : List (Str × V)} (ne : dx ≠ a) (h : H a = some (exo a C (some dx))) : ErrAt (upd H dx (exd dx fs)) a C fs := ⟨dx, by rw [upd_ne ne.symm]; exact h, upd_same⟩
section
variable {P : Program} {w : World} {K : PySem.W.Frag} {mg : Str → Option Value} {base : Heap} {H : Hp} {C : Addr} {f g i : Str} {Q : VK}
theorem mk1 {v : V} (h : ∀ a H', Same H H' → H a = none → ErrAt H' a C [(f, v)] → Q (.ref a) H') :
    [v].length ≤ 1000 ∧ ∀ a, H a = none → spI1 C f (.ref a :: ([v] ++ [])) (upd H a (exo a C none)) (fun v H2 => v = .non ∧ Q (.ref a) H2) (fun _ _ _ => False) :=
  ⟨by simp, fun a na => ⟨a, v, rfl, upd_same, fun H' o e => ⟨rfl, h a H' (Off.same (same_new na) na o) na e⟩⟩⟩
theorem mk2 {v u : V} (h : ∀ a H', Same H H' → H a = none → ErrAt H' a C [(g, u), (f, v)] → Q (.ref a) H') :
    [v, u].length ≤ 1000 ∧ ∀ a, H a = none → spI2 C f g (.ref a :: ([v, u] ++ [])) (upd H a (exo a C none)) (fun v H2 => v = .non ∧ Q (.ref a) H2) (fun _ _ _ => False) :=
  ⟨by simp, fun a na => ⟨a, v, u, rfl, upd_same, fun H' o e => ⟨rfl, h a H' (Off.same (same_new na) na o) na e⟩⟩⟩
theorem mk3 {v u x : V} (h : ∀ a H', Same H H' → H a = none → ErrAt H' a C [(i, x), (g, u), (f, v)] → Q (.ref a) H') :
    [v, u, x].length ≤ 1000 ∧ ∀ a, H a = none → spI3 C f g i (.ref a :: ([v, u, x] ++ [])) (upd H a (exo a C none)) (fun v H2 => v = .non ∧ Q (.ref a) H2) (fun _ _ _ => False) :=
  ⟨by simp, fun a na => ⟨a, v, u, x, rfl, upd_same, fun H' o e => ⟨rfl, h a H' (Off.same (same_new na) na o) na e⟩⟩⟩
end
/-! ### isinstance over a list of errors -/
inductive Isi (K : PySem.W.Frag) (H : Hp) (cv : Value) : List V → List Bool → Prop
  | nil : Isi K H cv [] []
  | cons {a C : Addr} {fs : List (Str × V)} {b : Bool} {vs : List V} {bs : List Bool} : ErrAt H a C fs → ExcC K C → PySem.W.kitOne K (.ref C) cv = some b → Isi K H cv vs bs → Isi K H cv (.ref a :: vs) (b :: bs)
theorem Isi.mono {K : PySem.W.Frag} {H H' : Hp} {cv : Value} (s : Same H H') : ∀ {vs : List V} {bs : List Bool}, Isi K H cv vs bs → Isi K H' cv vs bs
  | _, _, .nil => .nil
  | _, _, .cons h1 h2 h3 t => .cons (h1.mono s) h2 h3 (t.mono s)
theorem Isi.get {K : PySem.W.Frag} {H : Hp} {cv : Value} : ∀ {vs : List V} {bs : List Bool} {i : Nat} {v : V}, Isi K H cv vs bs → vs[i]? = some v → ∃ a C fs b, v = .ref a ∧ ErrAt H a C fs ∧ ExcC K C ∧ PySem.W.kitOne K (.ref C) cv = some b ∧ bs[i]? = some b
  | _, _, i, v, .nil, e => by simp at e
  | _, _, 0, v, .cons h1 h2 h3 t, e => by
    simp at e
    exact ⟨_, _, _, _, e.symm, h1, h2, h3, by simp⟩
  | _, _, i + 1, v, .cons h1 h2 h3 t, e => by
    simp at e
    obtain ⟨a, C, fs, b, r⟩ := t.get e
    exact ⟨a, C, fs, b, r.1, r.2.1, r.2.2.1, r.2.2.2.1, by simpa using r.2.2.2.2⟩
theorem Isi.len {K : PySem.W.Frag} {H : Hp} {cv : Value} : ∀ {vs : List V} {bs : List Bool}, Isi K H cv vs bs → bs.length = vs.length
  | _, _, .nil => rfl
  | _, _, .cons _ _ _ t => by rw [List.length_cons, List.length_cons, t.len]
/-- one isinstance -/
theorem isi_one {K : PySem.W.Frag} {H : Hp} {a C : Addr} {fs : List (Str × V)} {b : Bool} {c : V} {cv : Value} {Q : VK} (h1 : ErrAt H a C fs) (h2 : ExcC K C) (hc : ∀ u, RelV c u → u = cv) (h3 : PySem.W.kitOne K (.ref C) cv = some b) (q : Q (.bl b) H) : rIsO K [.ref a, c] H Q := by
  obtain ⟨d, e1, e2⟩ := h1
  exact ⟨a, C, d, fs, c, cv, b, rfl, e1, e2, h2, hc, h3, q⟩
/-- [isinstance(x, c) for x in xs] -/
theorem comp_isi {K : PySem.W.Frag} {i j : Nat} {σ : L2.St} {H : Hp} {Q : VK} {l : Addr} {vs : List V} {bs : List Bool} {c : V} {cv : Value} (h1 : σ[i]? = some (some (.ref l))) (hl : SqL K H l vs) (hv : Isi K H cv vs bs) (hc : ∀ u, RelV c u → u = cv) (hz : vs.length ≤ 100) (hj : j < σ.length)
    (hq : ∀ D H', Same H H' → H' D = some (.lst (bs.map .bl)) → Q (.ref D) H') : tLc (iList K (tVar i)) (gName j) tYes (tCB (rIsO K) (tCons (tVar j) (tCons (tC c) tNil))) [j] σ H Q := by
  refine ⟨_, h1, l, rfl, ⟨_, hl⟩, fun D hD => ?_⟩
  have s0 : Same H (upd H D (.lst [])) := same_new hD
  refine lc_list (xs := vs) (fun i H' => Same H H' ∧ H' D = some (.lst ((bs.take i).map .bl))) ⟨s0, upd_same⟩ (fun _ _ _ h => h.1.seq hl) (fun k x H' hx ⟨s, hd⟩ => ?_) (fun H' ⟨s, hd⟩ => hq D H' s ?_)
  · obtain ⟨a, C, fs, b, rfl, e1, e2, e3, e4⟩ := (hv.mono s).get hx
    refine ⟨by simp [wipe], ?_⟩
    refine ⟨.ref a, by simp [wipe, hj], ?_⟩
    dsimp only [tCons, tC, tNil]
    refine isi_one e1 e2 hc e3 ⟨_, hd, ?_, ?_, ?_⟩
    · rw [List.length_map, List.length_take]
      have := hv.len
      exact small1000 (by omega)
    · intro b' o e
      rw [upd_ne (ne_of_none e hD)]
      exact s _ _ e
    · rw [upd_same, List.take_add_one, e4, List.map_append]
      rfl
  · rw [hd, ← hv.len, List.take_length]
end FS

set_option Elab.async false
set_option linter.all false
set_option maxRecDepth 100000
set_option maxHeartbeats 4000000
namespace FS
open PySem PySem.Spec PyProof.Rows L2
section
variable {K : PySem.W.Frag} {H : Hp} {Q : VK}
theorem mkL {xs : List V} (hl : xs.length ≤ 1000) (h : ∀ p H', Same H H' → H p = none → H' p = some (.lst xs) → Q (.ref p) H') : xs.length ≤ sizeLine ∧ ∀ p, H p = none → Q (.ref p) (upd H p (.lst xs)) :=
  ⟨Nat.le_of_lt (small1000 hl), fun p np => h p _ (same_new np) np upd_same⟩
theorem mkT {xs : List V} (hl : xs.length ≤ 1000) (h : ∀ p H', Same H H' → H p = none → H' p = some (.tup xs) → Q (.ref p) H') : xs.length ≤ sizeLine ∧ ∀ p, H p = none → Q (.ref p) (upd H p (.tup xs)) :=
  ⟨Nat.le_of_lt (small1000 hl), fun p np => h p _ (same_new np) np upd_same⟩
theorem mkD (h : ∀ p H', Same H H' → H p = none → H' p = some (.dK []) → Q (.ref p) H') : ∀ p, H p = none → Q (.ref p) (upd H p (.dK [])) := fun p np => h p _ (same_new np) np upd_same
theorem mkCat {l b : Addr} {xs zs : List V} (hl : H l = some (.lst xs)) (hb : H b = some (.lst zs)) (hz : xs.length + zs.length ≤ 1000) (h : ∀ p H', Same H H' → H' p = some (.lst (xs ++ zs)) → Q (.ref p) H') : rCat (.ref l) (.ref b) H Q :=
  ⟨l, b, xs, zs, rfl, rfl, hl, hb, Nat.le_of_lt (small1000 hz), fun p np => h p _ (same_new np) upd_same⟩
theorem rp {a : Addr} {v : V} {vs : List V} {ds : List PyData} (ha : H a = some (.lst (v :: vs))) (hn : NiceAll K H (v :: vs) ds) (hl : (v :: vs).length ≤ 1000) (q : Q (.str (listText (PyData.shownAll ds))) H) : rReprL K [.ref a] H Q :=
  ⟨a, v, vs, ds, rfl, ha, hn.dq, hn.show, hn.depth, hn.size hl, q⟩
theorem rd_at {σ : L2.St} {l a C : Addr} {xs : List V} {i : Int} {j : Nat} {fs : List (Str × V)} {n : Str} {v : V} (hj : σ[j]? = some (some (.ref l))) (hL : H l = some (.lst xs)) (hx : atI xs i = some (.ref a)) (he : ErrAt H a C fs) (T : XfC K C)
    (no : PySem.W.findIn K (.ref C) n = some none) (hl : fs.lookup n = some v) (q : Q v H) : tXo K n (tOp (rIxL K) (tVar j) (tC (.int i))) σ H Q := by
  obtain ⟨d, h1, h2⟩ := he
  exact ⟨_, hj, l, xs, i, _, rfl, rfl, SqL.of hL, hx, a, C, d, fs, v, rfl, h1, h2, T, no, hl, q⟩
theorem dp_bools {a : Addr} {bs : List Bool} (h : H a = some (.lst (bs.map V.bl))) : Dp K H (.ref a) (.list (bs.map PyData.bool)) := by
  refine .lst (SqL.of h) ?_
  clear h
  induction bs with
  | nil => exact .nil
  | cons b r ih => exact .cons (.bl b) ih
/-- [spot == other for other in range(n)] -/
theorem comp_eq {σ : L2.St} {i j n : Nat} {z : Int} (hi : σ[i]? = some (some (.int z))) (hj : j < σ.length) (hne : i ≠ j) (hn : n ≤ 1000)
    (hq : ∀ D H', Same H H' → H' D = some (.lst ((List.range n).map fun k : Nat => V.bl (decide (V.int z = V.int (0 + (k : Int)))))) → Q (.ref D) H') : tLc (iRng1 (tCons (tC (.int (n : Int))) tNil)) (gName j) tYes (tOp rEq (tVar i) (tVar j)) [j] σ H Q := by
  refine ⟨(n : Int), rfl, by omega, by omega, fun D hD => ?_⟩
  refine lc_range (lo := 0) (n := n) (fun k H' => Same H H' ∧ H' D = some (.lst ((List.range k).map fun k : Nat => V.bl (decide (V.int z = V.int (0 + (k : Int))))))) ⟨same_new hD, upd_same⟩ (fun k H' hk ⟨s, hd⟩ => ?_) (fun H' ⟨s, hd⟩ => hq D H' s hd)
  refine ⟨by simp [wipe], ?_⟩
  refine ⟨.int z, ?_, .int (0 + (k : Int)), by simp [wipe, hj], rfl, _, hd, ?_, ?_, ?_⟩
  · simp [wipe, List.getElem?_set, hne.symm, hi]
  · rw [List.length_map, List.length_range]
    exact small1000 (by omega)
  · intro b o e
    rw [upd_ne (ne_of_none e hD)]
    exact s _ _ e
  · rw [upd_same, List.range_succ, List.map_append]
    rfl
theorem off_second {a dx C : Addr} {u1 u2 : HO} (n : H dx = none) : Off a H (upd (upd (upd H dx u1) a (exo a C (some dx))) dx u2) := fun b o hb e => by rw [upd_ne (ne_of_none e n), upd_ne hb, upd_ne (ne_of_none e n)]; exact e
theorem off_third {a dx C : Addr} {u1 u2 u3 : HO} (n : H dx = none) : Off a H (upd (upd (upd (upd H dx u1) a (exo a C (some dx))) dx u2) dx u3) := fun b o hb e => by rw [upd_ne (ne_of_none e n), upd_ne (ne_of_none e n), upd_ne hb, upd_ne (ne_of_none e n)]; exact e
end
end FS

set_option Elab.async false
set_option linter.all false
set_option maxRecDepth 100000
set_option maxHeartbeats 4000000
namespace FS
open PySem PySem.Spec PyProof.Rows L2
/-! Rules whose readings hand on a heap by a letter: what stood stands, and the new thing is there. -/
section
variable {X : Cx} {e : Expr} {es : List Expr} {te : TE} {t : TA} {p pos : Pos}
theorem pe_imp {t' : TE} (h : PE X e te) (i : ∀ σ H Q, t' σ H Q → te σ H Q) : PE X e t' := ⟨fun pins s σ H Q I q => h.run pins s σ H Q I (i σ H Q q)⟩
def tLstS (t : TA) : TE := fun σ H Q => t σ H fun xs H1 => xs.length ≤ 1000 ∧ ∀ p H', Same H1 H' → H1 p = none → H' p = some (.lst xs) → Q (.ref p) H'
def tTupS (t : TA) : TE := fun σ H Q => t σ H fun xs H1 => xs.length ≤ 1000 ∧ ∀ p H', Same H1 H' → H1 p = none → H' p = some (.tup xs) → Q (.ref p) H'
def tDictS : TE := fun _ H Q => ∀ p H', Same H H' → H p = none → H' p = some (.dK []) → Q (.ref p) H'
theorem pe_lstS (h : PA X es t) : PE X (.List es pos) (tLstS t) := by
  refine ⟨fun pins s0 σ H Q I hq => ?_⟩
  refine wpAny_List_spliced (thn (h.run pos pins s0 σ H _ I hq) fun us s1 ⟨xs, H1, I1, r, z, q⟩ => ⟨by rw [← r.length]; exact Nat.le_of_lt (small1000 z), ?_⟩)
  have nf : H1 s1.heap.objs.size = none := I1.hok.fresh (Nat.le_refl _)
  refine ⟨.ref s1.heap.objs.size, upd H1 s1.heap.objs.size (.lst xs), I1.laid (t' := s1.toks) (fun b u e1 => Heap.get?_push_of_some _ e1) (Nat.le_refl _) ?_, rfl, q _ _ (same_new nf) nf upd_same⟩
  exact ⟨Nat.le_of_lt (small1000 z), us, 0, r, Heap.get?_push_size _ rfl⟩
theorem pe_tupS {x1} (h : PA X es t) : PE X (.Tuple es x1 pos) (tTupS t) := by
  refine ⟨fun pins s0 σ H Q I hq => ?_⟩
  refine wpAny_Tuple_spliced (thn (h.run pos pins s0 σ H _ I hq) fun us s1 ⟨xs, H1, I1, r, z, q⟩ => ⟨by rw [← r.length]; exact Nat.le_of_lt (small1000 z), ?_⟩)
  have nf : H1 s1.heap.objs.size = none := I1.hok.fresh (Nat.le_refl _)
  refine ⟨.ref s1.heap.objs.size, upd H1 s1.heap.objs.size (.tup xs), I1.laid (t' := s1.toks) (fun b u e1 => Heap.get?_push_of_some _ e1) (Nat.le_refl _) ?_, rfl, q _ _ (same_new nf) nf upd_same⟩
  exact ⟨Nat.le_of_lt (small1000 z), us, r, ⟨_, Heap.get?_push_size _ rfl, rfl, _, rfl⟩⟩
theorem pe_dictS : PE X (.Dict [] [] pos) tDictS := pe_imp pe_dnewK fun σ H Q h p np => h p _ (same_new np) np upd_same
def rCatS : R2 := fun x y H Q => ∃ l b xs zs, x = .ref l ∧ y = .ref b ∧ H l = some (.lst xs) ∧ H b = some (.lst zs) ∧ xs.length + zs.length ≤ 1000 ∧ ∀ p H', Same H H' → H p = none → H' p = some (.lst (xs ++ zs)) → Q (.ref p) H'
theorem op_catS : OpR X (binaryOp .Add) rCatS := fun pins s σ H x y v u Q I rx ry ⟨l, b, xs, zs, e1, e2, h1, h2, hz, q⟩ =>
  op_cat pins s σ H x y v u Q I rx ry ⟨l, b, xs, zs, e1, e2, h1, h2, Nat.le_of_lt (small1000 hz), fun p np => q p _ (same_new np) np upd_same⟩
def rRepS : R2 := fun x y H Q => ∃ l k xs, x = .ref l ∧ y = .int k ∧ H l = some (.lst xs) ∧ 0 ≤ k ∧ k < 1000 ∧ xs.length * k.toNat ≤ 1000 ∧ ∀ p H', Same H H' → H p = none → H' p = some (.lst ((List.replicate k.toNat xs).flatten)) → Q (.ref p) H'
def tMk1 (C : Addr) (f : Str) (i : Nat) : TE := fun σ H Q => ∃ v, σ[i]? = some (some v) ∧ ∀ a H', Same H H' → H a = none → ErrAt H' a C [(f, v)] → Q (.ref a) H'
def tMk2 (C : Addr) (f g : Str) (i j : Nat) : TE := fun σ H Q => ∃ v u, σ[i]? = some (some v) ∧ σ[j]? = some (some u) ∧ ∀ a H', Same H H' → H a = none → ErrAt H' a C [(g, u), (f, v)] → Q (.ref a) H'
def tMk3 (C : Addr) (f g k : Str) (i j m : Nat) : TE := fun σ H Q => ∃ v u x, σ[i]? = some (some v) ∧ σ[j]? = some (some u) ∧ σ[m]? = some (some x) ∧ ∀ a H', Same H H' → H a = none → ErrAt H' a C [(k, x), (g, u), (f, v)] → Q (.ref a) H'
theorem pe_mk1 {C : Addr} {f : Str} {i : Nat} (h : PE X e (tMkV C (spI1 C f) [] (tCons (tVar i) tNil))) : PE X e (tMk1 C f i) := pe_imp h fun σ H Q ⟨v, e1, q⟩ => ⟨v, e1, mk1 q⟩
theorem pe_mk2 {C : Addr} {f g : Str} {i j : Nat} (h : PE X e (tMkV C (spI2 C f g) [] (tCons (tVar i) (tCons (tVar j) tNil)))) : PE X e (tMk2 C f g i j) := pe_imp h fun σ H Q ⟨v, u, e1, e2, q⟩ => ⟨v, e1, u, e2, mk2 q⟩
theorem pe_mk3 {C : Addr} {f g k : Str} {i j m : Nat} (h : PE X e (tMkV C (spI3 C f g k) [] (tCons (tVar i) (tCons (tVar j) (tCons (tVar m) tNil))))) : PE X e (tMk3 C f g k i j m) := pe_imp h fun σ H Q ⟨v, u, x, e1, e2, e3, q⟩ => ⟨v, e1, u, e2, x, e3, mk3 q⟩
def tCI (K : PySem.W.Frag) (i j : Nat) (c : V) : TE := fun σ H Q => ∃ (l : Addr) (vs : List V) (bs : List Bool) (cv : Value), σ[i]? = some (some (.ref l)) ∧ SqL K H l vs ∧ Isi K H cv vs bs ∧ (∀ u, RelV c u → u = cv) ∧ vs.length ≤ 100 ∧ j < σ.length ∧ ∀ D H', Same H H' → H' D = some (.lst (bs.map .bl)) → Q (.ref D) H'
theorem pe_ci {K : PySem.W.Frag} {i j : Nat} {c : V} (h : PE X e (tLc (iList K (tVar i)) (gName j) tYes (tCB (rIsO K) (tCons (tVar j) (tCons (tC c) tNil))) [j])) : PE X e (tCI K i j c) :=
  pe_imp h fun σ H Q ⟨l, vs, bs, cv, h1, h2, h3, h4, h5, h6, q⟩ => comp_isi h1 h2 h3 h4 h5 h6 q
def tCE (i j n : Nat) : TE := fun σ H Q => ∃ z : Int, σ[i]? = some (some (.int z)) ∧ j < σ.length ∧ ∀ D H', Same H H' → H' D = some (.lst ((List.range n).map fun k : Nat => V.bl (decide (V.int z = V.int (0 + (k : Int)))))) → Q (.ref D) H'
theorem pe_ce {i j n : Nat} (hne : i ≠ j) (hn : n ≤ 1000) (h : PE X e (tLc (iRng1 (tCons (tC (.int (n : Int))) tNil)) (gName j) tYes (tOp rEq (tVar i) (tVar j)) [j])) : PE X e (tCE i j n) := pe_imp h fun σ H Q ⟨z, h1, h2, q⟩ => comp_eq h1 h2 hne hn q
def tRep (K : PySem.W.Frag) (te : TE) : TE := fun σ H Q => te σ H fun x H1 => rReprL K [x] H1 Q
theorem pe_rep {K : PySem.W.Frag} (h : PE X e (tCB (rReprL K) (tCons te tNil))) : PE X e (tRep K te) := pe_imp h fun _ _ _ q => q
def tIsi (K : PySem.W.Frag) (te : TE) (c : V) : TE := fun σ H Q => te σ H fun x H1 => rIsO K [x, c] H1 Q
theorem pe_isi {K : PySem.W.Frag} {c : V} (h : PE X e (tCB (rIsO K) (tCons te (tCons (tC c) tNil)))) : PE X e (tIsi K te c) := pe_imp h fun _ _ _ q => q
end
end FS

set_option Elab.async false
set_option linter.all false
set_option maxRecDepth 100000
set_option maxHeartbeats 4000000
namespace FS
open PySem PySem.Spec PyProof.Rows L2
section
variable {X : Cx}
theorem count_eqU {y : V} : ∀ {xs : List V} {us : List Value}, Vals xs us → xs.all flatV = true → us.countP (eqU y) = xs.countP fun z => eqV z y
  | _, _, .nil, _ => rfl
  | x :: xs, u :: us, .cons r t, f => by
    rw [List.all_cons, Bool.and_eq_true] at f
    rw [List.countP_cons, List.countP_cons, eqU_of r f.1, count_eqU t f.2]
/-- xs.count(y), flat items -/
def rCntV (K : PySem.W.Frag) : V → List V → Hp → VK → Prop := fun x xs H Q => ∃ (p : Addr) (ys : List V) (y : V), x = .ref p ∧ xs = [y] ∧ SqL K H p ys ∧ flatV y = true ∧ ys.all flatV = true ∧ Q (.int (ys.countP (fun z => eqV z y) : Nat)) H
theorem mt_countV : MtR X "list.count" (rCntV X.K) := by
  intro pins s σ H x xs v us Q I rx rxs h
  obtain ⟨p, ys, y, rfl, rfl, hs, fy, fys, q⟩ := h
  cases rx
  obtain ⟨u, rfl, ru⟩ := rxs.one
  obtain ⟨its, rv, ⟨⟨cls, dd, data, sl⟩, n, ho, hc, hdn, hd⟩, hlen⟩ := I.list hs
  simp only at hc hd
  subst hc hd
  refine call_meets PySem.F.slot_list_count ⟨_, ho, rfl⟩ PySem.F.entry_list_count (PySem.F.args_list_count_2 _ _)
    (SeqAt.list_countAt p its.toArray n dd sl u (eqU y)) ⟨ho, fun z hz => mem_eqAt ru fy rv fys z (by simpa using hz), ?_⟩
  have ec : its.toArray.toList.countP (eqU y) = ys.countP fun z => eqV z y := count_eqU rv fys
  refine ⟨.int (ys.countP (fun z => eqV z y) : Nat), H, I.tok _, ⟨s.toks, ?_⟩, q⟩
  show Value.int ((its.toArray.toList.countP (eqU y) : Nat) : Int) s.toks = Value.int ((ys.countP (fun z => eqV z y) : Nat) : Int) s.toks
  rw [ec]
def rSlS (K : PySem.W.Frag) : V → Option Int → Option Int → Hp → VK → Prop := fun x lo hi H Q => ∃ a xs, x = .ref a ∧ SqL K H a xs ∧ ∀ p H', Same H H' → H p = none → H' p = some (.lst (cutV xs lo hi)) → Q (.ref p) H'
theorem sl_listS : SlR X (rSlS X.K) := fun pins s σ H x v vl vu lo hi sl Q I rx hs pl pu ⟨a, xs, e, hx, q⟩ =>
  sl_list pins s σ H x v vl vu lo hi sl Q I rx hs pl pu ⟨a, xs, e, hx, fun p np => q p _ (same_new np) np upd_same⟩
theorem call_listS : CallR X (.type "list") (fun xs H Q => ∃ p ys, xs = [.ref p] ∧ (SqL X.K H p ys ∨ SqT X.K H p ys) ∧ ∀ l H', Same H H' → H l = none → H' l = some (.lst ys) → Q (.ref l) H') := fun pins s σ H xs us Q I r ⟨p, ys, e, h, q⟩ =>
  call_list_of pins s σ H xs us Q I r ⟨p, ys, e, h, fun l nl => q l _ (same_new nl) nl upd_same⟩
theorem op_repS : OpR X (binaryOp .Mult) rRepS := fun pins s σ H x y v u Q I rx ry ⟨l, k, xs, e1, e2, h, k0, k1, hz, q⟩ =>
  op_rep pins s σ H x y v u Q I rx ry ⟨l, k, xs, e1, e2, h, by omega, by omega, Nat.le_of_lt (small1000 hz), fun p np => q p _ (same_new np) np upd_same⟩
end
theorem ixN_of {n j : Nat} (hj : j < n) : ixN n (j : Int) = some j := by
  unfold ixN
  rw [if_pos (by omega), if_pos (by omega)]; simp
theorem cut_ints (ns : List Int) (lo hi : Option Int) : ∃ ms : List Int, cutV (ns.map V.int) lo hi = ms.map V.int ∧ ms.length ≤ ns.length := by
  refine ⟨(ns.drop (HT.sIx (ns.map V.int).length 0 lo)).take (HT.sIx (ns.map V.int).length (ns.map V.int).length hi - HT.sIx (ns.map V.int).length 0 lo), ?_, ?_⟩
  · unfold cutV
    rw [List.map_take, List.map_drop]
  · rw [List.length_take, List.length_drop]
    omega
end FS

set_option Elab.async false
set_option linter.all false
set_option maxRecDepth 100000
set_option maxHeartbeats 4000000
/-! The module of texts, def by def: each hands back its mirror's value. -/
namespace TX
open PySem PySem.Spec PyProof.Rows L2 L2.FK FS
def top (i : Nat) : Stmt := PySem.Challenge.pw_foldsame_k19_known_names.main.body.getD i (.Pass ⟨0, 0, 0, 0⟩)
def o : Nat := 18
abbrev sIsName : Stmt := top o
abbrev sReadInt : Stmt := top (o + 1)
/-! ### the mirror -/
def LET : Str := "abcdefghijklmnopqrstuvwxyz"
def DIG : Str := "0123456789"
def OTHERS : List Str := ["func", "data", "end", "export", "alias"]
def REGS : List Str := ["a", "b", "c", "d"]
def FORM : List (Str × List Str) := [("call", ["name"]), ("callr", ["reg"]), ("ret", []), ("addr", ["reg", "name"]), ("set", ["reg", "integer"]), ("move", ["reg", "reg"]), ("read", ["reg", "name", "integer"]), ("readr", ["reg", "reg", "integer"]), ("same", ["reg", "reg", "to"]), ("choose", ["to"]), ("tell", ["reg"]), ("go", ["to"])]
def formOf (z : Str) : Option (List Str) := FORM.lookup z
def inL (c : Nat) : Bool := decide (c ∈ LET.cps.toList)
def inD (c : Nat) : Bool := decide (c ∈ DIG.cps.toList)
def isName (z : Str) : Bool :=
  decide (1 ≤ z.length) && decide (z.length ≤ 8) && !OTHERS.contains z && !(formOf z).isSome && ((z.cps.toList[0]?).any inL) && z.cps.toList.all fun c => inL c || inD c
def readInt (z : Str) : Option Int :=
  if !(decide (1 ≤ z.length) && decide (z.length ≤ 2)) || !(z.cps.toList.all inD) then none
  else if z.length == 2 && z.cps.toList[0]? == some 48 then none else PySem.intText? z
/-! ### what the text holds -/
/-- a tuple of texts of the module -/
def KT (K : PySem.W.Frag) (a : Addr) (xs : List V) : Prop := ∃ (o : Obj) (its : Array Value) (n : Nat), K.lookup a = some o ∧ o.cls = .type "tuple" ∧ o.data = .seq its n ∧ its.size ≤ sizeLine ∧ Vals xs its.toList
theorem KT.sq {K : PySem.W.Frag} {a : Addr} {xs : List V} (h : KT K a xs) (H : Hp) : SqT K H a xs := .inr h
structure TT (K : PySem.W.Frag) (w : World) (mg : Str → Option Value) (aO aR dF : Addr) (es : Array DictEntry) (nF : Nat) (tF : Str → Addr) : Prop where
  gL : ∃ t, mg "LETTERS" = some (.str LET t)
  gD : ∃ t, mg "DIGITS" = some (.str DIG t)
  g8 : ∃ t, mg "LONGEST_NAME" = some (.int 8 t)
  gO : mg "OTHER_WORDS" = some (.ref aO)
  kO : KT K aO (OTHERS.map V.str)
  gR : mg "REGISTERS" = some (.ref aR)
  kR : KT K aR (REGS.map V.str)
  gF : mg "FORMS" = some (.ref dF)
  kF : KDict K w dF es nF
  lF : ∀ z, PySem.W.nsIn K dF z = some ((formOf z).map fun _ => Value.ref (tF z))
  tF : ∀ z ws, formOf z = some ws → KT K (tF z) (ws.map V.str)
  zi : mg "isinstance" = none
  zs : mg "str" = none
  zl : mg "len" = none
  za : mg "all" = none
  zy : mg "any" = none
  zn : mg "int" = none
  zz : mg "zip" = none
theorem b_isi : bootBuiltins "isinstance" = some (.builtin "isinstance") := by decide +kernel
theorem b_str : bootBuiltins "str" = some (.type "str") := by decide +kernel
theorem b_all : bootBuiltins "all" = some (.builtin "all") := by decide +kernel
theorem b_any : bootBuiltins "any" = some (.builtin "any") := by decide +kernel
theorem b_int : bootBuiltins "int" = some (.type "int") := by decide +kernel
/-- no text: isinstance tells -/
def NoStr (K : PySem.W.Frag) (H : Hp) (v : V) : Prop := ∃ t, TyX K H v t ∧ PySem.W.kitOne K t (.type "str") = some false
section
variable {P : Program} {w : World} {K : PySem.W.Frag} {mg : Str → Option Value} {base : Heap} {aO aR dF : Addr} {es : Array DictEntry} {nF : Nat} {tF : Str → Addr}
theorem len_cps (z : Str) : z.cps.toList.length = z.length := by
  show z.cps.toList.length = z.cps.size
  simp
theorem others_in (z : Str) : inV (.str z) (OTHERS.map V.str) = OTHERS.contains z := by
  have key : ∀ l : List Str, inV (.str z) (l.map V.str) = l.contains z := by
    intro l
    induction l with
    | nil => rfl
    | cons x r ih =>
      show (eqV (.str x) (.str z) || inV (.str z) (r.map V.str)) = _
      rw [ih, List.contains_cons]
      congr 1
      show (x == z) = (z == x)
      exact Bool.beq_comm
  exact key OTHERS
/-! ### is_name -/
def spIsName (K : PySem.W.Frag) : Sp := fun vs H Q _ => ∃ v, vs = [v] ∧ ((∃ z, v = .str z ∧ z.length ≤ sizeLine ∧ ∀ H', Same H H' → Q (.bl (isName z)) H') ∨ (NoStr K H v ∧ Q (.bl false) H))
theorem scN : FnScope ["value", "sign"] ["value"] (defScope sIsName) := ⟨rfl, rfl, rfl, by decide +kernel, rfl, by decide +kernel, by decide +kernel⟩
theorem ok_isName {f : Addr} {fd : FuncData} {k : Nat} (F : Fun K "is_name" "is_name" sIsName f fd) (T : TT K w mg aO aR dF es nF tF) : FnOk P w K mg base CX0 (k + 1) f fd ["value"] (spIsName K) := by
  obtain ⟨tL, gL⟩ := T.gL
  obtain ⟨tD, gD⟩ := T.gD
  obtain ⟨t8, g8⟩ := T.g8
  refine F.ok scN (fun vs H Q E h => ?_) (fun cdv A outer s H vs Q E hr h => ?_)
  · obtain ⟨v, rfl, _⟩ := h
    rfl
  · obtain ⟨v, rfl, q⟩ := h
    refine ⟨_, pss_cons (ps_if (PW.pt (pw_or (pt_not (pt_val (pe_callB call_isi (by rfl) T.zi b_isi (pa_cons (pv 0) (pa_cons (pe_bltn rfl T.zs b_str (v := .ty "str") rfl) pa_nil)))))
        (pw_or1 (pt_not (pt_chain op_le op_le pe_int (pe_callB call_len_str (by rfl) T.zl PySem.boot_len (pa_cons (pv 0) pa_nil)) (pe_glob rfl g8 (v := .int 8) ⟨_, rfl⟩)))))) (pss_one (ps_ret pe_bl)) pss_nil)
      (pss_cons (ps_if (PW.pt (pw_or (pt_cmpR op_in_seq (pv 0) (pe_glob rfl T.gO (v := .ref aO) rfl) (by rfl)) (pw_or1 (pt_cmpR (op_in_kd T.kF) (pv 0) (pe_glob rfl T.gF (v := .ref dF) rfl) (by rfl))))) (pss_one (ps_ret pe_bl)) pss_nil)
      (pss_one (ps_ret (pe_and (pe_cmpR op_in_sign (pe_ix ix_str (pv 0) pe_int (fun _ _ => rfl)) (pe_glob rfl gL (v := .str LET) ⟨_, rfl⟩) (by rfl))
        (pe_one (pe_callB (cr_all rfl) (by rfl) T.za b_all (pa_cons (pe_lc (own := [("sign", 1)]) (g := gName 1) (tt := tYes) rfl scN.nd (pi_str (pv 0)) (blkOk_by (N := ["value", "sign"]) (sc := defScope sIsName) (by decide +kernel)) (fun _ _ _ _ _ => pg_name (i := 1) scN.nd rfl (Or.inl rfl)) (fun _ _ _ _ _ => pts_nil)
          (fun _ _ _ _ _ => pe_or (pe_cmpR op_in_sign (pv 1) (pe_glob rfl gL (v := .str LET) ⟨_, rfl⟩) (by rfl)) (pe_one (pe_cmpR op_in_sign (pv 1) (pe_glob rfl gD (v := .str DIG) ⟨_, rfl⟩) (by rfl))))) pa_nil))))))), ?_⟩
    rcases q with ⟨z, rfl, hz, q⟩ | ⟨⟨t, ty, kt⟩, q⟩
    · have hq : ∀ (H' : Hp) (b : Bool), Same H H' → isName z = b → Q (.bl b) H' := fun H' b s e => by rw [← e]; exact q H' s
      have ks : PySem.W.kitOne K (.type "str") (.type "str") = some true := kit_ty (by decide +kernel)
      refine ⟨.str z, rfl, .str z, .ty "str", .type "str", .type "str", true, rfl, .ty "str", .base (.str z), ks, true, rfl, iteF ?_⟩
      refine ⟨.str z, rfl, z, rfl, hz, _, _, rfl, rfl, _, rfl, ?_⟩
      refine ite2 (fun h1 => ?_) (fun h1 => ⟨_, rfl, iteT (hq H false (Same.refl H) ?_)⟩)
      · refine ⟨_, _, rfl, rfl, _, rfl, ?_⟩
        by_cases h2 : (z.length : Int) ≤ 8
        · rw [decide_eq_true h2]
          refine iteF ?_
          refine ⟨.str z, rfl, aO, _, rfl, .inr (T.kO.sq H), rfl, by decide, ?_⟩
          rw [show (if false = true then !inV (V.str z) (OTHERS.map V.str) else inV (V.str z) (OTHERS.map V.str)) = OTHERS.contains z from others_in z]
          refine ⟨_, rfl, ?_⟩
          by_cases h3 : OTHERS.contains z = true
          · rw [h3]
            exact iteT (iteT (hq H false (Same.refl H) (by simp only [isName, h3, Bool.not_true, Bool.and_false, Bool.false_and])))
          · have h3' : OTHERS.contains z = false := by simpa using h3
            rw [h3']
            refine iteF ⟨.str z, rfl, z, _, rfl, rfl, T.lF z, _, rfl, ?_⟩
            by_cases h4 : (formOf z).isSome = true
            · rw [Option.isSome_map, h4]
              exact iteT (hq H false (Same.refl H) (by simp only [isName, h4, Bool.not_true, Bool.and_false, Bool.false_and]))
            · have h4' : (formOf z).isSome = false := by simpa using h4
              rw [Option.isSome_map, h4']
              refine iteF ?_
              have h1' : (1 : Int) ≤ (z.length : Int) := of_decide_eq_true h1
              obtain ⟨c, hc⟩ : ∃ c, z.cps.toList[0]? = some c := ⟨_, List.getElem?_eq_getElem (by rw [len_cps]; omega)⟩
              have n1 : decide (1 ≤ z.length) = true := decide_eq_true (by omega)
              have n2 : decide (z.length ≤ 8) = true := decide_eq_true (by omega)
              refine ⟨.str z, rfl, z, 0, c, rfl, rfl, hz, atI_nat (j := 0) hc, c, LET, rfl, rfl, _, rfl, ?_⟩
              refine ite2 (fun h5 => ?_) (fun h5 => hq H false (Same.refl H) ?_)
              · refine ⟨.str z, rfl, z, rfl, fun D hD => ?_⟩
                refine lc_it walk_str (fun i H' => Same H H' ∧ H' D = some (.lst ((z.cps.toList.take i).map fun c => V.bl (inL c || inD c)))) ⟨same_new hD, upd_same⟩ (fun _ _ _ _ => True.intro) (fun i x H1 H2 hi ⟨s1, e1⟩ ⟨eH, c', hc', ex⟩ => ?_) (fun H1 ⟨s1, e1⟩ => ?_)
                · subst eH
                  subst ex
                  have hi' : z.cps.toList[i]? = some c' := by simpa using hc'
                  have adv : (z.cps.toList.take (i + 1)).map (fun c => V.bl (inL c || inD c)) = (z.cps.toList.take i).map (fun c => V.bl (inL c || inD c)) ++ [V.bl (inL c' || inD c')] := by
                    rw [List.take_add_one, hi', List.map_append]
                    rfl
                  have sm : ((z.cps.toList.take i).map fun c => V.bl (inL c || inD c)).length < sizeLine := by
                    rw [List.length_map, List.length_take]
                    exact small1000 (by have := len_cps z; omega)
                  refine ⟨rfl, ?_⟩
                  refine ⟨.str ⟨#[c']⟩, rfl, c', LET, rfl, rfl, _, rfl, ?_⟩
                  have fin : ∀ b : Bool, b = (inL c' || inD c') → ∃ acc, H2 D = some (.lst acc) ∧ acc.length < sizeLine ∧ Same H (upd H2 D (.lst (acc ++ [.bl b]))) ∧ (upd H2 D (.lst (acc ++ [.bl b]))) D = some (.lst ((z.cps.toList.take (i + 1)).map fun c => V.bl (inL c || inD c))) := fun b eb =>
                    ⟨_, e1, sm, fun a o e => by rw [upd_ne (ne_of_none e hD)]; exact s1 _ _ e, by rw [upd_same, adv, eb]⟩
                  refine ite2 (fun h6 => fin true ?_) (fun h6 => ⟨.str ⟨#[c']⟩, rfl, c', DIG, rfl, rfl, fin _ ?_⟩)
                  · have h7 : inL c' = true := h6
                    rw [h7]
                    rfl
                  · have h7 : inL c' = false := by
                      have : ¬ inL c' = true := h6
                      simpa using this
                    rw [h7]
                    rfl
                · have e2 : H1 D = some (.lst ((z.cps.toList.map fun c => inL c || inD c).map V.bl)) := by
                    rw [e1, List.take_of_length_le (by simp), List.map_map]
                    rfl
                  refine ⟨D, _, rfl, SqL.of e2, hq H1 _ s1 ?_⟩
                  have h5' : inL c = true := h5
                  simp only [isName, n1, n2, h3', h4', hc, Option.any_some, h5', Bool.not_false, Bool.and_true, Bool.true_and, List.all_map]
                  rfl
              · have h5' : inL c = false := by
                  have : ¬ inL c = true := h5
                  simpa using this
                simp only [isName, hc, Option.any_some, h5', Bool.and_false, Bool.false_and]
        · rw [decide_eq_false h2]
          refine iteT (hq H false (Same.refl H) ?_)
          have n2 : decide (z.length ≤ 8) = false := decide_eq_false (by omega)
          simp only [isName, n2, Bool.and_false, Bool.false_and]
      · have n1 : decide (1 ≤ z.length) = false := decide_eq_false (by
          have h1' : ¬ (1 : Int) ≤ (z.length : Int) := fun e => h1 (decide_eq_true e)
          omega)
        simp only [isName, n1, Bool.false_and]
    · refine ⟨v, rfl, v, .ty "str", t, .type "str", false, rfl, .ty "str", ty, kt, false, rfl, iteT ?_⟩
      exact iteT q
end
end TX

set_option Elab.async false
set_option linter.all false
set_option maxRecDepth 100000
set_option maxHeartbeats 4000000
namespace TX
open PySem PySem.Spec PyProof.Rows L2 L2.FK FS
section
variable {X : Cx} {e : Expr}
/-- [t for sign in text], a test of each sign -/
def tCS (i j : Nat) (f : Nat → Bool) : TE := fun σ H Q => ∃ z, σ[i]? = some (some (.str z)) ∧ z.length ≤ sizeLine ∧ j < σ.length ∧ ∀ D H', Same H H' → H' D = some (.lst ((z.cps.toList.map f).map V.bl)) → Q (.ref D) H'
theorem pe_cs {i j : Nat} {te : TE} (f : Nat → Bool) (h : PE X e (tLc (iStr (tVar i)) (gName j) tYes te [j])) (hte : ∀ (c : Nat) (σ : L2.St) (H : Hp) (Q : VK), σ[j]? = some (some (.str ⟨#[c]⟩)) → Q (.bl (f c)) H → te σ H Q) : PE X e (tCS i j f) := by
  refine pe_imp h fun σ H Q ⟨z, hi, hz, hj, q⟩ => ⟨.str z, hi, z, rfl, fun D hD => ?_⟩
  refine lc_it walk_str (fun i H' => Same H H' ∧ H' D = some (.lst ((z.cps.toList.take i).map fun c => V.bl (f c)))) ⟨same_new hD, upd_same⟩ (fun _ _ _ _ => True.intro) (fun i x H1 H2 hi ⟨s1, e1⟩ ⟨eH, c', hc', ex⟩ => ?_) (fun H1 ⟨s1, e1⟩ => ?_)
  · subst eH
    subst ex
    have hi' : z.cps.toList[i]? = some c' := by simpa using hc'
    have adv : (z.cps.toList.take (i + 1)).map (fun c => V.bl (f c)) = (z.cps.toList.take i).map (fun c => V.bl (f c)) ++ [V.bl (f c')] := by
      rw [List.take_add_one, hi', List.map_append]
      rfl
    refine ⟨by simp [wipe], hte c' _ _ _ (by simp [wipe, hj]) ⟨_, e1, ?_, fun a o e => ?_, ?_⟩⟩
    · rw [List.length_map, List.length_take]
      have h9 : z.cps.size = z.length := rfl
      omega
    · rw [upd_ne (ne_of_none e hD)]
      exact s1 _ _ e
    · rw [upd_same, adv]
  · refine q D H1 s1 ?_
    rw [e1, List.take_of_length_le (by simp), List.map_map]
    rfl
end
theorem int_some {z : Str} (h1 : 1 ≤ z.length) (h2 : z.length ≤ 2) (hd : z.cps.toList.all inD = true) : ∃ n : Int, PySem.intText? z = some n ∧ 0 ≤ n ∧ n ≤ 99 := by
  obtain ⟨⟨l⟩⟩ := z
  have k1 : ∀ c ∈ DIG.cps.toList, (match PySem.intText? ⟨#[c]⟩ with | some n => decide (0 ≤ n ∧ n ≤ 99) | none => false) = true := by decide +kernel
  have k2 : ∀ c ∈ DIG.cps.toList, ∀ d ∈ DIG.cps.toList, (match PySem.intText? ⟨#[c, d]⟩ with | some n => decide (0 ≤ n ∧ n ≤ 99) | none => false) = true := by decide +kernel
  have fin : ∀ w : Str, (match PySem.intText? w with | some n => decide (0 ≤ n ∧ n ≤ 99) | none => false) = true → ∃ n : Int, PySem.intText? w = some n ∧ 0 ≤ n ∧ n ≤ 99 := fun w h => by
    cases e : PySem.intText? w with
    | none => rw [e] at h; cases h
    | some n =>
      rw [e] at h
      have h' := of_decide_eq_true h
      exact ⟨n, rfl, h'.1, h'.2⟩
  match l, h1, h2, hd with
  | [c], _, _, hd =>
    have hc : c ∈ DIG.cps.toList := by
      have : inD c = true := by simpa using hd
      exact of_decide_eq_true this
    exact fin _ (k1 c hc)
  | [c, d], _, _, hd =>
    have hc : inD c = true ∧ inD d = true := by simpa using hd
    exact fin _ (k2 c (of_decide_eq_true hc.1) d (of_decide_eq_true hc.2))
def optI : Option Int → V
  | some n => .int n
  | none => .non
def spReadInt : Sp := fun vs H Q _ => ∃ z, vs = [.str z] ∧ z.length ≤ sizeLine ∧ ∀ H', Same H H' → Q (optI (readInt z)) H'
section
variable {P : Program} {w : World} {K : PySem.W.Frag} {mg : Str → Option Value} {base : Heap} {aO aR dF : Addr} {es : Array DictEntry} {nF : Nat} {tF : Str → Addr}
theorem scR : FnScope ["word", "sign"] ["word"] (defScope sReadInt) := ⟨rfl, rfl, rfl, by decide +kernel, rfl, by decide +kernel, by decide +kernel⟩
theorem zero_sign (c : Nat) : decide ((V.str ⟨#[c]⟩) = (V.str "0")) = decide (c = 48) := by
  by_cases h : c = 48
  · subst h
    rfl
  · rw [decide_eq_false h]
    refine decide_eq_false fun e => h ?_
    have e2 := V.str.inj e
    have e3 : (Str.ofString "0") = ⟨#[48]⟩ := by decide
    rw [e3] at e2
    have e4 := congrArg (fun s : Str => s.cps.toList) e2
    simpa using e4
theorem ok_readInt {f : Addr} {fd : FuncData} {k : Nat} (F : Fun K "read_integer" "read_integer" sReadInt f fd) (T : TT K w mg aO aR dF es nF tF) : FnOk P w K mg base CX0 (k + 1) f fd ["word"] spReadInt := by
  obtain ⟨tD, gD⟩ := T.gD
  refine F.ok scR (fun vs H Q E h => ?_) (fun cdv A outer s H vs Q E hr h => ?_)
  · obtain ⟨v, rfl, _⟩ := h
    rfl
  · obtain ⟨z, rfl, hz, q⟩ := h
    refine ⟨_, pss_cons (ps_if (PW.pt (pw_or (pt_not (pt_chain op_le op_le pe_int (pe_callB call_len_str (by rfl) T.zl PySem.boot_len (pa_cons (pv 0) pa_nil)) pe_int))
        (pw_or1 (pt_not (pt_val (pe_callB (cr_all rfl) (by rfl) T.za b_all (pa_cons (pe_cs (i := 0) (j := 1) inD (pe_lc (own := [("sign", 1)]) (g := gName 1) (tt := tYes) rfl scR.nd (pi_str (pv 0)) (blkOk_by (N := ["word", "sign"]) (sc := defScope sReadInt) (by decide +kernel)) (fun _ _ _ _ _ => pg_name (i := 1) scR.nd rfl (Or.inl rfl)) (fun _ _ _ _ _ => pts_nil)
          (fun _ _ _ _ _ => pe_cmpR op_in_sign (pv 1) (pe_glob rfl gD (v := .str DIG) ⟨_, rfl⟩) (by rfl))) (fun c σ H Q hc hq => ⟨_, hc, c, DIG, rfl, rfl, hq⟩)) pa_nil))))))) (pss_one (ps_ret pe_non)) pss_nil)
      (pss_cons (ps_if (PW.pt (pw_and (pt_cmpR op_eq (pe_callB call_len_str (by rfl) T.zl PySem.boot_len (pa_cons (pv 0) pa_nil)) pe_int (nomark _)) (pw_and1 (pt_cmpR op_eq (pe_ix ix_str (pv 0) pe_int (fun _ _ => rfl)) pe_str (nomark _))))) (pss_one (ps_ret pe_non)) pss_nil)
      (pss_one (ps_ret (pe_callTy call_int_str (by rfl) T.zn b_int (pa_cons (pv 0) pa_nil))))), ?_⟩
    have hq : ∀ (H' : Hp) (v : V), Same H H' → optI (readInt z) = v → Q v H' := fun H' b s e => by rw [← e]; exact q H' s
    refine ⟨.str z, rfl, z, rfl, hz, _, _, rfl, rfl, _, rfl, ?_⟩
    refine ite2 (fun h1 => ?_) (fun h1 => ⟨_, rfl, iteT (hq H _ (Same.refl H) ?_)⟩)
    · refine ⟨_, _, rfl, rfl, _, rfl, ?_⟩
      have n1 : decide (1 ≤ z.length) = true := decide_eq_true (by have := of_decide_eq_true h1; omega)
      by_cases h2 : (z.length : Int) ≤ 2
      · rw [decide_eq_true h2]
        have n2 : decide (z.length ≤ 2) = true := decide_eq_true (by omega)
        refine iteF ?_
        refine ⟨z, rfl, hz, (by show 1 < 2; decide), fun D H1 s1 e1 => ?_⟩
        refine ⟨D, _, rfl, SqL.of e1, _, rfl, ?_⟩
        have ea : (z.cps.toList.map inD).all id = z.cps.toList.all inD := by rw [List.all_map]; rfl
        rw [ea]
        by_cases h3 : z.cps.toList.all inD = true
        · rw [h3]
          refine iteF ?_
          refine ⟨.str z, rfl, z, rfl, hz, rfl, _, rfl, ?_⟩
          obtain ⟨m, em, m0, m9⟩ := int_some (of_decide_eq_true n1) (of_decide_eq_true n2) h3
          have h640 : z.length ≤ 640 := by omega
          have base0 : readInt z = if z.length == 2 && z.cps.toList[0]? == some 48 then none else PySem.intText? z := by
            unfold readInt
            rw [n1, n2, h3]
            rfl
          refine ite2 (fun h4 => ?_) (fun h4 => iteF ?_)
          · obtain ⟨c, hc⟩ : ∃ c, z.cps.toList[0]? = some c := ⟨_, List.getElem?_eq_getElem (by rw [len_cps]; have := of_decide_eq_true n1; omega)⟩
            have l2 : z.length = 2 := by
              have := V.int.inj (of_decide_eq_true h4)
              omega
            refine ⟨.str z, rfl, z, 0, c, rfl, rfl, hz, atI_nat (j := 0) hc, rfl, _, rfl, ?_⟩
            rw [zero_sign]
            by_cases h5 : c = 48
            · rw [decide_eq_true h5]
              refine iteT (hq H1 _ s1 ?_)
              rw [base0, l2, hc, h5]
              rfl
            · rw [decide_eq_false h5]
              refine iteF ⟨.str z, rfl, z, m, rfl, em, h640, hq H1 _ s1 ?_⟩
              have e5 : (some c == some 48) = false := by simpa using h5
              rw [base0, l2, hc, e5, em]
              rfl
          · refine ⟨.str z, rfl, z, m, rfl, em, h640, hq H1 _ s1 ?_⟩
            have e6 : (z.length == 2) = false := by
              have : ¬ z.length = 2 := fun e => h4 (decide_eq_true (by rw [e]; rfl))
              simpa using this
            rw [base0, e6, em]
            rfl
        · have h3' : z.cps.toList.all inD = false := by simpa using h3
          rw [h3']
          refine iteT (hq H1 _ s1 ?_)
          unfold readInt
          rw [h3']
          simp [optI]
      · rw [decide_eq_false h2]
        refine iteT (hq H _ (Same.refl H) ?_)
        have n2 : decide (z.length ≤ 2) = false := decide_eq_false (by omega)
        unfold readInt
        rw [n2]
        simp [optI]
    · have n1 : decide (1 ≤ z.length) = false := decide_eq_false (by
        have h1' : ¬ (1 : Int) ≤ (z.length : Int) := fun e => h1 (decide_eq_true e)
        omega)
      unfold readInt
      rw [n1]
      simp [optI]
end
end TX

set_option Elab.async false
set_option linter.all false
set_option maxRecDepth 100000
set_option maxHeartbeats 4000000
/-! zip of a list and a tuple. -/
namespace FS
open PySem PySem.Spec PyProof.Rows L2
def ItM (K : PySem.W.Frag) (a b : Addr) : It :=
  ⟨fun i H => ∃ (xs ys : List V) (x y : V), SqL K H a xs ∧ SqT K H b ys ∧ xs[i]? = some x ∧ ys[i]? = some y,
    fun i H v H' => ∃ T x y, v = .ref T ∧ H T = none ∧ H' = upd H T (.tup [x, y]) ∧ (∀ xs, SqL K H a xs → xs[i]? = some x) ∧ ∀ ys, SqT K H b ys → ys[i]? = some y,
    fun i H => ∃ xs ys : List V, SqL K H a xs ∧ SqT K H b ys ∧ (i = xs.length ∨ i = ys.length) ∧ i ≤ xs.length ∧ i ≤ ys.length⟩
theorem turn_zipM {P : Program} {w : World} {K : PySem.W.Frag} {elts : List Expr} {kk : Nat} {tpos : Pos} {a b z TI TO i1 i2 : Addr} (S : ZipSep2 z TI TO i1 i2 [i1, a] [i2, b]) (na : a ≠ i1) (nb : b ≠ i2) :
    Turn P w K (.Tuple elts kk tpos) (ItM K a b) [z, TI, TO, i1, i2] z (fun i h => IsZip h z TI TO .none ∧ IsTupOf2 h TI (.ref i1) (.ref i2) ∧ (∃ x y, IsTupOf2 h TO x y) ∧ h.IsListIter i1 a i ∧ h.IsTupleIter i2 b i) where
  mem := by simp
  obj := fun i h ⟨q1, q2, ⟨x, y, q3⟩, ⟨o1, e1, _, d1⟩, ⟨o2, e2, _, d2⟩⟩ c hc => by
    have hcs : c = z ∨ c = TI ∨ c = TO ∨ c = i1 ∨ c = i2 := by simpa using hc
    rcases hcs with rfl | rfl | rfl | rfl | rfl
    · exact ⟨_, q1, fun v q => nomatch q⟩
    · exact ⟨_, q2, fun v q => nomatch q⟩
    · exact ⟨_, q3, fun v q => nomatch q⟩
    · exact ⟨o1, e1, fun v q => by rw [d1] at q; cases q⟩
    · exact ⟨o2, e2, fun v q => by rw [d2] at q; cases q⟩
  keep := fun i h h' ⟨q1, q2, ⟨x, y, q3⟩, q4, q5⟩ k => ⟨k z (by simp) _ q1, k TI (by simp) _ q2, ⟨x, y, k TO (by simp) _ q3⟩, q4.at fun o q => k i1 (by simp) o q, q5.at fun o q => k i2 (by simp) o q⟩
  item := by
    intro X eP ew eK hc i pins s σ H E I hf ⟨q1, q2, ⟨x0, y0, q3⟩, q4, q5⟩ ⟨xs, ys, x, y, hqx, hqy, hx, hy⟩
    subst eP ew eK
    obtain ⟨its, rv, p1, _⟩ := I.list hqx
    obtain ⟨its2, rv2, p2, _⟩ := I.tuple hqy
    obtain ⟨u, hu, ru⟩ := rv.get hx
    obtain ⟨u2, hu2, ru2⟩ := rv2.get hy
    have hh : X.A.in1.handled = none := I.ok.hd hc
    have hu' : its.toArray[i]? = some u := by simpa using hu
    have hu2' : its2.toArray[i]? = some u2 := by simpa using hu2
    have l1 : i < its.toArray.size := (Array.getElem?_eq_some_iff.mp hu').1
    have l2 : i < its2.toArray.size := (Array.getElem?_eq_some_iff.mp hu2').1
    have hzl : z < s.heap.objs.size := Heap.lt_size q1
    refine wpAny_pyNext_zipD2_item S (.list hh i1 a na its.toArray) (.tuple hh i2 b nb its2.toArray) q1 q2 q3 ⟨q4, p1.isList⟩ ⟨q5, p2⟩ l1 l2 fun v1 v2 h' tk e1 e2 z1 t1 st1 st2 tt hsz hk => ?_
    obtain rfl : v1 = u := Option.some.inj (e1.symm.trans hu')
    obtain rfl : v2 = u2 := Option.some.inj (e2.symm.trans hu2')
    refine ⟨_, rfl, wpAny_letOwnedTupleGo_zip (s := { s with heap := h', toks := tk }) z1 fun h'' z'' sb => ?_⟩
    have tt2 : IsTupOf2 h'' s.heap.objs.size v1 v2 := (sb.2 _ (Nat.ne_of_gt hzl)).trans tt
    have new : ObjOk X.prog X.w (upd H s.heap.objs.size (.tup [x, y])) h'' s.heap.objs.size (.tup [x, y]) := ⟨by show 2 ≤ sizeLine; decide, [v1, v2], .cons ru (.cons ru2 .nil), ⟨_, tt2, rfl, _, rfl⟩⟩
    have kk : ∀ c o, c ∉ [z, TI, TO, i1, i2] → s.heap.get? c = some o → h''.get? c = some o := fun c o hb q => (sb.2 c (fun q' => hb (by simp [q']))).trans (hk c o (fun q' => hb (by simp [q'])) (fun q' => hb (by simp [q'])) (fun q' => hb (by simp [q'])) (fun q' => hb (by simp [q'])) q)
    have I1 : Inv X pins σ (upd H s.heap.objs.size (.tup [x, y])) { s with heap := h'', toks := tk } := I.turnedNew (t' := tk) (ch := [z, TI, TO, i1, i2]) kk hf (Nat.le_refl _) new
    have zi1 := S.zi1
    have zi2 := S.zi2
    refine ⟨.ref s.heap.objs.size, _, I1, rfl, ⟨_, x, y, rfl, I.hok.fresh (Nat.le_refl _), rfl, fun l hl => by rw [I.list_inj hl hqx]; exact hx, fun l hl => by rw [I.tuple_inj hl hqy]; exact hy⟩, ⟨z'', ?_, ⟨v1, v2, ?_⟩, ?_, ?_⟩, fun c hcm => ?_⟩
    · exact (sb.2 _ S.TIz).trans (hk _ _ S.TIz S.TITO S.TIi1 S.TIi2 q2)
    · exact (sb.2 _ S.TOz).trans t1
    · exact st1.1.at fun o q => (sb.2 _ zi1.symm).trans q
    · exact st2.1.at fun o q => (sb.2 _ zi2.symm).trans q
    · have hlt : c < s.heap.objs.size := by
        have hcs : c = z ∨ c = TI ∨ c = TO ∨ c = i1 ∨ c = i2 := by simpa using hcm
        rcases hcs with rfl | rfl | rfl | rfl | rfl
        · exact hzl
        · exact Heap.lt_size q2
        · exact Heap.lt_size q3
        · obtain ⟨_, e9, _⟩ := q4; exact Heap.lt_size e9
        · obtain ⟨_, e9, _⟩ := q5; exact Heap.lt_size e9
      rw [upd_ne (Nat.ne_of_lt hlt)]
      exact (hf c hcm).1
  done := by
    intro X eP ew eK hc i pins s σ H E I hf ⟨q1, q2, ⟨x0, y0, q3⟩, q4, q5⟩ ⟨xs, ys, hqx, hqy, hend, h1, h2⟩
    subst eP ew eK
    obtain ⟨its, rv, p1, _⟩ := I.list hqx
    obtain ⟨its2, rv2, p2, _⟩ := I.tuple hqy
    have hh : X.A.in1.handled = none := I.ok.hd hc
    have n1 := rv.length
    have n2 := rv2.length
    have z1 : its.toArray.size = its.length := List.size_toArray
    have z2 : its2.toArray.size = its2.length := List.size_toArray
    refine wpAny_pyNext_zipD2_end S (.list hh i1 a na its.toArray) (.tuple hh i2 b nb its2.toArray) q1 q2 q3 ⟨q4, p1.isList⟩ ⟨q5, p2⟩ (by omega) (by omega) (by omega) fun h' tk hk => ⟨rfl, ?_⟩
    exact I.turnedL (t' := tk) (ch := [z, TI, TO, i1, i2]) (fun c o hb q => hk c o (fun q' => hb (by simp [q'])) (fun q' => hb (by simp [q'])) (fun q' => hb (by simp [q'])) (fun q' => hb (by simp [q'])) q) hf
  self := fun A i s Q E st h => wpAny_pyIter_zip st.1 h
def iZipM (K : PySem.W.Frag) (ta : TA) : TI := fun σ H R => ta σ H fun vs H1 => ∃ a b xs ys, vs = [.ref a, .ref b] ∧ SqL K H1 a xs ∧ SqT K H1 b ys ∧ R (ItM K a b) H1
theorem pi_zipM {X : Cx} {e e2 : Expr} {ta : TA} {p pos tpos : Pos} {elts : List Expr} {kk : Nat} (hg : Gl X "zip") (hm : X.mg "zip" = none) (ha : PA X [e, e2] ta)
    (hs : starEach [e, e2] X.env = (false, eval e X.env) :: starEach [e2] X.env := by rfl) (hpl : (backTo pos (starEach [e2] X.env)).any (·.1) = false := by rfl) :
    PI X (.Tuple elts kk tpos) (.Call (.Name "zip" p) [e, e2] [] pos) (iZipM X.K ta) := by
  refine ⟨fun pins s0 σ H R I h => ?_⟩
  refine Call_ (ld_blt I hg hm PyProof.Rows.boot_zip (PyProof.Rows.callWith_type1 (thn (ha.run pos pins s0 σ H _ I h) fun us s1 ⟨vs, H1, I1, r1, a, b, xs, ys, ex, hqx, hqy, q⟩ => ?_) hs hpl))
  subst ex
  obtain ⟨u1, u2, rfl, ra, rb⟩ := vals2 r1
  cases (show u1 = Value.ref a from ra)
  cases (show u2 = Value.ref b from rb)
  obtain ⟨its, rv, p1, _⟩ := I1.list hqx
  obtain ⟨its2, rv2, p2, _⟩ := I1.tuple hqy
  have la : a < s1.heap.objs.size := p1.lt
  have lb : b < s1.heap.objs.size := by obtain ⟨o, ho, _⟩ := id p2; exact Heap.lt_size ho
  refine zip_begins2 (begins_list a its.toArray) (begins_tuple b its2.toArray) p1.isList p2 fun h' hz hTI hTO e1 e2 hsz hk => wpAny_pyIter_zip hz ?_
  have I2 : Inv X pins σ H1 { s1 with heap := h' } := I1.kept (t' := s1.toks) hk
  have S : ZipSep2 (s1.heap.objs.size + 4) (s1.heap.objs.size + 2) (s1.heap.objs.size + 3) s1.heap.objs.size (s1.heap.objs.size + 1) [s1.heap.objs.size, a] [s1.heap.objs.size + 1, b] := zip_sep2 (fp1 := [a]) (fp2 := [b]) (by simpa using la) (by simpa using lb)
  refine ⟨s1.heap.objs.size + 4, [s1.heap.objs.size + 4, s1.heap.objs.size + 2, s1.heap.objs.size + 3, s1.heap.objs.size, s1.heap.objs.size + 1], _, _, H1, rfl, I2, turn_zipM S (Nat.ne_of_lt la) (Nat.ne_of_lt (Nat.lt_succ_of_lt lb)), ⟨hz, hTI, ⟨_, _, hTO⟩, ⟨_, e1, rfl, rfl⟩, ⟨_, e2, rfl, rfl⟩⟩, fun c hcm => ?_, q⟩
  have hle : s1.heap.objs.size ≤ c := by
    have hcs : c = s1.heap.objs.size + 4 ∨ c = s1.heap.objs.size + 2 ∨ c = s1.heap.objs.size + 3 ∨ c = s1.heap.objs.size ∨ c = s1.heap.objs.size + 1 := by simpa using hcm
    rcases hcs with rfl | rfl | rfl | rfl | rfl <;> first | exact Nat.le_refl _ | exact Nat.le_add_right _ _
  exact I1.fpOk hle (I1.hok.fresh hle)
theorem walk_zipM {K : PySem.W.Frag} {a b : Addr} {xs ys : List V} {n : Nat} (hn : n = min xs.length ys.length) : Walk (ItM K a b) n (fun H => SqL K H a xs ∧ SqT K H b ys) (YPair (fun i => xs[i]?) (fun i => ys[i]?)) := by
  subst hn
  refine ⟨fun i H hi ⟨q1, q2⟩ => ⟨xs, ys, xs[i]'(by omega), ys[i]'(by omega), q1, q2, List.getElem?_eq_getElem _, List.getElem?_eq_getElem _⟩, fun H ⟨q1, q2⟩ => ⟨xs, ys, q1, q2, by omega, by omega, by omega⟩, fun i H v H' _ ⟨q1, q2⟩ ⟨T, x, y, e, n, eH, f1, f2⟩ => ⟨T, x, y, e, n, eH, f1 _ q1, f2 _ q2⟩⟩
end FS

set_option Elab.async false
set_option linter.all false
set_option maxRecDepth 100000
set_option maxHeartbeats 4000000
namespace TX
open PySem PySem.Spec PyProof.Rows L2 L2.FK FS
section
variable {X : Cx} {o e : Expr} {apos cpos : Pos} {td ty : TE}
/-- D.get(k), D a written dict with text keys -/
def tKGet (K : PySem.W.Frag) (d : Addr) (td ty : TE) : TE := fun σ H Q => td σ H fun x H1 => x = .ref d ∧ ty σ H1 fun y H2 => ∃ (z : Str) (r : Option Value) (v : V), y = .str z ∧ PySem.W.nsIn K d z = some r ∧ RelV v (r.getD .none) ∧ Q v H2
theorem pe_kget {d : Addr} {es : Array DictEntry} {n : Nat} (D : KDict X.K X.w d es n) (ho : PE X o td) (he : PE X e ty) (m : M1 X o "get" apos e cpos) : PE X (.Call (.Attribute o "get" apos) [e] [] cpos) (tKGet X.K d td ty) := by
  refine ⟨fun pins s0 σ H Q I h => ?_⟩
  refine wpAny_Call_method m.base m.few m.line PySem.F.plainAttrs_dict PySem.F.slot_dict_get PySem.F.type_dict_get (thn (ho.run pins s0 σ H _ I h) fun u s1 ⟨x, H1, I1, rx, ex, q1⟩ => ?_)
  subst ex
  obtain rfl : u = Value.ref d := rx
  refine ⟨kd_type D I1, fun a ea => ⟨_, I1.kIn _ _ (by cases ea; exact D.at_), rfl⟩, ?_⟩
  rw [m.trees]
  refine Calls.callWith_builtin rfl (Calls.evalArgs_plain (Calls.spliced_cons (thn (he.run pins s1 σ H1 _ I1 q1) fun iv s2 ⟨y, H2, I2, ry, z, r, v, ey, en, rv, q2⟩ => Calls.spliced_nil ?_)))
  subst ey
  obtain ⟨t, rfl⟩ := ry
  have hm := PySem.W.mapOf_K (prog := X.prog) (w := X.w) I2.kIn D.at_ D.lit
  refine call_meetsIn PySem.F.slot_dict_get hm.typeIs PySem.F.entry_dict_get (PySem.F.args_dict_get_2 _ _) (meets_dict_get (strKind X.prog X.w) d (strKind_is X.prog X.w z t) D.low) ⟨_, hm, ?_⟩
  rw [PySem.W.find_K D.at_ en]
  exact ⟨v, H2, I2.tok _, rv, q2⟩
end
abbrev sReadPart : Stmt := top (TX.o + 2)
abbrev sReadParts : Stmt := top (TX.o + 3)
abbrev sReadIns : Stmt := top (TX.o + 4)
abbrev sReadDat : Stmt := top (TX.o + 5)
abbrev sSplit : Stmt := top (TX.o + 7)
/-! ### the mirror -/
def readPart (z sort : Str) : V :=
  if sort = "name" then (if isName z then .str z else .non) else if sort = "reg" then (if REGS.contains z then .str z else .non) else optI (readInt z)
section
variable {P : Program} {w : World} {K : PySem.W.Frag} {mg : Str → Option Value} {base : Heap} {aO aR dF : Addr} {es : Array DictEntry} {nF : Nat} {tF : Str → Addr}
theorem inV_strs (z : Str) (l : List Str) : inV (.str z) (l.map V.str) = l.contains z := by
  induction l with
  | nil => rfl
  | cons x r ih =>
    show (eqV (.str x) (.str z) || inV (.str z) (r.map V.str)) = _
    rw [ih, List.contains_cons]
    congr 1
    show (x == z) = (z == x)
    exact Bool.beq_comm
def spReadPart : Sp := fun vs H Q _ => ∃ z sort : Str, vs = [.str z, .str sort] ∧ z.length ≤ sizeLine ∧ ∀ H', Same H H' → Q (readPart z sort) H'
theorem scRP : FnScope ["word", "sort"] ["word", "sort"] (defScope sReadPart) := ⟨rfl, rfl, rfl, by decide +kernel, rfl, by decide +kernel, by decide +kernel⟩
theorem str_eq (a b : Str) : decide ((V.str a) = (V.str b)) = decide (a = b) := by
  by_cases h : a = b
  · subst h
    simp
  · rw [decide_eq_false h]
    exact decide_eq_false fun e => h (V.str.inj e)
theorem ok_readPart {f fN fR : Addr} {fd fdN fdR : FuncData} (F : Fun K "read_part" "read_part" sReadPart f fd) (T : TT K w mg aO aR dF es nF tF)
    (GN : FnOk P w K mg base CX0 1 fN fdN ["value"] (spIsName K)) (bN : Binds K fdN ["value"] []) (gN : mg "is_name" = some (.ref fN)) (kN : PySem.W.keepIn K (.ref fN) = true)
    (GR : FnOk P w K mg base CX0 1 fR fdR ["word"] spReadInt) (bR : Binds K fdR ["word"] []) (gR : mg "read_integer" = some (.ref fR)) (kR : PySem.W.keepIn K (.ref fR) = true) : FnOk P w K mg base CX0 2 f fd ["word", "sort"] spReadPart := by
  refine F.ok scRP (fun vs H Q E h => ?_) (fun cdv A outer s H vs Q E hr h => ?_)
  · obtain ⟨z, sort, rfl, _⟩ := h
    rfl
  · obtain ⟨z, sort, rfl, hz, q⟩ := h
    refine ⟨_, pss_cons (ps_if (pt_cmpR op_eq (pv 1) pe_str (nomark _)) (pss_one (ps_ret (pe_ifExp (pt_val (pe_call GN hr rfl gN kN bN .nil pass0 (pa_cons (pv 0) pa_nil))) (pv 0) pe_non))) pss_nil)
      (pss_cons (ps_if (pt_cmpR op_eq (pv 1) pe_str (nomark _)) (pss_one (ps_ret (pe_ifExp (pt_cmpR op_in_seq (pv 0) (pe_glob rfl T.gR (v := .ref aR) rfl) (by rfl)) (pv 0) pe_non))) pss_nil)
      (pss_one (ps_ret (pe_call GR hr rfl gR kR bR .nil pass0 (pa_cons (pv 0) pa_nil))))), ?_⟩
    have hq : ∀ (H' : Hp) (v : V), Same H H' → readPart z sort = v → Q v H' := fun H' b s e => by rw [← e]; exact q H' s
    refine ⟨.str sort, rfl, rfl, _, rfl, ?_⟩
    rw [str_eq]
    refine ite2 (fun h1 => ?_) (fun h1 => ?_)
    · have e1 : sort = "name" := of_decide_eq_true h1
      refine ⟨.str z, rfl, .str z, rfl, .inl ⟨z, rfl, hz, fun H1 s1 => ⟨_, rfl, ?_⟩⟩⟩
      refine ite2 (fun h2 => ⟨.str z, rfl, hq H1 _ s1 ?_⟩) (fun h2 => hq H1 _ s1 ?_)
      · unfold readPart
        rw [if_pos e1, if_pos h2]
      · unfold readPart
        rw [if_pos e1, if_neg h2]
    · have e1 : ¬ sort = "name" := fun e => h1 (decide_eq_true e)
      refine ⟨.str sort, rfl, rfl, _, rfl, ?_⟩
      rw [str_eq]
      refine ite2 (fun h2 => ?_) (fun h2 => ?_)
      · have e2 : sort = "reg" := of_decide_eq_true h2
        refine ⟨.str z, rfl, aR, _, rfl, .inr (T.kR.sq H), rfl, by decide, _, rfl, ?_⟩
        rw [show (if false = true then !inV (V.str z) (REGS.map V.str) else inV (V.str z) (REGS.map V.str)) = REGS.contains z from inV_strs z REGS]
        refine ite2 (fun h3 => ⟨.str z, rfl, hq H _ (Same.refl H) ?_⟩) (fun h3 => hq H _ (Same.refl H) ?_)
        · unfold readPart
          rw [if_neg e1, if_pos e2, if_pos h3]
        · unfold readPart
          rw [if_neg e1, if_pos e2, if_neg h3]
      · have e2 : ¬ sort = "reg" := fun e => h2 (decide_eq_true e)
        refine ⟨.str z, rfl, z, rfl, hz, fun H1 s1 => hq H1 _ s1 ?_⟩
        unfold readPart
        rw [if_neg e1, if_neg e2]
end
end TX

set_option Elab.async false
set_option linter.all false
set_option maxRecDepth 100000
set_option maxHeartbeats 4000000
namespace TX
open PySem PySem.Spec PyProof.Rows L2 L2.FK FS
/-! ### a comprehension over a list: each item's value by a relation that a growing heap keeps -/
section
variable {X : Cx} {e : Expr} {K : PySem.W.Frag}
/-- the value is no object, or one that was not there -/
def Nw (v : V) (H : Hp) : Prop := ∀ p, v = .ref p → H p = none
def tCG (K : PySem.W.Frag) (R : V → V → Hp → Prop) (Dm : V → Hp → Prop) (tl : TE) (j : Nat) : TE := fun σ H Q => tl σ H fun x H1 => ∃ (l : Addr) (xs : List V), x = .ref l ∧ SqL K H1 l xs ∧ xs.length ≤ sizeLine ∧ j < σ.length ∧ (∀ x ∈ xs, Dm x H1) ∧
  ∀ D H' vs, Same H1 H' → H1 D = none → H' D = some (.lst vs) → Paired (fun x v => R x v H') xs vs → Q (.ref D) H'
theorem paired_mono {R R' : V → V → Prop} (hR : ∀ x v, R x v → R' x v) : ∀ {xs vs : List V}, Paired R xs vs → Paired R' xs vs
  | _, _, .nil => .nil
  | _, _, .cons h t => .cons (hR _ _ h) (paired_mono hR t)
theorem paired_snoc {R : V → V → Prop} {x v : V} : ∀ {xs vs : List V}, Paired R xs vs → R x v → Paired R (xs ++ [x]) (vs ++ [v])
  | _, _, .nil, h => .cons h .nil
  | _, _, .cons a t, h => .cons a (paired_snoc t h)
theorem pe_cg {R : V → V → Hp → Prop} {Dm : V → Hp → Prop} {tl te : TE} {j : Nat} (h : PE X e (tLc (iList K tl) (gName j) tYes te [j])) (hR : ∀ x v H H', Same H H' → R x v H → R x v H') (hU : ∀ x v H D o, (∀ p, v = .ref p → p ≠ D) → R x v H → R x v (upd H D o))
    (hD : ∀ x H H', Same H H' → Dm x H → Dm x H')
    (hm : ∀ σ H (Q Q' : VK), (∀ v H, Q v H → Q' v H) → tl σ H Q → tl σ H Q') (hte : ∀ (x : V) (σ : L2.St) (H : Hp) (Q : VK), σ[j]? = some (some x) → Dm x H → (∀ v H', Same H H' → Nw v H → R x v H' → Q v H') → te σ H Q) : PE X e (tCG K R Dm tl j) := by
  refine pe_imp h fun σ H Q q => hm σ H _ _ (fun x H1 ⟨l, xs, ex, hl, hz, hj, hdm, q⟩ => ⟨l, ex, ⟨_, hl⟩, fun D hD0 => ?_⟩) q
  refine lc_list (xs := xs) (fun i H' => Same H1 H' ∧ ∃ vs, H' D = some (.lst vs) ∧ Paired (fun x v => R x v H' ∧ ∀ p, v = .ref p → p ≠ D) (xs.take i) vs) ⟨same_new hD0, [], upd_same, .nil⟩ (fun _ _ _ h => h.1.seq hl) (fun i x H2 hx ⟨s2, vs, hv, pv⟩ => ?_) (fun H2 ⟨s2, vs, hv, pv⟩ => ?_)
  · have hmem : x ∈ xs := List.mem_of_getElem? hx
    have hi : i < xs.length := (List.getElem?_eq_some_iff.mp hx).1
    refine ⟨by simp [wipe], hte x _ H2 _ (by simp [wipe, hj]) (hD _ _ _ s2 (hdm x hmem)) fun v H3 s3 nv rv => ⟨vs, s3 _ _ hv, ?_, fun b o eb => ?_, vs ++ [v], upd_same, ?_⟩⟩
    · have := pv.length
      rw [← this, List.length_take]
      omega
    · rw [upd_ne (ne_of_none eb hD0)]
      exact s3 _ _ (s2 _ _ eb)
    · rw [List.take_add_one, hx]
      refine paired_snoc (paired_mono (fun x v hh => ⟨hU _ _ _ _ _ hh.2 (hR _ _ _ _ s3 hh.1), hh.2⟩) pv) ?_
      have nd : ∀ p, v = .ref p → p ≠ D := fun p ep => (ne_of_none hv (nv p ep)).symm
      exact ⟨hU _ _ _ _ _ nd rv, nd⟩
  · rw [List.take_length] at pv
    exact q D H2 vs s2 hD0 hv (paired_mono (fun _ _ hh => hh.1) pv)
end
/-! ### the mirror -/
def readParts (ws : List Str) (form : List Str) : Option (List V) := match ws with
  | [] => none
  | w :: rest => if (w :: rest).length ≠ form.length + 1 then none else if (List.zipWith readPart rest form).any (fun v => decide (v = .non)) then none else some (.str w :: List.zipWith readPart rest form)
def readIns : List Str → Option (List V)
  | [] => none
  | w :: rest => match formOf w with
    | none => none
    | some form => if (w :: rest).length ≠ form.length + 1 then none else if (List.zipWith readPart rest form).any (fun v => decide (v = .non)) then none else some (.str w :: List.zipWith readPart rest form)
theorem readIns_none {w : Str} {rest : List Str} (h : formOf w = none) : readIns (w :: rest) = none := by simp only [readIns, h]
theorem readIns_some {w : Str} {rest : List Str} {form : List Str} (h : formOf w = some form) : readIns (w :: rest) = if (w :: rest).length ≠ form.length + 1 then none else if (List.zipWith readPart rest form).any (fun v => decide (v = V.non)) then none else some (V.str w :: List.zipWith readPart rest form) := by simp only [readIns, h]
section
variable {P : Program} {w : World} {K : PySem.W.Frag} {mg : Str → Option Value} {base : Heap} {aO aR dF : Addr} {es : Array DictEntry} {nF : Nat} {tF : Str → Addr}
def Wd (z : Str) : Prop := z.length ≤ sizeLine
theorem form3 {w1 : Str} {form : List Str} (hf : formOf w1 = some form) : form.length ≤ 3 := by
  have key : ∀ p ∈ FORM, p.2.length ≤ 3 := by decide
  exact key _ (PySem.mem_of_lookup hf)
def spReadParts (K : PySem.W.Frag) : Sp := fun vs H Q _ => ∃ (a b : Addr) (ws form : List Str), vs = [.ref a, .ref b] ∧ SqL K H a (ws.map V.str) ∧ (∀ H', Same H H' → SqT K H' b (form.map V.str)) ∧ ws ≠ [] ∧ (∀ z ∈ ws, Wd z) ∧ form.length ≤ 3 ∧
  (readParts ws form = none → ∀ H', Same H H' → Q .non H') ∧ (∀ xs, readParts ws form = some xs → ∀ H' p, Same H H' → H p = none → H' p = some (.tup xs) → Q (.ref p) H')
theorem scRPs : FnScope ["words", "form", "parts", "word", "sort", "part"] ["words", "form"] (defScope sReadParts) := ⟨rfl, rfl, rfl, by decide +kernel, rfl, by decide +kernel, by decide +kernel⟩
theorem ok_readParts {f fP : Addr} {fd fdP : FuncData} (F : Fun K "read_parts" "read_parts" sReadParts f fd) (T : TT K w mg aO aR dF es nF tF)
    (GP : FnOk P w K mg base CX0 2 fP fdP ["word", "sort"] spReadPart) (bP : Binds K fdP ["word", "sort"] []) (gP : mg "read_part" = some (.ref fP)) (kP : PySem.W.keepIn K (.ref fP) = true) : FnOk P w K mg base CX0 3 f fd ["words", "form"] (spReadParts K) := by
  refine F.ok scRPs (fun vs H Q E h => ?_) (fun cdv A outer s H vs Q E hr h => ?_)
  · obtain ⟨a, b, ws, form, rfl, _⟩ := h
    rfl
  · obtain ⟨a, b, ws, form, rfl, hS, hT, hne, hw, hf3, q0, q1⟩ := h
    refine ⟨_, pss_cons (ps_if (pt_cmpR op_ne (pe_callB call_len_seq (by rfl) T.zl PySem.boot_len (pa_cons (pv 0) pa_nil)) (pe_op op_add (pe_callB call_len_seq (by rfl) T.zl PySem.boot_len (pa_cons (pv 1) pa_nil)) pe_int) (nomark _)) (pss_one (ps_ret pe_non)) pss_nil)
      (pss_cons (ps_setLc (i := 2) (own := [("word", 3), ("sort", 4)]) (g := gTup K 2 (gCons (gName 3) (gCons (gName 4) gNil))) (tt := tYes) rfl scRPs.nd rfl rfl (sw_true rfl rfl rfl (by decide +kernel)) (pi_zipM (by rfl) T.zz (pa_cons (pe_slice sl_listS (pv 0) (po_some pe_int) po_none) (pa_cons (pv 1) pa_nil))) (blkOk_by (N := ["words", "form", "parts", "word", "sort", "part"]) (sc := defScope sReadParts) (by decide +kernel))
          (fun _ _ _ _ _ => pg_tup rfl (pgs_cons (pg_name (i := 3) scRPs.nd rfl (Or.inl rfl)) (pgs_cons (pg_name (i := 4) scRPs.nd rfl (Or.inl rfl)) pgs_nil))) (fun _ _ _ _ _ => pts_nil) (fun _ _ _ _ _ => pe_call GP hr rfl gP kP bP .nil pass0 (pa_cons (pv 3) (pa_cons (pv 4) pa_nil))))
      (pss_cons (ps_if (pt_val (pe_callB (cr_any rfl) (by rfl) T.zy b_any (pa_cons (pe_cg (K := K) (R := fun x v _ => v = .bl (decide (x = .non))) (Dm := fun _ _ => True) (j := 5) (pe_lc (own := [("part", 5)]) (g := gName 5) (tt := tYes) rfl scRPs.nd (pi_list (pv 2)) (blkOk_by (N := ["words", "form", "parts", "word", "sort", "part"]) (sc := defScope sReadParts) (by decide +kernel)) (fun _ _ _ _ _ => pg_name (i := 5) scRPs.nd rfl (Or.inl rfl)) (fun _ _ _ _ _ => pts_nil)
          (fun _ _ _ _ _ => pe_cmp (pc_isN (pv 5)))) (fun _ _ _ _ _ h => h) (fun _ _ _ _ _ _ h => h) (fun _ _ _ _ h => h) (fun σ H Q Q' k ⟨v, h1, h2⟩ => ⟨v, h1, k _ _ h2⟩) (fun x σ H Q hx _ hq => ⟨x, hx, hq _ H (Same.refl H) (fun _ ep => nomatch ep) rfl⟩)) pa_nil))) (pss_one (ps_ret pe_non)) pss_nil)
      (pss_one (ps_ret (pe_tupS (pa_cons (pe_ix ix_list (pv 0) pe_int (fun _ _ => rfl)) (StX.pa_star (pv 2) pa_nil))))))), ?_⟩
    obtain ⟨w1, rest, rfl⟩ : ∃ w1 rest, ws = w1 :: rest := by
      cases ws with
      | nil => exact absurd rfl hne
      | cons w1 rest => exact ⟨w1, rest, rfl⟩
    have h0 : ((w1 :: rest).map V.str)[0]? = some (.str w1) := rfl
    refine ⟨.ref a, rfl, a, _, rfl, .inl hS, .ref b, rfl, b, _, rfl, .inr (hT H (Same.refl H)), _, _, rfl, rfl, rfl, _, rfl, ?_⟩
    have step : readParts (w1 :: rest) form = if (w1 :: rest).length ≠ form.length + 1 then none else if (List.zipWith readPart rest form).any (fun v => decide (v = V.non)) then none else some (V.str w1 :: List.zipWith readPart rest form) := rfl
    by_cases hl : (w1 :: rest).length = form.length + 1
    · rw [if_neg (by simpa using hl)] at step
      have hl' : decide (V.int (((w1 :: rest).map V.str).length : Nat) = V.int (((form.map V.str).length : Nat) + 1)) = true := decide_eq_true (by rw [List.length_map, List.length_map, hl]; rfl)
      rw [hl']
      refine iteF ?_
      have hrl : rest.length = form.length := by simpa using hl
      have ec : cutV ((w1 :: rest).map V.str) (some 1) none = rest.map V.str := by
        unfold cutV
        rw [show HT.sIx ((w1 :: rest).map V.str).length 0 (some 1) = min 1 ((w1 :: rest).map V.str).length from HT.sIx_nat _ 0 1, HT.sIx_none]
        rw [show min 1 ((w1 :: rest).map V.str).length = 1 by rw [List.length_map, List.length_cons]; omega]
        show (List.take (((w1 :: rest).map V.str).length - 1) (rest.map V.str)) = _
        exact List.take_of_length_le (by rw [List.length_map, List.length_map, List.length_cons]; omega)
      refine ⟨.ref a, rfl, 1, rfl, a, _, rfl, hS, fun p1 H1 s1 n1 e1 => ⟨.ref b, rfl, p1, b, _, _, rfl, SqL.of e1, hT H1 s1, fun D hD => ?_⟩⟩
      rw [ec] at e1
      have hlen : rest.length ≤ 3 := by omega
      have zl : (List.zipWith readPart rest form).length = rest.length := by rw [List.length_zipWith]; omega
      refine lc_it (walk_zipM (xs := rest.map V.str) (ys := form.map V.str) rfl) (fun i H' => Same H1 H' ∧ H' D = some (.lst ((List.zipWith readPart rest form).take i))) ⟨same_new hD, upd_same⟩ (fun _ _ _ h => ⟨h.1.seq (SqL.of e1), hT _ (s1.trans h.1)⟩) (fun i v H2 H3 hi ⟨s2, e2⟩ ⟨T1, x, y, ev, nT, eH, hx, hy⟩ => ?_) (fun H2 ⟨s2, e2⟩ => ?_)
      · subst ev
        subst eH
        have hi' : i < rest.length := by
          rw [List.length_map, List.length_map] at hi
          omega
        have hx' : x = .str (rest[i]'hi') := by
          have hx : (rest.map V.str)[i]? = some x := hx
          rw [List.getElem?_map, List.getElem?_eq_getElem hi'] at hx
          exact (Option.some.inj hx).symm
        have hif : i < form.length := by omega
        have hy' : y = .str (form[i]'hif) := by
          have hy : (form.map V.str)[i]? = some y := hy
          rw [List.getElem?_map, List.getElem?_eq_getElem hif] at hy
          exact (Option.some.inj hy).symm
        subst hx' hy'
        have nTD : D ≠ T1 := ne_of_none e2 nT
        refine ⟨T1, [.str (rest[i]'hi'), .str (form[i]'hif)], rfl, .inl (.inl upd_same), rfl, _, [.str (form[i]'hif)], rfl, _, [], rfl, rfl, rfl, ?_⟩
        refine ⟨.str (rest[i]'hi'), rfl, .str (form[i]'hif), rfl, rest[i]'hi', form[i]'hif, rfl, hw _ (List.mem_cons_of_mem _ (List.getElem_mem _)), fun H4 s4 => ⟨_, s4 _ _ (by rw [upd_ne nTD]; exact e2), ?_, fun b o eb => ?_, ?_⟩⟩
        · rw [List.length_take, zl]
          exact small1000 (by omega)
        · rw [upd_ne (ne_of_none eb hD)]
          exact s4 _ _ ((same_new nT) _ _ (s2 _ _ eb))
        · rw [upd_same, List.take_add_one, List.getElem?_zipWith, List.getElem?_eq_getElem hi', List.getElem?_eq_getElem hif]
          rfl
      · have e3 : H2 D = some (.lst (List.zipWith readPart rest form)) := by
          rw [e2, List.take_of_length_le (by rw [List.length_map, List.length_map, zl]; omega)]
        have t2 : Same H H2 := s1.trans s2
        have nD0 : H D = none := s1.free hD
        refine ⟨.ref D, rfl, D, _, rfl, SqL.of e3, ?_, ?_, fun _ _ => trivial, fun D2 H3 vs s3 n3 e4 pv => ?_⟩
        · rw [zl]
          exact Nat.le_of_lt (small1000 (by omega))
        · show 5 < 6
          decide
        have evs : vs = ((List.zipWith readPart rest form).map fun x => decide (x = V.non)).map V.bl := by
          have key : ∀ {xs vs : List V}, Paired (fun x v => v = V.bl (decide (x = V.non))) xs vs → vs = (xs.map fun x => decide (x = V.non)).map V.bl := by
            intro xs vs p
            induction p with
            | nil => rfl
            | cons h _ ih => rw [h, ih]; rfl
          exact key pv
        rw [evs] at e4
        refine ⟨D2, _, rfl, SqL.of e4, _, rfl, ?_⟩
        have ea : (((List.zipWith readPart rest form).map fun x => decide (x = V.non)).any id) = (List.zipWith readPart rest form).any (fun v => decide (v = V.non)) := by
          rw [List.any_map]
          rfl
        rw [ea]
        by_cases hn : (List.zipWith readPart rest form).any (fun v => decide (v = V.non)) = true
        · rw [hn]
          refine iteT (q0 ?_ H3 (t2.trans s3))
          rw [step, if_pos hn]
        · have hn' : (List.zipWith readPart rest form).any (fun v => decide (v = V.non)) = false := Bool.eq_false_iff.mpr hn
          rw [hn']
          refine iteF ?_
          have hS3 := (t2.trans s3).seq hS
          refine ⟨.ref a, rfl, a, _, 0, _, rfl, rfl, hS3, atI_nat (j := 0) h0, .ref D, rfl, D, _, rfl, .inr (SqL.of (s3 _ _ e3)), ?_, fun p H4 s4 n4 e5 => ?_⟩
          · show (V.str w1 :: (List.zipWith readPart rest form ++ [])).length ≤ 1000
            rw [List.length_cons, List.append_nil, zl]
            omega
          · refine q1 (.str w1 :: List.zipWith readPart rest form) ?_ H4 p ((t2.trans s3).trans s4) ((t2.trans s3).free n4) ?_
            · rw [step, hn']
              rfl
            · rw [e5]
              show some (HO.tup (V.str w1 :: (List.zipWith readPart rest form ++ []))) = _
              rw [List.append_nil]
    · have hl' : decide (V.int (((w1 :: rest).map V.str).length : Nat) = V.int (((form.map V.str).length : Nat) + 1)) = false := decide_eq_false fun e => hl (by
        have e2 := V.int.inj e
        rw [List.length_map, List.length_map] at e2
        omega)
      rw [hl']
      refine iteT (q0 ?_ H (Same.refl H))
      rw [step, if_pos hl]
def spReadIns (K : PySem.W.Frag) : Sp := fun vs H Q _ => ∃ (a : Addr) (ws : List Str), vs = [.ref a] ∧ SqL K H a (ws.map V.str) ∧ ws ≠ [] ∧ (∀ z ∈ ws, Wd z) ∧
  (readIns ws = none → ∀ H', Same H H' → Q .non H') ∧ (∀ xs, readIns ws = some xs → ∀ H' p, Same H H' → H p = none → H' p = some (.tup xs) → Q (.ref p) H')
theorem scRI : FnScope ["words"] ["words"] (defScope sReadIns) := ⟨rfl, rfl, rfl, by decide +kernel, rfl, by decide +kernel, by decide +kernel⟩
theorem ok_readIns {f fP : Addr} {fd fdP : FuncData} (F : Fun K "read_instruction" "read_instruction" sReadIns f fd) (T : TT K w mg aO aR dF es nF tF)
    (GP : FnOk P w K mg base CX0 3 fP fdP ["words", "form"] (spReadParts K)) (bP : Binds K fdP ["words", "form"] []) (gP : mg "read_parts" = some (.ref fP)) (kP : PySem.W.keepIn K (.ref fP) = true) : FnOk P w K mg base CX0 4 f fd ["words"] (spReadIns K) := by
  refine F.ok scRI (fun vs H Q E h => ?_) (fun cdv A outer s H vs Q E hr h => ?_)
  · obtain ⟨a, ws, rfl, _⟩ := h
    rfl
  · obtain ⟨a, ws, rfl, hS, hne, hw, q0, q1⟩ := h
    refine ⟨_, pss_cons (ps_if (pt_cmpR (op_notIn_kd T.kF) (pe_ix ix_list (pv 0) pe_int (fun _ _ => rfl)) (pe_glob rfl T.gF (v := .ref dF) rfl) (by rfl)) (pss_one (ps_ret pe_non)) pss_nil)
      (pss_one (ps_ret (pe_call GP hr rfl gP kP bP .nil pass0 (pa_cons (pv 0) (pa_cons (pe_ix ix_kdict (pe_glob rfl T.gF (v := .ref dF) rfl) (pe_ix ix_list (pv 0) pe_int (fun _ _ => rfl)) (fun _ _ => rfl)) pa_nil))))), ?_⟩
    obtain ⟨w1, rest, rfl⟩ : ∃ w1 rest, ws = w1 :: rest := by
      cases ws with
      | nil => exact absurd rfl hne
      | cons w1 rest => exact ⟨w1, rest, rfl⟩
    have h0 : ((w1 :: rest).map V.str)[0]? = some (.str w1) := rfl
    cases hf : formOf w1 with
    | none =>
      have lf := T.lF w1
      rw [hf] at lf
      refine ⟨.ref a, rfl, a, _, 0, _, rfl, rfl, hS, atI_nat (j := 0) h0, w1, none, rfl, rfl, lf, _, rfl, ?_⟩
      exact iteT (q0 (readIns_none hf) H (Same.refl H))
    | some form =>
      have lf := T.lF w1
      rw [hf] at lf
      have kt := T.tF w1 form hf
      refine ⟨.ref a, rfl, a, _, 0, _, rfl, rfl, hS, atI_nat (j := 0) h0, w1, some (.ref (tF w1)), rfl, rfl, lf, _, rfl, ?_⟩
      refine iteF ⟨.ref a, rfl, .ref a, rfl, a, _, 0, _, rfl, rfl, hS, atI_nat (j := 0) h0, dF, w1, .ref (tF w1), rfl, rfl, ⟨es, nF, .ref (tF w1), T.kF.at_, T.kF.lit, lf, rfl⟩, ?_⟩
      have e : readParts (w1 :: rest) form = readIns (w1 :: rest) := by
        rw [readIns_some hf]
        rfl
      exact ⟨a, tF w1, w1 :: rest, form, rfl, hS, fun H' _ => kt.sq H', hne, hw, form3 hf, fun h => q0 (e ▸ h), fun xs h => q1 xs (e ▸ h)⟩
end
end TX

set_option Elab.async false
set_option linter.all false
set_option maxRecDepth 100000
set_option maxHeartbeats 4000000
namespace TX
open PySem PySem.Spec PyProof.Rows L2 L2.FK FS
section
variable {X : Cx}
def rSplitS : V → List V → Hp → VK → Prop := fun x xs H Q => ∃ a b : Str, x = .str a ∧ xs = [.str b] ∧ (b.length == 0) = false ∧ a.length + 2 ≤ sizeLine ∧ ∀ p H', Same H H' → H p = none → H' p = some (.lst ((Txt.split a b).map V.str)) → Q (.ref p) H'
theorem mt_splitS : MtR X "str.split" rSplitS := fun pins s σ H x xs v us Q I rx rxs ⟨a, b, e1, e2, h1, h2, q⟩ =>
  mt_split pins s σ H x xs v us Q I rx rxs ⟨a, b, e1, e2, h1, h2, fun p np => q p _ (same_new np) np upd_same⟩
end
abbrev sTarget : Stmt := top (TX.o + 6)
/-! ### the mirror -/
def readDat : List Str → V
  | [z] => if isName z then .str z else optI (readInt z)
  | _ => .non
def rowsOf (t : Str) : List (List Str) := if t = "" then [] else (Txt.split t "\n").map fun r => Txt.split r " "
def Fits (t : Str) : Prop := t.length + 2 ≤ sizeLine ∧ (∀ r ∈ Txt.split t "\n", r.length + 2 ≤ sizeLine)
def targetOf (row : List V) : V := match row with
  | .str w :: _ => (match formOf w with
    | some form => if form.contains "to" then row.getLast?.getD .non else .non
    | none => .non)
  | _ => .non
section
variable {P : Program} {w : World} {K : PySem.W.Frag} {mg : Str → Option Value} {base : Heap} {aO aR dF : Addr} {es : Array DictEntry} {nF : Nat} {tF : Str → Addr}
/-! ### read_datum -/
def spReadDat (K : PySem.W.Frag) : Sp := fun vs H Q _ => ∃ (a : Addr) (ws : List Str), vs = [.ref a] ∧ SqL K H a (ws.map V.str) ∧ (∀ z ∈ ws, Wd z) ∧ ∀ H', Same H H' → Q (readDat ws) H'
theorem scRD : FnScope ["words"] ["words"] (defScope sReadDat) := ⟨rfl, rfl, rfl, by decide +kernel, rfl, by decide +kernel, by decide +kernel⟩
theorem ok_readDat {f fN fR : Addr} {fd fdN fdR : FuncData} (F : Fun K "read_datum" "read_datum" sReadDat f fd) (T : TT K w mg aO aR dF es nF tF)
    (GN : FnOk P w K mg base CX0 1 fN fdN ["value"] (spIsName K)) (bN : Binds K fdN ["value"] []) (gN : mg "is_name" = some (.ref fN)) (kN : PySem.W.keepIn K (.ref fN) = true)
    (GR : FnOk P w K mg base CX0 1 fR fdR ["word"] spReadInt) (bR : Binds K fdR ["word"] []) (gR : mg "read_integer" = some (.ref fR)) (kR : PySem.W.keepIn K (.ref fR) = true) : FnOk P w K mg base CX0 2 f fd ["words"] (spReadDat K) := by
  refine F.ok scRD (fun vs H Q E h => ?_) (fun cdv A outer s H vs Q E hr h => ?_)
  · obtain ⟨a, ws, rfl, _⟩ := h
    rfl
  · obtain ⟨a, ws, rfl, hS, hw, q⟩ := h
    refine ⟨_, pss_cons (ps_if (pt_cmpR op_ne (pe_callB call_len_seq (by rfl) T.zl PySem.boot_len (pa_cons (pv 0) pa_nil)) pe_int (nomark _)) (pss_one (ps_ret pe_non)) pss_nil)
      (pss_one (ps_ret (pe_ifExp (pt_val (pe_call GN hr rfl gN kN bN .nil pass0 (pa_cons (pe_ix ix_list (pv 0) pe_int (fun _ _ => rfl)) pa_nil))) (pe_ix ix_list (pv 0) pe_int (fun _ _ => rfl)) (pe_call GR hr rfl gR kR bR .nil pass0 (pa_cons (pe_ix ix_list (pv 0) pe_int (fun _ _ => rfl)) pa_nil))))), ?_⟩
    refine ⟨.ref a, rfl, a, _, rfl, .inl hS, rfl, _, rfl, ?_⟩
    by_cases hl : ws.length = 1
    · obtain ⟨z, rfl⟩ := List.length_eq_one_iff.mp hl
      refine iteNS (by rfl) ?_
      have hz : Wd z := hw z (by simp)
      have at0 : ∀ H', SqL K H' a ([z].map V.str) → atI ([z].map V.str) 0 = some (.str z) := fun _ _ => rfl
      refine ⟨.ref a, rfl, a, _, 0, _, rfl, rfl, hS, rfl, .str z, rfl, .inl ⟨z, rfl, hz, fun H1 s1 => ⟨_, rfl, ?_⟩⟩⟩
      refine ite2 (fun h => ?_) (fun h => ?_)
      · refine ⟨.ref a, rfl, a, _, 0, _, rfl, rfl, s1.seq hS, rfl, ?_⟩
        have e : readDat [z] = .str z := by
          show (if isName z = true then V.str z else optI (readInt z)) = _
          rw [if_pos h]
        have hq := q H1 s1
        rw [e] at hq
        exact hq
      · refine ⟨.ref a, rfl, a, _, 0, _, rfl, rfl, s1.seq hS, rfl, z, rfl, hz, fun H2 s2 => ?_⟩
        have e : readDat [z] = optI (readInt z) := by
          show (if isName z = true then V.str z else optI (readInt z)) = _
          rw [if_neg h]
        have hq := q H2 (s1.trans s2)
        rw [e] at hq
        exact hq
    · have hl' : decide (V.int (((ws.map V.str).length : Nat) : Int) = V.int 1) = false := decide_eq_false fun e => hl (by
        have e2 := V.int.inj e
        rw [List.length_map] at e2
        omega)
      rw [hl']
      refine iteT ?_
      have e : readDat ws = .non := by
        match ws, hl with
        | [], _ => rfl
        | [_], h => exact absurd rfl h
        | _ :: _ :: _, _ => rfl
      have hq := q H (Same.refl H)
      rw [e] at hq
      exact hq
/-! ### split_rows -/
def RowsAt (H : Hp) (vs : List V) (rs : List (List Str)) : Prop := Paired (fun (ws : List Str) v => ∃ q, v = .ref q ∧ H q = some (.lst (ws.map V.str))) rs vs
def spSplit : Sp := fun vs H Q _ => ∃ t : Str, vs = [.str t] ∧ Fits t ∧ ∀ H' p rs, Same H H' → H p = none → H' p = some (.lst rs) → RowsAt H' rs (rowsOf t) → Q (.ref p) H'
theorem scSp : FnScope ["text", "row"] ["text"] (defScope sSplit) := ⟨rfl, rfl, rfl, by decide +kernel, rfl, by decide +kernel, by decide +kernel⟩
theorem ok_split {f : Addr} {fd : FuncData} {k : Nat} (F : Fun K "split_rows" "split_rows" sSplit f fd) : FnOk P w K mg base CX0 (k + 1) f fd ["text"] spSplit := by
  refine F.ok scSp (fun vs H Q E h => ?_) (fun cdv A outer s H vs Q E hr h => ?_)
  · obtain ⟨t, rfl, _⟩ := h
    rfl
  · obtain ⟨t, rfl, ⟨hf1, hf2⟩, q⟩ := h
    refine ⟨_, pss_cons (ps_if (pt_cmpR op_eq (pv 0) pe_str (nomark _)) (pss_one (ps_ret (pe_lstS pa_nil))) pss_nil)
      (pss_one (ps_ret (pe_cg (K := K) (R := fun x v H => ∃ z q, x = .str z ∧ v = .ref q ∧ H q = some (.lst ((Txt.split z " ").map V.str))) (Dm := fun x _ => ∃ z, x = .str z ∧ z.length + 2 ≤ sizeLine) (tl := tBM K "str" rSplitS (tVar 0) (tCons (tC (.str "\n")) tNil)) (te := tBM K "str" rSplitS (tVar 1) (tCons (tC (.str " ")) tNil)) (j := 1)
        (pe_lc (own := [("row", 1)]) (g := gName 1) (tt := tYes) rfl scSp.nd (pi_list (pe_bm PySem.F.plainAttrs_str PySem.F.slot_str_split PySem.F.type_str_split mt_splitS (pv 0) (pa_cons pe_str pa_nil))) (blkOk_by (N := ["text", "row"]) (sc := defScope sSplit) (by decide +kernel)) (fun _ _ _ _ _ => pg_name (i := 1) scSp.nd rfl (Or.inl rfl)) (fun _ _ _ _ _ => pts_nil)
          (fun _ _ _ _ _ => pe_bm PySem.F.plainAttrs_str PySem.F.slot_str_split PySem.F.type_str_split mt_splitS (pv 1) (pa_cons pe_str pa_nil)))
        (fun x v H H' s ⟨z, q, e1, e2, h⟩ => ⟨z, q, e1, e2, s _ _ h⟩) (fun x v H D o hp ⟨z, q, e1, e2, h⟩ => ⟨z, q, e1, e2, by rw [upd_ne (hp q e2)]; exact h⟩) (fun _ _ _ _ h => h)
        (fun σ H Q Q' k h => by
          obtain ⟨v, h1, h2, a, b, e1, e2, h3, h4, hq⟩ := h
          exact ⟨v, h1, h2, a, b, e1, e2, h3, h4, fun p H' s n h => k _ _ (hq p H' s n h)⟩)
        (fun x σ H Q hx h hq => by
          obtain ⟨z, ex, hz⟩ := h
          exact ⟨x, hx, by subst ex; rfl, z, " ", ex, rfl, rfl, hz, fun p H' s n h => hq _ H' s (fun p' ep => by cases ep; exact n) ⟨z, p, ex, rfl, h⟩⟩)))), ?_⟩
    refine ⟨.str t, rfl, rfl, _, rfl, ?_⟩
    rw [str_eq]
    refine ite2 (fun h => ?_) (fun h => ?_)
    · have e : t = "" := of_decide_eq_true h
      refine ⟨by simp, fun p H1 s1 n1 e1 => q H1 p [] s1 n1 e1 ?_⟩
      unfold rowsOf
      rw [if_pos e]
      exact .nil
    · have e : ¬ t = "" := fun e => h (decide_eq_true e)
      refine ⟨.str t, rfl, rfl, t, "\n", rfl, rfl, rfl, hf1, fun p H1 s1 n1 e1 => ⟨p, _, rfl, SqL.of e1, ?_, (by show 1 < 2; decide), fun x hx => ?_, fun D H2 vs s2 n2 e2 pv => ?_⟩⟩
      · rw [List.length_map]
        have := PyProof.Rows.split_le t "\n"
        omega
      · obtain ⟨z, hz, rfl⟩ := List.mem_map.mp hx
        exact ⟨z, rfl, hf2 z hz⟩
      · refine q H2 D vs (s1.trans s2) (s1.free n2) e2 ?_
        unfold rowsOf
        rw [if_neg e]
        have key : ∀ (zs : List Str) (vs : List V), Paired (fun x v => ∃ z q, x = V.str z ∧ v = V.ref q ∧ H2 q = some (.lst ((Txt.split z " ").map V.str))) (zs.map V.str) vs → RowsAt H2 vs (zs.map fun r => Txt.split r " ") := by
          intro zs
          induction zs with
          | nil => intro vs p; cases p; exact .nil
          | cons z r ih =>
            intro vs p
            cases p with
            | cons h t =>
              obtain ⟨z', q, e1, e2, e3⟩ := h
              cases e1
              exact .cons ⟨q, e2, e3⟩ (ih _ t)
        exact key _ _ pv
/-! ### target_of -/
def spTarget (K : PySem.W.Frag) : Sp := fun vs H Q _ => ∃ (a : Addr) (row : List V) (w1 : Str) (r : List V) (form : List Str), vs = [.ref a] ∧ SqT K H a row ∧ row = .str w1 :: r ∧ formOf w1 = some form ∧ Q (targetOf row) H
theorem scTa : FnScope ["row"] ["row"] (defScope sTarget) := ⟨rfl, rfl, rfl, by decide +kernel, rfl, by decide +kernel, by decide +kernel⟩
theorem ok_target {f : Addr} {fd : FuncData} {k : Nat} (F : Fun K "target_of" "target_of" sTarget f fd) (T : TT K w mg aO aR dF es nF tF) : FnOk P w K mg base CX0 (k + 1) f fd ["row"] (spTarget K) := by
  refine F.ok scTa (fun vs H Q E h => ?_) (fun cdv A outer s H vs Q E hr h => ?_)
  · obtain ⟨a, row, w1, r, form, rfl, _⟩ := h
    rfl
  · obtain ⟨a, row, w1, r, form, rfl, hS, rfl, hf, q⟩ := h
    refine ⟨_, pss_one (ps_ret (pe_ifExp (pt_cmpR op_in_seq pe_str (pe_ix ix_kdict (pe_glob rfl T.gF (v := .ref dF) rfl) (pe_ix ix_tup (pv 0) pe_int (fun _ _ => rfl)) (fun _ _ => rfl)) (by rfl)) (pe_ix ix_tup (pv 0) (pe_un un_neg pe_int) (fun _ _ => rfl)) pe_non)), ?_⟩
    have lf := T.lF w1
    rw [hf] at lf
    have kt := T.tF w1 form hf
    refine ⟨.ref a, rfl, a, _, 0, _, rfl, rfl, hS, atI_nat (j := 0) rfl, dF, w1, .ref (tF w1), rfl, rfl, ⟨es, nF, .ref (tF w1), T.kF.at_, T.kF.lit, lf, rfl⟩, tF w1, _, rfl, .inr (kt.sq H), rfl, ?_, _, rfl, ?_⟩
    · rw [List.all_map]
      simp [flatV]
    rw [show (if false = true then !inV (V.str "to") (form.map V.str) else inV (V.str "to") (form.map V.str)) = form.contains "to" from inV_strs "to" form]
    refine ite2 (fun h => ?_) (fun h => ?_)
    · obtain ⟨v, hv⟩ : ∃ v, (V.str w1 :: r)[(V.str w1 :: r).length - 1]? = some v := ⟨_, List.getElem?_eq_getElem (by simp)⟩
      have ea : atI (V.str w1 :: r) (-1) = some v := by
        unfold atI ixN
        rw [if_neg (by decide), if_pos (by rw [List.length_cons]; omega)]
        show (V.str w1 :: r)[(-1 + ((V.str w1 :: r).length : Int)).toNat]? = some v
        rw [← hv]
        congr 1
        omega
      refine ⟨.ref a, rfl, _, rfl, a, _, -1, v, rfl, rfl, hS, ea, ?_⟩
      have e : targetOf (V.str w1 :: r) = v := by
        simp only [targetOf, hf]
        show (if form.contains "to" = true then (V.str w1 :: r).getLast?.getD .non else .non) = v
        rw [if_pos h, List.getLast?_eq_getElem?, hv]
        rfl
      rw [e] at q
      exact q
    · have e : targetOf (V.str w1 :: r) = .non := by
        simp only [targetOf, hf]
        show (if form.contains "to" = true then (V.str w1 :: r).getLast?.getD .non else .non) = .non
        rw [if_neg h]
      rw [e] at q
      exact q
end
end TX

set_option Elab.async false
set_option linter.all false
set_option maxRecDepth 100000
set_option maxHeartbeats 4000000
/-! tuple(d), d a dict: a new tuple of its keys. -/
namespace FS
open PySem PySem.Calls PySem.Spec PyProof.Rows L2
section
variable {prog : Program} {w : World} {A : Around} {E : Value → Shared → Prop} {s : Shared} {T : String} {r d : Addr} {n : Nat} {P : Nat → Value → Prop} {OK : Heap → Prop}
theorem code_tupS {Q₁ : Value → Shared → Prop} (K : PySem.W.KdlSrc prog w T r d n P OK) (hh : A.handled = none) (hok : OK s.heap) (hn : n ≤ sizeLine)
    (h : ∀ (h' : Heap) (tk : Nat) (acc : Array Value), (∀ b o, s.heap.get? b = some o → h'.get? b = some o) → ItemsOf P acc n → Q₁ (.ref h'.objs.size) { s with heap := h'.push { cls := .type "tuple", data := .seq acc }, toks := tk }) :
    codeAny (model prog w) A (.call (.builtin "tuple.__new__") ⟨[.type "tuple", .ref r], []⟩) (wants Q₁ E) s := by
  refine codeAny_of_tree ?_
  show wpAny _ A.in1 (do checkBuiltinCall "tuple.__new__" ⟨[.type "tuple", .ref r], []⟩; again (.builtin "tuple.__new__" ⟨[.type "tuple", .ref r], []⟩)) _ _ s
  refine wpAny_bind (wpAny_of_eq (F.newCall_tuple_1 _) (wpAny_pure ⟨plainId_quiet F.plain_tuple_new _, codeAny_builtin F.entry_tuple_new ?_⟩))
  rw [Around.under_plainId F.plain_tuple_new _]
  have hsub := sub_tuple_self
  have hinit := init_tuple_lookup
  have hmh := madeHere_tuple
  have hTI : s.TypeIs (.ref r) T := K.type s hok
  have hnt := K.notTuple
  have hnl := K.notList
  have hh1 : A.in1.handled = none := hh
  wp_walk using wpAny_typeOf hTI, PySem.W.kdu_collect (A := A.in1) K hh1 hok hn
  intro h' tk acc hk hacc
  show wpAny _ _ (Builtin.Tuple.tupleExact acc.toList.toArray >>= fun v => ret v) _ _ _
  unfold Builtin.Tuple.tupleExact
  refine wpAny_bind (wpAny_newObj_type ?_ (by show acc.toList.toArray.size ≤ sizeLine; simp only [Array.toArray_toList]; rw [hacc.1]; exact hn))
  refine wpAny_pure ?_
  have e : acc.toList.toArray = acc := by simp
  rw [e]
  exact h h' tk acc hk hacc
theorem call_tupS {Q : Value → Shared → Prop} (K : PySem.W.KdlSrc prog w T r d n P OK) (hh : A.handled = none) (hok : OK s.heap) (hn : n ≤ sizeLine)
    (h : ∀ (h' : Heap) (tk : Nat) (acc : Array Value), (∀ b o, s.heap.get? b = some o → h'.get? b = some o) → ItemsOf P acc n → Q (.ref h'.objs.size) { s with heap := h'.push { cls := .type "tuple", data := .seq acc }, toks := tk }) :
    wpAny (model prog w) A (call (.type "tuple") [.ref r]) Q E s := by
  refine callType_codes (Q₁ := fun obj s₁ => s₁.TypeIs obj "tuple" ∧ Q obj s₁) F.called_tuple (F.typeCall_tuple_1 _) F.entry_object_init
    (code_tupS (A := A.in1) K hh hok hn fun h' tk acc hk hacc => ⟨⟨_, Heap.get?_push_size _ rfl, rfl⟩, h h' tk acc hk hacc⟩) fun obj s₁ h₁ => ?_
  exact ⟨h₁.1, F.args_object_init_2 obj _, object_init_meets F.called_tuple.init.lookup F.called_tuple.made (by decide) prog w A.in1 _ s₁ ⟨h₁.1, rfl, h₁.2⟩⟩
end
def rTupD : List V → Hp → VK → Prop := fun xs H Q => ∃ p kvs, xs = [.ref p] ∧ H p = some (.dK kvs) ∧ ∀ q, H q = none → Q (.ref q) (upd H q (.tup (kvs.map fun kv => kV kv.1)))
theorem call_tuple_dK {X : Cx} (hc : X.calm = true) : CallR X (.type "tuple") rTupD := by
  intro pins s σ H xs us Q I r h
  obtain ⟨p, kvs, e, hk, q⟩ := h
  subst e
  obtain ⟨u, eu, rx⟩ := vals1 r
  subst eu
  obtain rfl : u = Value.ref p := rx
  obtain ⟨z, lo, vs, rk, hd⟩ := (show ObjOk X.prog X.w H s.heap p (.dK kvs) from I.hok p _ hk)
  obtain ⟨ep, hat⟩ := hd.dictAt
  have hl : kvs.length = vs.length := Paired.length rk
  refine call_tupS (PySem.W.kdl_dict (knd := mixKind X.prog X.w) (kvs := vs) (ep := ep) lo) (I.ok.hd hc) hat (by rw [← hl]; exact z) fun h' tk acc' hkeep hacc => ?_
  have I2 : Inv X pins σ H { s with heap := h', toks := tk } := I.kept hkeep
  refine ⟨.ref h'.objs.size, upd H h'.objs.size (.tup (kvs.map fun kv => kV kv.1)), I2.laid (t' := tk) (fun c o e => Heap.get?_push_of_some _ e) (Nat.le_refl _) (show ObjOk X.prog X.w _ _ _ (.tup (kvs.map fun kv => kV kv.1)) from ⟨?_, acc'.toList, ?_, ?_⟩), rfl, q _ (I2.hok.fresh (Nat.le_refl _))⟩
  · rw [List.length_map]; exact z
  · have el : acc'.toList.length = acc'.size := by simp
    refine vals_of_at (by rw [List.length_map, el, hacc.1, hl]) fun j x w h1 h2 => ?_
    obtain ⟨k, y, hky, hi⟩ := hacc.2 j w (by rw [← Array.getElem?_toList]; exact h2)
    have e1 : (kvs.map (·.1))[j]? = some k := by
      rw [KV.keys rk, List.getElem?_map, hky] <;> rfl
    have e2 : (kvs.map fun kv => kV kv.1)[j]? = some (kV k) := by
      have e3 : (kvs.map fun kv => kV kv.1) = (kvs.map (·.1)).map kV := by rw [List.map_map] <;> rfl
      rw [e3, List.getElem?_map, e1] <;> rfl
    rw [e2] at h1
    cases h1
    exact keyIs_rel hi
  · rw [Array.toArray_toList]; exact IsTup.new _ _
end FS

set_option Elab.async false
set_option linter.all false
set_option maxRecDepth 100000
set_option maxHeartbeats 4000000
/-! o.f as one of several targets. -/
namespace FS
open PySem PySem.Calls PySem.Spec PyProof.Rows L2
section
variable {X : Cx} {o : Expr} {to : TE} {f : Str} {pos : Pos}
def gFld (K : PySem.W.Frag) (to : TE) (f : Str) : TG := fun v σ H Q => to σ H fun x H2 => ∃ a C dx fs, x = .ref a ∧ H2 a = some (.ins C dx fs) ∧ Cls K C ∧ NoAttr K C f ∧ fs.length < 1000 ∧ Q σ (upd H2 a (.ins C dx (putF f v fs)))
theorem pg_fld (ho : PE X o to) : PG X (.Attribute o f pos) (gFld X.K to f) := by
  refine ⟨fun pins s σ H v u Q I r h => ?_⟩
  rw [PySem.assign_Attribute]
  refine wpAny_bind (wpAny_holding (thn (ho.run pins s σ H _ I h) fun ov s1 ⟨x, H1, I1, r1, a, C, dx, fs, ex, ea, c, n, l, q⟩ => ?_))
  subst ex
  obtain rfl : ov = Value.ref a := r1
  refine wpAny_bind (wpAny_standAt (wpAny_bind (wpAny_holding (setattr_ok (I1.tok _) ea c n l r fun s3 I3 => ?_))))
  exact wpAny_release ⟨σ, _, I3, q⟩
end
def f3 (a b c : V) : List (Str × V) := [("pieces", a), ("kind", b), ("rows", c)]
def f2 (a b : V) : List (Str × V) := [("pieces", a), ("kind", b)]
theorem l1 (a b c : V) : (f3 a b c).lookup ("kind" : Str) = some b := by rfl
theorem l2 (a b c : V) : putF "kind" c (f3 a b c) = f3 a c c := by rfl
theorem l3 (a b c : V) : putF "rows" c (f2 a b) = f3 a b c := by rfl
end FS

set_option Elab.async false
set_option linter.all false
set_option maxRecDepth 100000
set_option maxHeartbeats 4000000
/-! A text, row by row: the mirror; what a draft looks like in memory. -/
namespace TX
open PySem PySem.Spec PyProof.Rows L2 L2.FK FS
/-! ### the mirror -/
/-- a row of a piece -/
inductive MR where
  | ins (xs : List V)
  | dat (v : V)
structure MP where
  name : Str
  kind : Str
  rows : List MR
/-- the piece that is open -/
structure OP where
  kind : Str
  name : Str
  start : Int
  rows : List MR
structure ST where
  ps : List MP
  ex : List Str
  al : List (Str × Str)
  nm : List Str
  op : Option OP
def st0 : ST := ⟨[], [], [], [], none⟩
def takeName (z : Str) (st : ST) : Option ST := if isName z && !st.nm.contains z then some { st with nm := st.nm ++ [z] } else none
def exportsGo : List Str → ST → Option ST
  | [], st => some st
  | z :: r, st => if isName z && !st.ex.contains z then exportsGo r { st with ex := st.ex ++ [z] } else none
def takeExports (ws : List Str) (st : ST) : Option ST := if ws.length = 0 then none else exportsGo ws st
def takeAlias (ws : List Str) (st : ST) : Option ST := match ws with
  | [x, y] => if isName y then (takeName x st).map fun s => { s with al := s.al ++ [(x, y)] } else none
  | _ => none
def openPiece (num : Int) (ws : List Str) (st : ST) : Option ST := match ws with
  | [k, n] => if st.ps.length = 12 then none else (takeName n st).map fun s => { s with op := some ⟨k, n, num + 1, []⟩ }
  | _ => none
def takeBetween (num : Int) (ws : List Str) (st : ST) : Option ST := match ws with
  | [] => none
  | w :: r => if w = "export" then takeExports r st else if w = "alias" then takeAlias r st else if w = "func" ∨ w = "data" then openPiece num (w :: r) st else none
/-- the row that words make in a piece of this kind -/
def rowOf (k : Str) (ws : List Str) : Option MR := if k = "func" then (readIns ws).map .ins else if readDat ws = .non then none else some (.dat (readDat ws))
def takeWithin (ws : List Str) (op : OP) (st : ST) : Option ST := match rowOf op.kind ws with
  | none => none
  | some r => if op.rows.length = 16 then none else some { st with op := some { op with rows := op.rows ++ [r] } }
def tooGreat (n : Nat) : MR → Bool
  | .ins xs => (match targetOf xs with | .int t => decide ((n : Int) < t) | _ => false)
  | .dat _ => false
/-- the first row whose target is too great -/
def badFrom (n : Nat) : List MR → Int → Option Int
  | [], _ => none
  | r :: rs, i => if tooGreat n r then some i else badFrom n rs (i + 1)
def closePiece (op : OP) (st : ST) : Except Int ST :=
  match (if op.kind = "func" then badFrom op.rows.length op.rows 0 else none) with
  | some i => .error (op.start + i)
  | none => .ok { st with ps := st.ps ++ [⟨op.name, op.kind, op.rows⟩], op := none }
def takeRow (num : Int) (ws : List Str) (st : ST) : Except Int ST := match st.op with
  | none => (match takeBetween num ws st with | some s => .ok s | none => .error num)
  | some op => if ws = [("end" : Str)] then closePiece op st else (match takeWithin ws op st with | some s => .ok s | none => .error num)
def parseRows : List (List Str) → Int → ST → Except Int ST
  | [], _, st => .ok st
  | ws :: r, i, st => match takeRow i ws st with
    | .error e => .error e
    | .ok st' => parseRows r (i + 1) st'
def parseT (t : Str) : Except Int ST := match parseRows (rowsOf t) 0 st0 with
  | .error e => .error e
  | .ok st => if st.op.isSome then .error ((rowsOf t).length : Int) else .ok st
/-! ### in memory -/
/-- tuples and the instances of the class at CP stay as they are -/
def Fix (CP : Addr) (H H' : Hp) : Prop := (∀ q xs, H q = some (.tup xs) → H' q = some (.tup xs)) ∧ ∀ q dx fs, H q = some (.ins CP dx fs) → H' q = some (.ins CP dx fs)
theorem Fix.of {CP : Addr} {H H' : Hp} (s : Same H H') : Fix CP H H' := ⟨fun q xs e => s _ _ e, fun q dx fs e => s _ _ e⟩
theorem Fix.trans {CP : Addr} {H H1 H2 : Hp} (a : Fix CP H H1) (b : Fix CP H1 H2) : Fix CP H H2 := ⟨fun q xs e => b.1 _ _ (a.1 _ _ e), fun q dx fs e => b.2 _ _ _ (a.2 _ _ _ e)⟩
theorem Fix.lst {CP a : Addr} {H : Hp} {xs : List V} {o : HO} (h : H a = some (.lst xs)) : Fix CP H (upd H a o) :=
  ⟨fun q ys e => by rw [upd_ne (ne_of e h (by intro z; cases z))]; exact e, fun q dx fs e => by rw [upd_ne (ne_of e h (by intro z; cases z))]; exact e⟩
theorem Fix.dK {CP a : Addr} {H : Hp} {xs : List (Key × V)} {o : HO} (h : H a = some (.dK xs)) : Fix CP H (upd H a o) :=
  ⟨fun q ys e => by rw [upd_ne (ne_of e h (by intro z; cases z))]; exact e, fun q dx fs e => by rw [upd_ne (ne_of e h (by intro z; cases z))]; exact e⟩
theorem Fix.ins {CP C a dx : Addr} {H : Hp} {fs : List (Str × V)} {o : HO} (h : H a = some (.ins C dx fs)) (ne : CP ≠ C) : Fix CP H (upd H a o) :=
  ⟨fun q ys e => by rw [upd_ne (ne_of e h (by intro z; cases z))]; exact e, fun q dx fs e => by rw [upd_ne (ne_of e h (by intro z; cases z; exact ne rfl))]; exact e⟩
def RowAt (H : Hp) : MR → V → Prop
  | .ins xs, v => ∃ q, v = .ref q ∧ H q = some (.tup xs)
  | .dat d, v => v = d
theorem RowAt.mono {CP : Addr} {H H' : Hp} (f : Fix CP H H') {r : MR} {v : V} (h : RowAt H r v) : RowAt H' r v := by
  cases r with
  | ins xs => obtain ⟨q, e1, e2⟩ := h; exact ⟨q, e1, f.1 _ _ e2⟩
  | dat d => exact h
def pflds (p : MP) (t : Addr) : List (Str × V) := [("name", .str p.name), ("kind", .str p.kind), ("rows", .ref t)]
def PieceAt (CP : Addr) (H : Hp) (p : MP) (v : V) : Prop := ∃ q dx t vs, v = .ref q ∧ H q = some (.ins CP dx (pflds p t)) ∧ H t = some (.tup vs) ∧ Paired (RowAt H) p.rows vs
theorem pair_mono {α : Type} {R R' : α → V → Prop} (f : ∀ x v, R x v → R' x v) : ∀ {xs : List α} {vs : List V}, Paired R xs vs → Paired R' xs vs
  | _, _, .nil => .nil
  | _, _, .cons h t => .cons (f _ _ h) (pair_mono f t)
theorem pair_snoc {α : Type} {R : α → V → Prop} {x : α} {v : V} : ∀ {xs : List α} {vs : List V}, Paired R xs vs → R x v → Paired R (xs ++ [x]) (vs ++ [v])
  | _, _, .nil, h => .cons h .nil
  | _, _, .cons a t, h => .cons a (pair_snoc t h)
theorem PieceAt.mono {CP : Addr} {H H' : Hp} (f : Fix CP H H') {p : MP} {v : V} (h : PieceAt CP H p v) : PieceAt CP H' p v := by
  obtain ⟨q, dx, t, vs, e1, e2, e3, r⟩ := h
  exact ⟨q, dx, t, vs, e1, f.2 _ _ _ e2, f.1 _ _ e3, pair_mono (fun _ _ h => h.mono f) r⟩
def AliAt (H : Hp) (p : Str × Str) (v : V) : Prop := ∃ q, v = .ref q ∧ H q = some (.tup [.str p.1, .str p.2])
theorem AliAt.mono {CP : Addr} {H H' : Hp} (f : Fix CP H H') {p : Str × Str} {v : V} (h : AliAt H p v) : AliAt H' p v := by
  obtain ⟨q, e1, e2⟩ := h
  exact ⟨q, e1, f.1 _ _ e2⟩
/-- a dict of names, each with True -/
def dk (zs : List Str) : List (Key × V) := zs.map fun z => (Sum.inr z, .bl true)
theorem dk_val (z : Str) : ∀ zs : List Str, (valV (dk zs) (Sum.inr z : Key)).isSome = zs.contains z
  | [] => rfl
  | y :: r => by
    by_cases e : y = z
    · subst e
      rw [show dk (y :: r) = ((Sum.inr y : Key), V.bl true) :: dk r from rfl, valV_pos rfl]
      simp
    · have ne : ¬ (Sum.inr y : Key) = Sum.inr z := fun q => e (Sum.inr.inj q)
      rw [show dk (y :: r) = ((Sum.inr y : Key), V.bl true) :: dk r from rfl, valV_neg ne, dk_val z r, List.contains_cons]
      have : (z == y) = false := by simpa using fun q => e q.symm
      rw [this, Bool.false_or]
theorem dk_put {z : Str} {zs : List Str} (h : zs.contains z = false) : putK (dk zs) (Sum.inr z : Key) (V.bl true) = dk (zs ++ [z]) := by
  have e : valV (dk zs) (Sum.inr z : Key) = none := by
    have := dk_val z zs
    rw [h] at this
    cases q : valV (dk zs) (Sum.inr z : Key) with
    | none => rfl
    | some v => rw [q] at this; cases this
  rw [putK_new _ e]
  show _ = (zs ++ [z]).map _
  rw [List.map_append]
  rfl
theorem dk_len (zs : List Str) : (dk zs).length = zs.length := List.length_map ..
/-- a draft's places: itself, its lists and dicts, the rows of the piece that is open -/
structure AD where
  p : Addr
  dp : Addr
  de : Addr
  da : Addr
  dn : Addr
  dr : Option Addr
def Foot (A : AD) (b : Addr) : Prop := b = A.p ∨ b = A.dp ∨ b = A.de ∨ b = A.da ∨ b = A.dn ∨ A.dr = some b
def dflds (A : AD) (k n s r : V) : List (Str × V) := [("pieces", .ref A.dp), ("exports", .ref A.de), ("aliases", .ref A.da), ("named", .ref A.dn), ("kind", k), ("name", n), ("start", s), ("rows", r)]
def OpAt (H : Hp) (A : AD) (k n s r : V) : Option OP → Prop
  | none => k = .non ∧ A.dr = none
  | some o => k = .str o.kind ∧ n = .str o.name ∧ s = .int o.start ∧ ∃ dr ws, A.dr = some dr ∧ r = .ref dr ∧ H dr = some (.lst ws) ∧ Paired (RowAt H) o.rows ws ∧ dr ≠ A.dp ∧ dr ≠ A.da
structure DAt (CD CP : Addr) (A : AD) (H : Hp) (st : ST) : Prop where
  ob : ∃ dx k n s r, H A.p = some (.ins CD dx (dflds A k n s r)) ∧ OpAt H A k n s r st.op
  dp : ∃ vs, H A.dp = some (.lst vs) ∧ Paired (PieceAt CP H) st.ps vs
  de : H A.de = some (.dK (dk st.ex))
  da : ∃ vs, H A.da = some (.lst vs) ∧ Paired (AliAt H) st.al vs
  dn : H A.dn = some (.dK (dk st.nm))
  n1 : A.dp ≠ A.da
  n2 : A.de ≠ A.dn
/-- all but the draft as it was -/
def Kept (A : AD) (H H' : Hp) : Prop := ∀ b o, H b = some o → ¬ Foot A b → H' b = some o
theorem Kept.of {A : AD} {H H' : Hp} (s : Same H H') : Kept A H H' := fun b o e _ => s b o e
theorem Kept.upd {A : AD} {H : Hp} {a : Addr} {o : HO} (h : Foot A a) : Kept A H (upd H a o) := fun b x e n => by
  rw [upd_ne (fun z => n (by rw [z]; exact h))]
  exact e
theorem Kept.trans {A : AD} {H H1 H2 : Hp} (a : Kept A H H1) (b : Kept A H1 H2) : Kept A H H2 := fun c o e n => b c o (a c o e n) n
/-- the draft's places later: the rows' place may be new -/
def Next (H : Hp) (A A' : AD) : Prop := A'.p = A.p ∧ A'.dp = A.dp ∧ A'.de = A.de ∧ A'.da = A.da ∧ A'.dn = A.dn ∧ ∀ b, A'.dr = some b → A.dr = some b ∨ H b = none
theorem Next.same (H : Hp) (A : AD) : Next H A A := ⟨rfl, rfl, rfl, rfl, rfl, fun b h => .inl h⟩
theorem Next.foot {H : Hp} {A A' : AD} (h : Next H A A') {b : Addr} {o : HO} (e : H b = some o) (n : ¬ Foot A b) : ¬ Foot A' b := by
  obtain ⟨h1, h2, h3, h4, h5, h6⟩ := h
  intro f
  apply n
  unfold Foot at f ⊢
  rw [h1, h2, h3, h4, h5] at f
  rcases f with f | f | f | f | f | f
  · exact .inl f
  · exact .inr (.inl f)
  · exact .inr (.inr (.inl f))
  · exact .inr (.inr (.inr (.inl f)))
  · exact .inr (.inr (.inr (.inr (.inl f))))
  · rcases h6 b f with q | q
    · exact .inr (.inr (.inr (.inr (.inr q))))
    · rw [q] at e; cases e
theorem OpAt.mono {CP : Addr} {H H' : Hp} {A : AD} {k n s r : V} {op : Option OP} (f : Fix CP H H') (hd : ∀ b ws, A.dr = some b → H b = some (.lst ws) → H' b = some (.lst ws)) (h : OpAt H A k n s r op) : OpAt H' A k n s r op := by
  cases op with
  | none => exact h
  | some o =>
    obtain ⟨e1, e2, e3, dr, ws, e4, e5, e6, e7, e8⟩ := h
    exact ⟨e1, e2, e3, dr, ws, e4, e5, hd _ _ e4 e6, pair_mono (fun _ _ h => h.mono f) e7, e8⟩
theorem DAt.mono {CD CP : Addr} {A : AD} {H H' : Hp} {st : ST} (s : Same H H') (h : DAt CD CP A H st) : DAt CD CP A H' st := by
  obtain ⟨dx, k, n, x, r, e1, e2⟩ := h.ob
  obtain ⟨vs, e3, e4⟩ := h.dp
  obtain ⟨us, e5, e6⟩ := h.da
  have f : Fix CP H H' := Fix.of s
  exact ⟨⟨dx, k, n, x, r, s _ _ e1, e2.mono f fun b ws _ e => s _ _ e⟩, ⟨vs, s _ _ e3, pair_mono (fun _ _ h => h.mono f) e4⟩, s _ _ h.de, ⟨us, s _ _ e5, pair_mono (fun _ _ h => h.mono f) e6⟩, s _ _ h.dn, h.n1, h.n2⟩
/-- a name more -/
theorem DAt.put_nm {CD CP : Addr} {A : AD} {H : Hp} {st : ST} {z : Str} (h : DAt CD CP A H st) : DAt CD CP A (upd H A.dn (.dK (dk (st.nm ++ [z])))) { st with nm := st.nm ++ [z] } := by
  obtain ⟨dx, k, n, x, r, e1, e2⟩ := h.ob
  obtain ⟨vs, e3, e4⟩ := h.dp
  obtain ⟨us, e5, e6⟩ := h.da
  have f : Fix CP H (upd H A.dn (.dK (dk (st.nm ++ [z])))) := Fix.dK h.dn
  exact ⟨⟨dx, k, n, x, r, by rw [upd_ne (ne_of e1 h.dn (by intro z; cases z))]; exact e1, e2.mono f fun b ws _ e => by rw [upd_ne (ne_of e h.dn (by intro z; cases z))]; exact e⟩,
    ⟨vs, by rw [upd_ne (ne_of e3 h.dn (by intro z; cases z))]; exact e3, pair_mono (fun _ _ h => h.mono f) e4⟩, by rw [upd_ne h.n2]; exact h.de,
    ⟨us, by rw [upd_ne (ne_of e5 h.dn (by intro z; cases z))]; exact e5, pair_mono (fun _ _ h => h.mono f) e6⟩, upd_same, h.n1, h.n2⟩
theorem DAt.put_ex {CD CP : Addr} {A : AD} {H : Hp} {st : ST} {z : Str} (h : DAt CD CP A H st) : DAt CD CP A (upd H A.de (.dK (dk (st.ex ++ [z])))) { st with ex := st.ex ++ [z] } := by
  obtain ⟨dx, k, n, x, r, e1, e2⟩ := h.ob
  obtain ⟨vs, e3, e4⟩ := h.dp
  obtain ⟨us, e5, e6⟩ := h.da
  have f : Fix CP H (upd H A.de (.dK (dk (st.ex ++ [z])))) := Fix.dK h.de
  exact ⟨⟨dx, k, n, x, r, by rw [upd_ne (ne_of e1 h.de (by intro z; cases z))]; exact e1, e2.mono f fun b ws _ e => by rw [upd_ne (ne_of e h.de (by intro z; cases z))]; exact e⟩,
    ⟨vs, by rw [upd_ne (ne_of e3 h.de (by intro z; cases z))]; exact e3, pair_mono (fun _ _ h => h.mono f) e4⟩, upd_same,
    ⟨us, by rw [upd_ne (ne_of e5 h.de (by intro z; cases z))]; exact e5, pair_mono (fun _ _ h => h.mono f) e6⟩, by rw [upd_ne h.n2.symm]; exact h.dn, h.n1, h.n2⟩
/-- an alias more, its tuple at v -/
theorem DAt.put_al {CD CP : Addr} {A : AD} {H : Hp} {st : ST} {us : List V} {v : V} {p : Str × Str} (h : DAt CD CP A H st) (e5 : H A.da = some (.lst us)) (e6 : Paired (AliAt H) st.al us) (hv : AliAt H p v) :
    DAt CD CP A (upd H A.da (.lst (us ++ [v]))) { st with al := st.al ++ [p] } := by
  obtain ⟨dx, k, n, x, r, e1, e2⟩ := h.ob
  obtain ⟨vs, e3, e4⟩ := h.dp
  have f : Fix CP H (upd H A.da (.lst (us ++ [v]))) := Fix.lst e5
  refine ⟨⟨dx, k, n, x, r, by rw [upd_ne (ne_of e1 e5 (by intro z; cases z))]; exact e1, e2.mono f fun b ws eb e => ?_⟩,
    ⟨vs, by rw [upd_ne h.n1]; exact e3, pair_mono (fun _ _ h => h.mono f) e4⟩, by rw [upd_ne (ne_of h.de e5 (by intro z; cases z))]; exact h.de,
    ⟨_, upd_same, pair_mono (fun _ _ h => h.mono f) (pair_snoc e6 hv)⟩, by rw [upd_ne (ne_of h.dn e5 (by intro z; cases z))]; exact h.dn, h.n1, h.n2⟩
  cases ho : st.op with
  | none =>
    rw [ho] at e2
    rw [e2.2] at eb
    cases eb
  | some o =>
    rw [ho] at e2
    obtain ⟨_, _, _, dr, ws', q4, q5, q6, q7, q8, q9⟩ := e2
    rw [q4] at eb
    cases eb
    rw [upd_ne q9]
    exact e
end TX

set_option Elab.async false
set_option linter.all false
set_option maxRecDepth 100000
set_option maxHeartbeats 4000000
/-! The draft's methods that take names. -/
namespace TX
open PySem PySem.Spec PyProof.Rows L2 L2.FK FS
abbrev sDraft (j : Nat) : Stmt := inClass (top (TX.o + 12)) j
structure TC (K : PySem.W.Frag) (CD CP : Addr) : Prop where
  cD : Cls K CD
  nPieces : NoAttr K CD "pieces"
  nExports : NoAttr K CD "exports"
  nAliases : NoAttr K CD "aliases"
  nNamed : NoAttr K CD "named"
  nKind : NoAttr K CD "kind"
  nName : NoAttr K CD "name"
  nStart : NoAttr K CD "start"
  nRows : NoAttr K CD "rows"
  cP : Cls K CP
  pName : NoAttr K CP "name"
  pKind : NoAttr K CP "kind"
  pRows : NoAttr K CP "rows"
  ne : CP ≠ CD
theorem Kept.next {A A1 : AD} {H H1 H2 : Hp} (a : Kept A H H1) (n : Next H A A1) (b : Kept A1 H1 H2) : Kept A H H2 := fun c o e f => b c o (a c o e f) (n.foot e f)
theorem Next.trans {CD CP : Addr} {A A1 A2 : AD} {H H1 : Hp} {st : ST} (k : Kept A H H1) (a : Next H A A1) (d : DAt CD CP A1 H1 st) (b : Next H1 A1 A2) : Next H A A2 := by
  obtain ⟨h1, h2, h3, h4, h5, h6⟩ := a
  obtain ⟨k1, k2, k3, k4, k5, k6⟩ := b
  refine ⟨k1.trans h1, k2.trans h2, k3.trans h3, k4.trans h4, k5.trans h5, fun c hc => ?_⟩
  rcases k6 c hc with q | q
  · exact h6 c q
  · cases e : H c with
    | none => exact .inr rfl
    | some x =>
      by_cases f : Foot A c
      · unfold Foot at f
        obtain ⟨dx, kk, nn, x2, r, e1, _⟩ := d.ob
        obtain ⟨vs, e3, _⟩ := d.dp
        obtain ⟨us, e5, _⟩ := d.da
        rcases f with f | f | f | f | f | f
        · rw [f, ← h1, e1] at q; cases q
        · rw [f, ← h2, e3] at q; cases q
        · rw [f, ← h3, d.de] at q; cases q
        · rw [f, ← h4, e5] at q; cases q
        · rw [f, ← h5, d.dn] at q; cases q
        · exact .inl f
      · rw [k c x e f] at q; cases q
/-- what a method that takes something hands back -/
def Res (CD CP : Addr) (A : AD) (H : Hp) (r : Option ST) (Q : VK) : Prop :=
  (r = none → ∀ H', Kept A H H' → Q (.bl false) H') ∧ ∀ st', r = some st' → ∀ H' A', Kept A H H' → Next H A A' → DAt CD CP A' H' st' → Q (.bl true) H'
theorem Res.of {CD CP : Addr} {A : AD} {H : Hp} {r r' : Option ST} {Q : VK} (h : Res CD CP A H r Q) (e : r = r') : Res CD CP A H r' Q := e ▸ h
theorem Res.here {CD CP : Addr} {A : AD} {H H1 : Hp} {r : Option ST} {Q : VK} (h : Res CD CP A H r Q) (s : Same H H1) : Res CD CP A H1 r Q :=
  ⟨fun e H' k => h.1 e H' ((Kept.of s).trans k), fun st' e H' A' k n d => h.2 st' e H' A' ((Kept.of s).trans k) ⟨n.1, n.2.1, n.2.2.1, n.2.2.2.1, n.2.2.2.2.1, fun b hb => (n.2.2.2.2.2 b hb).imp id fun q => by
    cases e : H b with
    | none => rfl
    | some o => rw [s b o e] at q; cases q⟩ d⟩
section
variable {P : Program} {w : World} {K : PySem.W.Frag} {mg : Str → Option Value} {base : Heap} {aO aR dF CD CP : Addr} {es : Array DictEntry} {nF : Nat} {tF : Str → Addr}
/-! ### take_name -/
def spTakeName (CD CP : Addr) : Sp := fun vs H Q _ => ∃ A st z, vs = [.ref A.p, .str z] ∧ DAt CD CP A H st ∧ Wd z ∧ st.nm.length < sizeLine ∧ Res CD CP A H (takeName z st) Q
theorem scTN : FnScope ["self", "name"] ["self", "name"] (defScope (sDraft 5)) := ⟨rfl, rfl, rfl, by decide +kernel, rfl, by decide +kernel, by decide +kernel⟩
theorem ok_takeName {f fN : Addr} {fd fdN : FuncData} (F : Fun K "take_name" "Draft.take_name" (sDraft 5) f fd) (T : TC K CD CP)
    (GN : FnOk P w K mg base CX0 1 fN fdN ["value"] (spIsName K)) (bN : Binds K fdN ["value"] []) (gN : mg "is_name" = some (.ref fN)) (kN : PySem.W.keepIn K (.ref fN) = true) : FnOk P w K mg base CX0 2 f fd ["self", "name"] (spTakeName CD CP) := by
  refine F.ok scTN (fun vs H Q E h => ?_) (fun cdv A0 outer s H vs Q E hr h => ?_)
  · obtain ⟨A, st, z, rfl, _⟩ := h
    rfl
  · obtain ⟨A, st, z, rfl, D, hz, hl, q0, q1⟩ := h
    have hu := hu_of hr
    refine ⟨_, pss_cons (ps_if (PW.pt (pw_or (pt_not (pt_val (pe_call GN hr rfl gN kN bN .nil pass0 (pa_cons (pv 1) pa_nil)))) (pw_or1 (pt_cmp (pc_din hu (pv 1) (pe_fld (pv 0) rfl)))))) (pss_one (ps_ret pe_bl)) pss_nil)
      (pss_cons (ps_dput hu (pe_fld (pv 0) rfl) (pv 1) pe_bl rfl) (pss_one (ps_ret pe_bl))), ?_⟩
    refine ⟨.str z, rfl, .str z, rfl, .inl ⟨z, rfl, hz, fun H1 s1 => ⟨_, rfl, ?_⟩⟩⟩
    have D1 := D.mono s1
    obtain ⟨dx, k, n, x, r, e1, e2⟩ := D1.ob
    cases hn : isName z with
    | false =>
      refine iteT (iteT (q0 ?_ H1 (Kept.of s1)))
      unfold takeName
      rw [hn]
      rfl
    | true =>
      refine iteF ⟨.str z, rfl, .ref A.p, rfl, A.p, CD, dx, _, .ref A.dn, rfl, e1, T.cD, T.nNamed, rfl, A.dn, _, rfl, DGet.k (k := Sum.inr z) D1.dn, _, rfl, ?_⟩
      rw [dk_val]
      cases hc : st.nm.contains z with
      | true =>
        refine iteT (q0 ?_ H1 (Kept.of s1))
        unfold takeName
        rw [hn, hc]
        rfl
      | false =>
        refine iteF ⟨.ref A.p, rfl, A.p, CD, dx, _, .ref A.dn, rfl, e1, T.cD, T.nNamed, rfl, .str z, rfl, A.dn, _, rfl, DPut.k (k := Sum.inr z) D1.dn (by rw [dk_len]; exact hl), ?_⟩
        have e : putK (dk st.nm) (Sum.inr z : Key) (V.bl true) = dk (st.nm ++ [z]) := dk_put hc
        refine q1 _ ?_ _ A ((Kept.of s1).trans (Kept.upd (.inr (.inr (.inr (.inr (.inl rfl))))))) (Next.same _ _) (by rw [e]; exact D1.put_nm)
        unfold takeName
        rw [hn, hc]
        rfl
/-! ### take_exports -/
def spTakeExports (CD CP : Addr) : Sp := fun vs H Q _ => ∃ A st a, ∃ ws : List Str, vs = [.ref A.p, .ref a] ∧ DAt CD CP A H st ∧ H a = some (.lst (ws.map V.str)) ∧ ¬ Foot A a ∧ (∀ z ∈ ws, Wd z) ∧ st.ex.length + ws.length < sizeLine ∧ Res CD CP A H (takeExports ws st) Q
theorem scTE : FnScope ["self", "names", "name"] ["self", "names"] (defScope (sDraft 3)) := ⟨rfl, rfl, rfl, by decide +kernel, rfl, by decide +kernel, by decide +kernel⟩
theorem ok_takeExports {f fN : Addr} {fd fdN : FuncData} (F : Fun K "take_exports" "Draft.take_exports" (sDraft 3) f fd) (T : TC K CD CP) (zl : mg "len" = none)
    (GN : FnOk P w K mg base CX0 1 fN fdN ["value"] (spIsName K)) (bN : Binds K fdN ["value"] []) (gN : mg "is_name" = some (.ref fN)) (kN : PySem.W.keepIn K (.ref fN) = true) : FnOk P w K mg base CX0 2 f fd ["self", "names"] (spTakeExports CD CP) := by
  refine F.ok scTE (fun vs H Q E h => ?_) (fun cdv A0 outer s H vs Q E hr h => ?_)
  · obtain ⟨A, st, a, ws, rfl, _⟩ := h
    rfl
  · obtain ⟨A, st, a, ws, rfl, D, ha, na, hw, hl, q0, q1⟩ := h
    have hu := hu_of hr
    refine ⟨_, pss_cons (ps_for PassesOwn.never rfl (pi_list (pv 1)) (pg_name (i := 2) scTE.nd rfl (Or.inl rfl))
        (pss_cons (ps_if (PW.pt (pw_or (pt_not (pt_val (pe_call GN hr rfl gN kN bN .nil pass0 (pa_cons (pv 2) pa_nil)))) (pw_or1 (pt_cmp (pc_din hu (pv 2) (pe_fld (pv 0) rfl)))))) (pss_one (ps_ret pe_bl)) pss_nil)
          (pss_one (ps_dput hu (pe_fld (pv 0) rfl) (pv 2) pe_bl rfl))))
      (pss_one (ps_ret (pe_cmpR op_gt (pe_callB call_len_seq (by rfl) zl PySem.boot_len (pa_cons (pv 1) pa_nil)) pe_int (nomark _)))), ?_⟩
    refine ⟨_, rfl, a, rfl, ⟨_, SqL.of ha⟩, for_list (K := K) (a := a) (xs := ws.map V.str) (fun i σ H' => ∃ v, σ = [some (.ref A.p), some (.ref a), v] ∧ ∃ st', exportsGo (ws.drop i) st' = exportsGo ws st ∧ DAt CD CP A H' st' ∧ Kept A H H' ∧ st'.ex.length = st.ex.length + i)
      ⟨none, rfl, st, by rw [List.drop_zero], D, fun _ _ e _ => e, by omega⟩ (fun i σ H' _ ⟨_, _, st', _, _, k, _⟩ => SqL.of (k _ _ ha na)) ?_ ?_⟩
    · rintro i y σ H' hi ⟨v, rfl, st', eg, D', k', el⟩
      rw [List.getElem?_map] at hi
      obtain ⟨z, hz, rfl⟩ : ∃ z, ws[i]? = some z ∧ y = V.str z := by
        cases e : ws[i]? with
        | none => rw [e] at hi; cases hi
        | some z => rw [e] at hi; exact ⟨z, rfl, (Option.some.inj hi).symm⟩
      have hlt : i < ws.length := (List.getElem?_eq_some_iff.mp hz).1
      have ed : ws.drop i = z :: ws.drop (i + 1) := by
        rw [List.drop_eq_getElem_cons hlt]
        rw [(List.getElem?_eq_some_iff.mp hz).2]
      have hne : ws.length ≠ 0 := by omega
      refine ⟨_, rfl, .str z, rfl, .inl ⟨z, rfl, hw z (List.mem_of_getElem? hz), fun H1 s1 => ⟨_, rfl, ?_⟩⟩⟩
      have D1 := D'.mono s1
      obtain ⟨dx, k, n, x, r, e1, e2⟩ := D1.ob
      have no : (isName z && !st'.ex.contains z) = false → takeExports ws st = none := fun h => by
        unfold takeExports
        rw [if_neg hne, ← eg, ed]
        show (if (isName z && !st'.ex.contains z) = true then _ else none) = none
        rw [h, if_neg Bool.false_ne_true]
      have kk : Kept A H H1 := k'.trans (Kept.of s1)
      cases hn : isName z with
      | false =>
        refine iteT (iteT (q0 (no ?_) H1 kk))
        rw [hn]
        rfl
      | true =>
        refine iteF ⟨.str z, rfl, .ref A.p, rfl, A.p, CD, dx, _, .ref A.de, rfl, e1, T.cD, T.nExports, rfl, A.de, _, rfl, DGet.k (k := Sum.inr z) D1.de, _, rfl, ?_⟩
        rw [dk_val]
        cases hc : st'.ex.contains z with
        | true =>
          refine iteT (q0 (no ?_) H1 kk)
          rw [hn, hc]
          rfl
        | false =>
          refine iteF ⟨.ref A.p, rfl, A.p, CD, dx, _, .ref A.de, rfl, e1, T.cD, T.nExports, rfl, .str z, rfl, A.de, _, rfl, DPut.k (k := Sum.inr z) D1.de (by rw [dk_len]; omega), ?_⟩
          have e : putK (dk st'.ex) (Sum.inr z : Key) (V.bl true) = dk (st'.ex ++ [z]) := dk_put hc
          refine ⟨_, rfl, _, ?_, by rw [e]; exact D1.put_ex, kk.trans (Kept.upd (.inr (.inr (.inl rfl)))), by rw [List.length_append, el]; rfl⟩
          rw [← eg, ed]
          show _ = (if (isName z && !st'.ex.contains z) = true then _ else none)
          rw [hn, hc]
          rfl
    · rintro σ H' ⟨v, rfl, st', eg, D', k', el⟩
      rw [List.length_map, List.drop_length] at eg
      refine ⟨.ref a, rfl, a, _, rfl, .inl (SqL.of (k' _ _ ha na)), _, _, rfl, rfl, ?_⟩
      rw [List.length_map]
      by_cases hz : ws.length = 0
      · have e : decide ((0 : Int) < ((ws.length : Nat) : Int)) = false := decide_eq_false (by omega)
        show Q (.bl (decide ((0 : Int) < ((ws.length : Nat) : Int)))) H'
        rw [e]
        refine q0 ?_ H' k'
        unfold takeExports
        rw [if_pos hz]
      · have e : decide ((0 : Int) < ((ws.length : Nat) : Int)) = true := decide_eq_true (by omega)
        show Q (.bl (decide ((0 : Int) < ((ws.length : Nat) : Int)))) H'
        rw [e]
        refine q1 st' ?_ H' A k' (Next.same _ _) D'
        unfold takeExports
        rw [if_neg hz, ← eg]
        rfl
end
end TX

set_option Elab.async false
set_option linter.all false
set_option maxRecDepth 100000
set_option maxHeartbeats 4000000
/-! The draft's methods that take a row outside of pieces. -/
namespace TX
open PySem PySem.Spec PyProof.Rows L2 L2.FK FS
/-- a draft but for its own fields -/
structure DB (CD CP : Addr) (A : AD) (H : Hp) (st : ST) : Prop where
  pi : ∃ dx fs, H A.p = some (.ins CD dx fs)
  dp : ∃ vs, H A.dp = some (.lst vs) ∧ Paired (PieceAt CP H) st.ps vs
  de : H A.de = some (.dK (dk st.ex))
  da : ∃ vs, H A.da = some (.lst vs) ∧ Paired (AliAt H) st.al vs
  dn : H A.dn = some (.dK (dk st.nm))
  n1 : A.dp ≠ A.da
  n2 : A.de ≠ A.dn
theorem DAt.db {CD CP : Addr} {A : AD} {H : Hp} {st : ST} (h : DAt CD CP A H st) : DB CD CP A H st := by
  obtain ⟨dx, k, n, s, r, e1, _⟩ := h.ob
  exact ⟨⟨dx, _, e1⟩, h.dp, h.de, h.da, h.dn, h.n1, h.n2⟩
theorem DB.mono {CD CP : Addr} {A : AD} {H H' : Hp} {st : ST} (s : Same H H') (h : DB CD CP A H st) : DB CD CP A H' st := by
  obtain ⟨dx, fs, e1⟩ := h.pi
  obtain ⟨vs, e3, e4⟩ := h.dp
  obtain ⟨us, e5, e6⟩ := h.da
  have f : Fix CP H H' := Fix.of s
  exact ⟨⟨dx, fs, s _ _ e1⟩, ⟨vs, s _ _ e3, pair_mono (fun _ _ h => h.mono f) e4⟩, s _ _ h.de, ⟨us, s _ _ e5, pair_mono (fun _ _ h => h.mono f) e6⟩, s _ _ h.dn, h.n1, h.n2⟩
theorem DB.put {CD CP : Addr} {A : AD} {H : Hp} {st : ST} {dx dx' : Addr} {fs fs' : List (Str × V)} (ne : CP ≠ CD) (e : H A.p = some (.ins CD dx fs)) (h : DB CD CP A H st) : DB CD CP A (upd H A.p (.ins CD dx' fs')) st := by
  obtain ⟨vs, e3, e4⟩ := h.dp
  obtain ⟨us, e5, e6⟩ := h.da
  have f : Fix CP H (upd H A.p (.ins CD dx' fs')) := Fix.ins e ne
  exact ⟨⟨dx', fs', upd_same⟩, ⟨vs, by rw [upd_ne (ne_of e3 e (by intro z; cases z))]; exact e3, pair_mono (fun _ _ h => h.mono f) e4⟩, by rw [upd_ne (ne_of h.de e (by intro z; cases z))]; exact h.de,
    ⟨us, by rw [upd_ne (ne_of e5 e (by intro z; cases z))]; exact e5, pair_mono (fun _ _ h => h.mono f) e6⟩, by rw [upd_ne (ne_of h.dn e (by intro z; cases z))]; exact h.dn, h.n1, h.n2⟩
theorem DB.dAt {CD CP : Addr} {A : AD} {H : Hp} {st : ST} {dr : Option Addr} {op : Option OP} {dx : Addr} {k n s r : V} (h : DB CD CP A H st) (e : H A.p = some (.ins CD dx (dflds A k n s r))) (o : OpAt H { A with dr := dr } k n s r op) : DAt CD CP { A with dr := dr } H { st with op := op } :=
  ⟨⟨dx, k, n, s, r, e, o⟩, h.dp, h.de, h.da, h.dn, h.n1, h.n2⟩
/-- the module's own constants that the draft reads -/
structure TM (K : PySem.W.Frag) (mg : Str → Option Value) (aK : Addr) : Prop where
  g12 : ∃ t, mg "MOST_PIECES_texts" = some (.int 12 t)
  g16 : ∃ t, mg "MOST_ROWS" = some (.int 16 t)
  gK : mg "KINDS" = some (.ref aK)
  kK : KT K aK [.str "func", .str "data"]
theorem cut_rest (w1 : V) (rest : List V) : cutV (w1 :: rest) (some 1) none = rest := by
  unfold cutV
  rw [show HT.sIx (w1 :: rest).length 0 (some 1) = min 1 (w1 :: rest).length from HT.sIx_nat _ 0 1, HT.sIx_none]
  rw [show min 1 (w1 :: rest).length = 1 by rw [List.length_cons]; omega]
  show (List.take ((w1 :: rest).length - 1) rest) = _
  exact List.take_of_length_le (by rw [List.length_cons]; omega)
section
variable {P : Program} {w : World} {K : PySem.W.Frag} {mg : Str → Option Value} {base : Heap} {aO aR dF CD CP aK : Addr} {es : Array DictEntry} {nF : Nat} {tF : Str → Addr}
theorem len2 {ws : List Str} (h : ws.length = 2) : ∃ x y, ws = [x, y] := by
  match ws, h with
  | [x, y], _ => exact ⟨x, y, rfl⟩
theorem alias_no {ws : List Str} {st : ST} (h : ¬ ws.length = 2) : takeAlias ws st = none := by
  match ws, h with
  | [], _ => rfl
  | [_], _ => rfl
  | [_, _], h => exact absurd rfl h
  | _ :: _ :: _ :: _, _ => rfl
theorem open_no {num : Int} {ws : List Str} {st : ST} (h : ¬ ws.length = 2) : openPiece num ws st = none := by
  match ws, h with
  | [], _ => rfl
  | [_], _ => rfl
  | [_, _], h => exact absurd rfl h
  | _ :: _ :: _ :: _, _ => rfl
theorem ne2 {n : Nat} : decide (V.int ((n : Nat) : Int) = V.int 2) = decide (n = 2) := by
  by_cases h : n = 2
  · subst h; simp
  · rw [decide_eq_false h]
    exact decide_eq_false fun e => h (by have := V.int.inj e; omega)
/-! ### take_alias -/
def spTakeAlias (CD CP : Addr) : Sp := fun vs H Q _ => ∃ A st a, ∃ ws : List Str, vs = [.ref A.p, .ref a] ∧ DAt CD CP A H st ∧ H a = some (.lst (ws.map V.str)) ∧ ¬ Foot A a ∧ (∀ z ∈ ws, Wd z) ∧ st.nm.length < sizeLine ∧ st.al.length < sizeLine ∧ Res CD CP A H (takeAlias ws st) Q
theorem scTA : FnScope ["self", "names"] ["self", "names"] (defScope (sDraft 4)) := ⟨rfl, rfl, rfl, by decide +kernel, rfl, by decide +kernel, by decide +kernel⟩
theorem ok_takeAlias {f fN fM : Addr} {fd fdN fdM : FuncData} (F : Fun K "take_alias" "Draft.take_alias" (sDraft 4) f fd) (T : TC K CD CP) (zl : mg "len" = none)
    (GN : FnOk P w K mg base CX0 1 fN fdN ["value"] (spIsName K)) (bN : Binds K fdN ["value"] []) (gN : mg "is_name" = some (.ref fN)) (kN : PySem.W.keepIn K (.ref fN) = true)
    (GM : FnOk P w K mg base CX0 2 fM fdM ["self", "name"] (spTakeName CD CP)) (bM : Binds K fdM ["self", "name"] []) (mM : Meth K CD "take_name" fM) : FnOk P w K mg base CX0 3 f fd ["self", "names"] (spTakeAlias CD CP) := by
  refine F.ok scTA (fun vs H Q E h => ?_) (fun cdv A0 outer s H vs Q E hr h => ?_)
  · obtain ⟨A, st, a, ws, rfl, _⟩ := h
    rfl
  · obtain ⟨A, st, a, ws, rfl, D, ha, na, hw, hl, hl2, q0, q1⟩ := h
    have hr1 : Room 1 _ := hr.mono (by decide)
    refine ⟨_, pss_cons (ps_if (PW.pt (pw_or (pt_cmpR op_ne (pe_callB call_len_seq (by rfl) zl PySem.boot_len (pa_cons (pv 1) pa_nil)) pe_int (nomark _))
          (pw_or (pt_not (pt_val (pe_call GN hr1 rfl gN kN bN .nil pass0 (pa_cons (pe_ix ix_list (pv 1) pe_int (fun _ _ => rfl)) pa_nil))))
          (pw_or1 (pt_not (pt_val (pe_meth (pv 0) T.cD mM GM hr bM .nil pass0 (pa_cons (pe_ix ix_list (pv 1) pe_int (fun _ _ => rfl)) pa_nil)))))))) (pss_one (ps_ret pe_bl)) pss_nil)
      (pss_cons (ps_expr (pe_bm PySem.F.plainAttrs_list PySem.F.slot_list_append PySem.F.type_list_append mt_append (pe_fld (pv 0) rfl) (pa_cons (pe_tupS (pa_cons (pe_ix ix_list (pv 1) pe_int (fun _ _ => rfl)) (pa_cons (pe_ix ix_list (pv 1) pe_int (fun _ _ => rfl)) pa_nil))) pa_nil)))
      (pss_one (ps_ret pe_bl))), ?_⟩
    refine ⟨.ref a, rfl, a, _, rfl, .inl (SqL.of ha), rfl, _, rfl, ?_⟩
    rw [List.length_map, ne2]
    by_cases h2 : ws.length = 2
    · obtain ⟨x, y, rfl⟩ := len2 h2
      rw [decide_eq_true h2]
      refine iteF ?_
      refine ⟨.ref a, rfl, a, _, 1, _, rfl, rfl, SqL.of ha, atI_nat (j := 1) rfl, .str y, rfl, .inl ⟨y, rfl, hw y (by simp), fun H1 s1 => ⟨_, rfl, ?_⟩⟩⟩
      cases hn : isName y with
      | false =>
        refine iteT (iteT (q0 ?_ H1 (Kept.of s1)))
        show (if isName y = true then _ else none) = none
        rw [hn, if_neg Bool.false_ne_true]
      | true =>
        have D1 := D.mono s1
        obtain ⟨dx, k, n, z, r, e1, e2⟩ := D1.ob
        have ec : takeAlias [x, y] st = (takeName x st).map fun s => { s with al := s.al ++ [(x, y)] } := by
          show (if isName y = true then _ else none) = _
          rw [hn, if_pos rfl]
        refine iteF ⟨.ref A.p, rfl, A.p, dx, _, rfl, e1, rfl, .ref a, rfl, a, _, 0, _, rfl, rfl, SqL.of (s1 _ _ ha), atI_nat (j := 0) rfl, A, st, x, rfl, D1, hw x (by simp), hl, fun en H2 k2 => ?_, fun st1 en H2 A1 k2 n2 D2 => ?_⟩
        · refine ⟨_, rfl, iteT (q0 ?_ H2 ((Kept.of s1).trans k2))⟩
          rw [ec, en]
          rfl
        · refine ⟨_, rfl, iteF ?_⟩
          have n0 : Next H A A1 := ⟨n2.1, n2.2.1, n2.2.2.1, n2.2.2.2.1, n2.2.2.2.2.1, fun b hb => (n2.2.2.2.2.2 b hb).imp id fun q => by
            cases e : H b with
            | none => rfl
            | some o => rw [s1 b o e] at q; cases q⟩
          have k0 : Kept A H H2 := (Kept.of s1).trans k2
          have a2 : H2 a = some (.lst ([x, y].map V.str)) := k0 _ _ ha na
          obtain ⟨dx2, kk, nn, ss, rr, e3, e4⟩ := D2.ob
          obtain ⟨us, e5, e6⟩ := D2.da
          have ep : A1.p = A.p := n2.1
          refine ⟨.ref A.p, rfl, A.p, CD, dx2, _, .ref A1.da, rfl, by rw [← ep]; exact e3, T.cD, T.nAliases, rfl, .inl ⟨rfl, _, SqL.of e5⟩, ?_⟩
          refine ⟨.ref a, rfl, a, _, 0, _, rfl, rfl, SqL.of a2, atI_nat (j := 0) rfl, .ref a, rfl, a, _, 1, _, rfl, rfl, SqL.of a2, atI_nat (j := 1) rfl, by simp, fun q H3 s3 nq eq => ?_⟩
          have D3 := D2.mono s3
          have f : Fix CP H2 H3 := Fix.of s3
          have lim : us.length < sizeLine := by
            have h1 := e6.length
            have h3 : st1.al = st.al := by
              unfold takeName at en
              split at en
              · cases en; rfl
              · cases en
            rw [h3] at h1
            omega
          refine ⟨A1.da, us, .ref q, rfl, rfl, s3 _ _ e5, lim, ?_⟩
          refine q1 _ (by rw [ec, en]; rfl) _ A1 ((k0.next n0 (Kept.of s3)).next n0 (Kept.upd (.inr (.inr (.inr (.inl rfl)))))) n0 (D3.put_al (p := (x, y)) (s3 _ _ e5) (pair_mono (fun _ _ h => h.mono f) e6) ⟨q, rfl, eq⟩)
    · rw [decide_eq_false h2]
      exact iteT (iteT (q0 (alias_no h2) H (Kept.of (Same.refl H))))
end
end TX

set_option Elab.async false
set_option linter.all false
set_option maxRecDepth 100000
set_option maxHeartbeats 4000000
/-! A piece is opened; a row outside of pieces. -/
namespace TX
open PySem PySem.Spec PyProof.Rows L2 L2.FK FS
theorem Next.here {H H1 : Hp} {A A1 : AD} (s : Same H H1) (n : Next H1 A A1) : Next H A A1 := ⟨n.1, n.2.1, n.2.2.1, n.2.2.2.1, n.2.2.2.2.1, fun b hb => (n.2.2.2.2.2 b hb).imp id fun q => by
  cases e : H b with
  | none => rfl
  | some o => rw [s b o e] at q; cases q⟩
theorem takeName_op {z : Str} {st st1 : ST} (h : takeName z st = some st1) : st1.op = st.op ∧ st1.ps = st.ps ∧ st1.al = st.al ∧ st1.ex = st.ex := by
  unfold takeName at h
  split at h
  · cases h; exact ⟨rfl, rfl, rfl, rfl⟩
  · cases h
theorem ne12 {n : Nat} : decide (V.int ((n : Nat) : Int) = V.int 12) = decide (n = 12) := by
  by_cases h : n = 12
  · subst h; simp
  · rw [decide_eq_false h]
    exact decide_eq_false fun e => h (by have := V.int.inj e; omega)
section
variable {P : Program} {w : World} {K : PySem.W.Frag} {mg : Str → Option Value} {base : Heap} {aO aR dF CD CP aK : Addr} {es : Array DictEntry} {nF : Nat} {tF : Str → Addr}
/-! ### open_piece -/
def spOpen (CD CP : Addr) : Sp := fun vs H Q _ => ∃ A st a num, ∃ ws : List Str, vs = [.ref A.p, .int num, .ref a] ∧ DAt CD CP A H st ∧ st.op = none ∧ H a = some (.lst (ws.map V.str)) ∧ ¬ Foot A a ∧ (∀ z ∈ ws, Wd z) ∧ st.nm.length < sizeLine ∧ Res CD CP A H (openPiece num ws st) Q
theorem scOP : FnScope ["self", "number", "words"] ["self", "number", "words"] (defScope (sDraft 6)) := ⟨rfl, rfl, rfl, by decide +kernel, rfl, by decide +kernel, by decide +kernel⟩
theorem ok_open {f fM : Addr} {fd fdM : FuncData} (F : Fun K "open_piece" "Draft.open_piece" (sDraft 6) f fd) (T : TC K CD CP) (M : TM K mg aK) (zl : mg "len" = none)
    (GM : FnOk P w K mg base CX0 2 fM fdM ["self", "name"] (spTakeName CD CP)) (bM : Binds K fdM ["self", "name"] []) (mM : Meth K CD "take_name" fM) : FnOk P w K mg base CX0 3 f fd ["self", "number", "words"] (spOpen CD CP) := by
  obtain ⟨t12, g12⟩ := M.g12
  refine F.ok scOP (fun vs H Q E h => ?_) (fun cdv A0 outer s H vs Q E hr h => ?_)
  · obtain ⟨A, st, a, num, ws, rfl, _⟩ := h
    rfl
  · obtain ⟨A, st, a, num, ws, rfl, D, hop, ha, na, hw, hl, q0, q1⟩ := h
    refine ⟨_, pss_cons (ps_if (PW.pt (pw_or (pt_cmpR op_ne (pe_callB call_len_seq (by rfl) zl PySem.boot_len (pa_cons (pv 2) pa_nil)) pe_int (nomark _))
          (pw_or (pt_cmpR op_eq (pe_callB call_len_seq (by rfl) zl PySem.boot_len (pa_cons (pe_fld (pv 0) rfl) pa_nil)) (pe_glob rfl g12 (v := .int 12) ⟨_, rfl⟩) (by rfl))
          (pw_or1 (pt_not (pt_val (pe_meth (pv 0) T.cD mM GM hr bM .nil pass0 (pa_cons (pe_ix ix_list (pv 2) pe_int (fun _ _ => rfl)) pa_nil)))))))) (pss_one (ps_ret pe_bl)) pss_nil)
      (pss_cons (ps_asg (pv 2) (pg_unl rfl (pgs_cons (pg_fld (pv 0)) (pgs_cons (pg_fld (pv 0)) pgs_nil))))
      (pss_cons (ps_fld (pv 0) (pe_op op_add (pv 1) pe_int) rfl)
      (pss_cons (ps_fld (pv 0) (pe_lstS pa_nil) rfl)
      (pss_one (ps_ret pe_bl))))), ?_⟩
    refine ⟨.ref a, rfl, a, _, rfl, .inl (SqL.of ha), rfl, _, rfl, ?_⟩
    rw [List.length_map, ne2]
    by_cases h2 : ws.length = 2
    · obtain ⟨x, y, rfl⟩ := len2 h2
      rw [decide_eq_true h2]
      refine iteF ?_
      obtain ⟨dx, k, n, z, r, e1, e2⟩ := D.ob
      obtain ⟨vs, e3, e4⟩ := D.dp
      refine ⟨.ref A.p, rfl, A.p, CD, dx, _, .ref A.dp, rfl, e1, T.cD, T.nPieces, rfl, A.dp, _, rfl, .inl (SqL.of e3), rfl, _, rfl, ?_⟩
      rw [← e4.length, ne12]
      by_cases h12 : st.ps.length = 12
      · rw [decide_eq_true h12]
        refine iteT (iteT (q0 ?_ H (Kept.of (Same.refl H))))
        show (if st.ps.length = 12 then none else _) = none
        rw [if_pos h12]
      · rw [decide_eq_false h12]
        have ec : openPiece num [x, y] st = (takeName y st).map fun s => { s with op := some ⟨x, y, num + 1, []⟩ } := by
          show (if st.ps.length = 12 then none else _) = _
          rw [if_neg h12]
        refine iteF ⟨.ref A.p, rfl, A.p, dx, _, rfl, e1, rfl, .ref a, rfl, a, _, 1, _, rfl, rfl, SqL.of ha, atI_nat (j := 1) rfl, A, st, y, rfl, D, hw y (by simp), hl, fun en H2 k2 => ?_, fun st1 en H2 A1 k2 n2 D2 => ?_⟩
        · refine ⟨_, rfl, iteT (q0 ?_ H2 k2)⟩
          rw [ec, en]
          rfl
        · refine ⟨_, rfl, iteF ?_⟩
          have a2 : H2 a = some (.lst ([x, y].map V.str)) := k2 _ _ ha na
          obtain ⟨dx2, kk, nn, ss, rr, e5, e6⟩ := D2.ob
          have ep : A1.p = A.p := n2.1
          have B0 := D2.db
          have B1 := B0.put (dx' := dx2) (fs' := dflds A1 (.str x) nn ss rr) T.ne e5
          have B2 := B1.put (dx' := dx2) (fs' := dflds A1 (.str x) (.str y) ss rr) T.ne upd_same
          have B3 := B2.put (dx' := dx2) (fs' := dflds A1 (.str x) (.str y) (.int (num + 1)) rr) T.ne upd_same
          rw [ep] at B1 B2 B3 e5
          refine ⟨.ref a, rfl, a, _, rfl, SqL.of a2, rfl, _, _, rfl, .ref A.p, rfl, A.p, CD, dx2, _, rfl, e5, T.cD, T.nKind, (by show 8 < 1000; decide), ?_⟩
          refine ⟨_, _, rfl, .ref A.p, rfl, A.p, CD, dx2, dflds A1 (.str x) nn ss rr, rfl, upd_same, T.cD, T.nName, (by show 8 < 1000; decide), rfl, ?_⟩
          refine ⟨.int num, rfl, num, 1, rfl, rfl, .ref A.p, rfl, A.p, CD, dx2, dflds A1 (.str x) (.str y) ss rr, rfl, upd_same, T.cD, T.nStart, (by show 8 < 1000; decide), ?_⟩
          refine ⟨by simp, fun q H3 s3 nq eq => ⟨.ref A.p, rfl, A.p, CD, dx2, dflds A1 (.str x) (.str y) (.int (num + 1)) rr, rfl, s3 _ _ upd_same, T.cD, T.nRows, (by show 8 < 1000; decide), ?_⟩⟩
          have B4 := B3.mono s3
          have e7 : H3 A.p = some (.ins CD dx2 (dflds A1 (.str x) (.str y) (.int (num + 1)) rr)) := s3 _ _ upd_same
          rw [← ep] at e7
          have B5 := B4.put (dx' := dx2) (fs' := dflds A1 (.str x) (.str y) (.int (num + 1)) (.ref q)) T.ne e7
          rw [ep] at B5 e7
          have nqp : q ≠ A.p := fun e => by rw [e, upd_same] at nq; cases nq
          have q2 : H2 q = none := by
            rw [upd_ne nqp, upd_ne nqp, upd_ne nqp] at nq
            exact nq
          have D5 : DAt CD CP { A1 with dr := some q } (upd H3 A.p (.ins CD dx2 (dflds A1 (.str x) (.str y) (.int (num + 1)) (.ref q)))) { st1 with op := some ⟨x, y, num + 1, []⟩ } := by
            refine B5.dAt (dx := dx2) (k := .str x) (n := .str y) (s := .int (num + 1)) (r := .ref q) (by rw [ep]; exact upd_same) ⟨rfl, rfl, rfl, q, [], rfl, rfl, by rw [upd_ne nqp]; exact eq, .nil, fun e => ?_, fun e => ?_⟩
            · obtain ⟨vs2, e8, _⟩ := D2.dp
              rw [e, e8] at q2
              cases q2
            · obtain ⟨vs2, e8, _⟩ := D2.da
              rw [e, e8] at q2
              cases q2
          have fp : Foot A A.p := .inl rfl
          refine q1 _ (by rw [ec, en]; rfl) _ { A1 with dr := some q } ((((k2.trans (Kept.upd fp)).trans (Kept.upd fp)).trans (Kept.upd fp)).trans ((Kept.of s3).trans (Kept.upd fp))) ?_ D5
          refine Next.trans (st := st1) k2 n2 D2 ⟨rfl, rfl, rfl, rfl, rfl, fun b hb => ?_⟩
          obtain rfl : q = b := Option.some.inj hb
          exact .inr q2
    · rw [decide_eq_false h2]
      exact iteT (iteT (q0 (open_no h2) H (Kept.of (Same.refl H))))
end
end TX

set_option Elab.async false
set_option linter.all false
set_option maxRecDepth 100000
set_option maxHeartbeats 4000000
/-! A row outside of pieces; a row within a piece. -/
namespace TX
open PySem PySem.Spec PyProof.Rows L2 L2.FK FS
theorem DAt.free {CD CP : Addr} {A : AD} {H : Hp} {st : ST} (h : DAt CD CP A H st) {b : Addr} (e : H b = none) : ¬ Foot A b := by
  intro f
  obtain ⟨dx, k, n, s, r, e1, e2⟩ := h.ob
  obtain ⟨vs, e3, _⟩ := h.dp
  obtain ⟨us, e5, _⟩ := h.da
  rcases f with f | f | f | f | f | f
  · rw [f, e1] at e; cases e
  · rw [f, e3] at e; cases e
  · rw [f, h.de] at e; cases e
  · rw [f, e5] at e; cases e
  · rw [f, h.dn] at e; cases e
  · cases ho : st.op with
    | none => rw [ho] at e2; rw [e2.2] at f; cases f
    | some o =>
      rw [ho] at e2
      obtain ⟨_, _, _, dr, ws, q1, _, q2, _⟩ := e2
      rw [q1] at f
      cases f
      rw [q2] at e
      cases e
section
variable {P : Program} {w : World} {K : PySem.W.Frag} {mg : Str → Option Value} {base : Heap} {aO aR dF CD CP aK : Addr} {es : Array DictEntry} {nF : Nat} {tF : Str → Addr}
theorem kinds_in (w1 : Str) : inV (.str w1) [.str "func", .str "data"] = decide (w1 = "func" ∨ w1 = "data") := by
  show (decide (("func" : Str) = w1) || (decide (("data" : Str) = w1) || false)) = _
  by_cases h1 : w1 = "func"
  · subst h1; simp
  · by_cases h2 : w1 = "data"
    · subst h2; simp
    · rw [decide_eq_false fun e => h1 e.symm, decide_eq_false fun e => h2 e.symm, decide_eq_false fun e => e.elim h1 h2]
      rfl
/-! ### take_between -/
def spBetween (CD CP : Addr) : Sp := fun vs H Q _ => ∃ A st a num, ∃ ws : List Str, vs = [.ref A.p, .int num, .ref a] ∧ DAt CD CP A H st ∧ st.op = none ∧ H a = some (.lst (ws.map V.str)) ∧ ¬ Foot A a ∧ ws ≠ [] ∧ (∀ z ∈ ws, Wd z) ∧ st.nm.length < sizeLine ∧ st.al.length < sizeLine ∧ st.ex.length + ws.length < sizeLine ∧ Res CD CP A H (takeBetween num ws st) Q
theorem scTB : FnScope ["self", "number", "words"] ["self", "number", "words"] (defScope (sDraft 2)) := ⟨rfl, rfl, rfl, by decide +kernel, rfl, by decide +kernel, by decide +kernel⟩
theorem ok_between {f fE fA fO : Addr} {fd fdE fdA fdO : FuncData} (F : Fun K "take_between" "Draft.take_between" (sDraft 2) f fd) (T : TC K CD CP) (M : TM K mg aK)
    (GE : FnOk P w K mg base CX0 2 fE fdE ["self", "names"] (spTakeExports CD CP)) (bE : Binds K fdE ["self", "names"] []) (mE : Meth K CD "take_exports" fE)
    (GA : FnOk P w K mg base CX0 3 fA fdA ["self", "names"] (spTakeAlias CD CP)) (bA : Binds K fdA ["self", "names"] []) (mA : Meth K CD "take_alias" fA)
    (GO : FnOk P w K mg base CX0 3 fO fdO ["self", "number", "words"] (spOpen CD CP)) (bO : Binds K fdO ["self", "number", "words"] []) (mO : Meth K CD "open_piece" fO) : FnOk P w K mg base CX0 4 f fd ["self", "number", "words"] (spBetween CD CP) := by
  refine F.ok scTB (fun vs H Q E h => ?_) (fun cdv A0 outer s H vs Q E hr h => ?_)
  · obtain ⟨A, st, a, num, ws, rfl, _⟩ := h
    rfl
  · obtain ⟨A, st, a, num, ws, rfl, D, hop, ha, na, hne, hw, l1, l2, l3, R⟩ := h
    have hr1 : Room 2 _ := hr.mono (by decide)
    refine ⟨_, pss_cons (ps_if (pt_cmpR op_eq (pe_ix ix_list (pv 2) pe_int (fun _ _ => rfl)) pe_str (nomark _)) (pss_one (ps_ret (pe_meth (pv 0) T.cD mE GE hr1 bE .nil pass0 (pa_cons (pe_slice sl_listS (pv 2) (po_some pe_int) po_none) pa_nil)))) pss_nil)
      (pss_cons (ps_if (pt_cmpR op_eq (pe_ix ix_list (pv 2) pe_int (fun _ _ => rfl)) pe_str (nomark _)) (pss_one (ps_ret (pe_meth (pv 0) T.cD mA GA hr bA .nil pass0 (pa_cons (pe_slice sl_listS (pv 2) (po_some pe_int) po_none) pa_nil)))) pss_nil)
      (pss_one (ps_ret (pe_and (pe_cmpR op_in_seq (pe_ix ix_list (pv 2) pe_int (fun _ _ => rfl)) (pe_glob rfl M.gK (v := .ref aK) rfl) (by rfl)) (pe_one (pe_meth (pv 0) T.cD mO GO hr bO .nil pass0 (pa_cons (pv 1) (pa_cons (pv 2) pa_nil)))))))), ?_⟩
    obtain ⟨w1, rest, rfl⟩ : ∃ w1 rest, ws = w1 :: rest := by
      cases ws with
      | nil => exact absurd rfl hne
      | cons w1 rest => exact ⟨w1, rest, rfl⟩
    obtain ⟨dx, k, n, z, r, e1, e2⟩ := D.ob
    have h0 : ((w1 :: rest).map V.str)[0]? = some (.str w1) := rfl
    have hrest : ∀ z ∈ rest, Wd z := fun z hz => hw z (List.mem_cons_of_mem _ hz)
    have ec : cutV ((w1 :: rest).map V.str) (some 1) none = rest.map V.str := cut_rest _ _
    have l3' : st.ex.length + rest.length < sizeLine := by
      rw [List.length_cons] at l3
      omega
    refine ⟨.ref a, rfl, a, _, 0, _, rfl, rfl, SqL.of ha, atI_nat (j := 0) h0, rfl, _, rfl, ?_⟩
    rw [str_eq]
    refine ite2 (fun h => ?_) (fun h => ?_)
    · have e : w1 = "export" := of_decide_eq_true h
      refine ⟨.ref A.p, rfl, A.p, dx, _, rfl, e1, rfl, .ref a, rfl, 1, rfl, a, _, rfl, SqL.of ha, fun p1 H1 s1 n1 e9 => ⟨A, st, p1, rest, rfl, D.mono s1, by rw [ec] at e9; exact e9, D.free n1, hrest, l3', ?_⟩⟩
      refine (R.here s1).of ?_
      show (if w1 = "export" then _ else _) = _
      rw [if_pos e]
    · have e : ¬ w1 = "export" := fun e => h (decide_eq_true e)
      refine ⟨.ref a, rfl, a, _, 0, _, rfl, rfl, SqL.of ha, atI_nat (j := 0) h0, rfl, _, rfl, ?_⟩
      rw [str_eq]
      refine ite2 (fun h => ?_) (fun h => ?_)
      · have e' : w1 = "alias" := of_decide_eq_true h
        refine ⟨.ref A.p, rfl, A.p, dx, _, rfl, e1, rfl, .ref a, rfl, 1, rfl, a, _, rfl, SqL.of ha, fun p1 H1 s1 n1 e9 => ⟨A, st, p1, rest, rfl, D.mono s1, by rw [ec] at e9; exact e9, D.free n1, hrest, l1, l2, ?_⟩⟩
        refine (R.here s1).of ?_
        show (if w1 = "export" then _ else if w1 = "alias" then _ else _) = _
        rw [if_neg e, if_pos e']
      · have e' : ¬ w1 = "alias" := fun e => h (decide_eq_true e)
        have et : takeBetween num (w1 :: rest) st = if w1 = "func" ∨ w1 = "data" then openPiece num (w1 :: rest) st else none := by
          show (if w1 = "export" then _ else if w1 = "alias" then _ else _) = _
          rw [if_neg e, if_neg e']
        refine ⟨.ref a, rfl, a, _, 0, _, rfl, rfl, SqL.of ha, atI_nat (j := 0) h0, aK, _, rfl, .inr (M.kK.sq H), rfl, by decide, _, rfl, ?_⟩
        rw [show (if false = true then !inV (V.str w1) [.str "func", .str "data"] else inV (V.str w1) [.str "func", .str "data"]) = decide (w1 = "func" ∨ w1 = "data") from kinds_in w1]
        refine ite2 (fun h => ?_) (fun h => ?_)
        · refine ⟨.ref A.p, rfl, A.p, dx, _, rfl, e1, rfl, .int num, rfl, .ref a, rfl, A, st, a, num, w1 :: rest, rfl, D, hop, ha, na, hw, l1, R.of ?_⟩
          rw [et, if_pos (of_decide_eq_true h)]
        · have hf : ¬ (w1 = "func" ∨ w1 = "data") := fun q => h (decide_eq_true q)
          exact R.1 (by rw [et, if_neg hf]) H (Kept.of (Same.refl H))
end
end TX

set_option Elab.async false
set_option linter.all false
set_option maxRecDepth 100000
set_option maxHeartbeats 4000000
/-! A row within a piece. -/
namespace TX
open PySem PySem.Spec PyProof.Rows L2 L2.FK FS
/-- a row more of the open piece -/
theorem DAt.put_rw {CD CP : Addr} {A : AD} {H : Hp} {st : ST} {o : OP} {dr : Addr} {ws : List V} {v : V} {r : MR} (h : DAt CD CP A H st) (ho : st.op = some o) (e4 : A.dr = some dr) (e6 : H dr = some (.lst ws)) (hv : RowAt H r v) :
    DAt CD CP A (upd H dr (.lst (ws ++ [v]))) { st with op := some { o with rows := o.rows ++ [r] } } := by
  obtain ⟨dx, k, n, s, rr, e1, e2⟩ := h.ob
  obtain ⟨vs, e3, e5⟩ := h.dp
  obtain ⟨us, e7, e8⟩ := h.da
  rw [ho] at e2
  obtain ⟨q1, q2, q3, dr', ws', q4, q5, q6, q7, q8, q9⟩ := e2
  rw [e4] at q4
  cases q4
  rw [e6] at q6
  cases q6
  have f : Fix CP H (upd H dr (.lst (ws ++ [v]))) := Fix.lst e6
  exact ⟨⟨dx, k, n, s, rr, by rw [upd_ne (ne_of e1 e6 (by intro z; cases z))]; exact e1, q1, q2, q3, dr, _, e4, q5, upd_same, pair_mono (fun _ _ h => h.mono f) (pair_snoc q7 hv), q8, q9⟩,
    ⟨vs, by rw [upd_ne q8.symm]; exact e3, pair_mono (fun _ _ h => h.mono f) e5⟩, by rw [upd_ne (ne_of h.de e6 (by intro z; cases z))]; exact h.de,
    ⟨us, by rw [upd_ne q9.symm]; exact e7, pair_mono (fun _ _ h => h.mono f) e8⟩, by rw [upd_ne (ne_of h.dn e6 (by intro z; cases z))]; exact h.dn, h.n1, h.n2⟩
theorem ne16 {n : Nat} : decide (V.int ((n : Nat) : Int) = V.int 16) = decide (n = 16) := by
  by_cases h : n = 16
  · subst h; simp
  · rw [decide_eq_false h]
    exact decide_eq_false fun e => h (by have := V.int.inj e; omega)
/-- what reading a row of this kind hands back -/
def RowV (H : Hp) (o : Option MR) (v : V) : Prop := (o = none ∧ v = .non) ∨ ∃ r, o = some r ∧ RowAt H r v ∧ v ≠ .non
section
variable {P : Program} {w : World} {K : PySem.W.Frag} {mg : Str → Option Value} {base : Heap} {aO aR dF CD CP aK : Addr} {es : Array DictEntry} {nF : Nat} {tF : Str → Addr}
/-! ### take_within -/
def spWithin (CD CP : Addr) : Sp := fun vs H Q _ => ∃ A st op a, ∃ ws : List Str, vs = [.ref A.p, .ref a] ∧ DAt CD CP A H st ∧ st.op = some op ∧ H a = some (.lst (ws.map V.str)) ∧ ¬ Foot A a ∧ ws ≠ [] ∧ (∀ z ∈ ws, Wd z) ∧ op.rows.length ≤ 16 ∧ Res CD CP A H (takeWithin ws op st) Q
theorem scTW : FnScope ["self", "words", "row"] ["self", "words"] (defScope (sDraft 7)) := ⟨rfl, rfl, rfl, by decide +kernel, rfl, by decide +kernel, by decide +kernel⟩
theorem ok_within {f fI fD : Addr} {fd fdI fdD : FuncData} (F : Fun K "take_within" "Draft.take_within" (sDraft 7) f fd) (T : TC K CD CP) (M : TM K mg aK) (zl : mg "len" = none)
    (GI : FnOk P w K mg base CX0 4 fI fdI ["words"] (spReadIns K)) (bI : Binds K fdI ["words"] []) (gI : mg "read_instruction" = some (.ref fI)) (kI : PySem.W.keepIn K (.ref fI) = true)
    (GD : FnOk P w K mg base CX0 2 fD fdD ["words"] (spReadDat K)) (bD : Binds K fdD ["words"] []) (gD : mg "read_datum" = some (.ref fD)) (kD : PySem.W.keepIn K (.ref fD) = true) : FnOk P w K mg base CX0 5 f fd ["self", "words"] (spWithin CD CP) := by
  obtain ⟨t16, g16⟩ := M.g16
  refine F.ok scTW (fun vs H Q E h => ?_) (fun cdv A0 outer s H vs Q E hr h => ?_)
  · obtain ⟨A, st, op, a, ws, rfl, _⟩ := h
    rfl
  · obtain ⟨A, st, op, a, ws, rfl, D, hop, ha, na, hne, hw, hl, q0, q1⟩ := h
    have hr2 : Room 2 _ := hr.mono (by decide)
    obtain ⟨dx, k, n, z, r, e1, e2⟩ := D.ob
    rw [hop] at e2
    obtain ⟨y1, y2, y3, dr, rws, y4, y5, y6, y7, y8, y9⟩ := e2
    subst y1 y5
    refine ⟨_, pss_cons (ps_set (i := 2) scTW.nd rfl (.inl rfl) (pe_imp (pe_ifExp (pt_cmpR op_eq (pe_fld (pv 0) rfl) pe_str (nomark _)) (pe_call GI hr rfl gI kI bI .nil pass0 (pa_cons (pv 1) pa_nil)) (pe_call GD hr2 rfl gD kD bD .nil pass0 (pa_cons (pv 1) pa_nil)))
        (t' := fun σ H' Q' => H' = H ∧ σ[0]? = some (some (.ref A.p)) ∧ σ[1]? = some (some (.ref a)) ∧ ∀ H1 v, Same H H1 → RowV H1 (rowOf op.kind ws) v → Q' v H1) (fun σ H' Q' hh => by
          obtain ⟨eH, s0, s1, q⟩ := hh
          subst eH
          refine ⟨.ref A.p, s0, A.p, CD, dx, _, .str op.kind, rfl, e1, T.cD, T.nKind, rfl, rfl, _, rfl, ?_⟩
          rw [str_eq]
          refine ite2 (fun h => ?_) (fun h => ?_)
          · have e : rowOf op.kind ws = (readIns ws).map .ins := by
              unfold rowOf
              rw [if_pos (of_decide_eq_true h)]
            refine ⟨.ref a, s1, a, ws, rfl, SqL.of ha, hne, hw, fun en H1 s1 => q H1 .non s1 (.inl ⟨by rw [e, en]; rfl, rfl⟩), fun xs en H1 p1 s1 n1 e9 => q H1 (.ref p1) s1 (.inr ⟨.ins xs, by rw [e, en]; rfl, ⟨p1, rfl, e9⟩, fun e => nomatch e⟩)⟩
          · have e : rowOf op.kind ws = if readDat ws = .non then none else some (.dat (readDat ws)) := by
              unfold rowOf
              rw [if_neg fun e => h (decide_eq_true e)]
            refine ⟨.ref a, s1, a, ws, rfl, SqL.of ha, hw, fun H1 s1 => q H1 _ s1 ?_⟩
            by_cases hd : readDat ws = .non
            · exact .inl ⟨by rw [e, if_pos hd], hd⟩
            · exact .inr ⟨.dat (readDat ws), by rw [e, if_neg hd], rfl, hd⟩)))
      (pss_cons (ps_if (PW.pt (pw_or (pt_cmp (pc_isN (pv 2))) (pw_or1 (pt_cmpR op_eq (pe_callB call_len_seq (by rfl) zl PySem.boot_len (pa_cons (pe_fld (pv 0) rfl) pa_nil)) (pe_glob rfl g16 (v := .int 16) ⟨_, rfl⟩) (by rfl))))) (pss_one (ps_ret pe_bl)) pss_nil)
      (pss_cons (ps_expr (pe_bm PySem.F.plainAttrs_list PySem.F.slot_list_append PySem.F.type_list_append mt_append (pe_fld (pv 0) rfl) (pa_cons (pv 2) pa_nil)))
      (pss_one (ps_ret pe_bl)))), ?_⟩
    refine ⟨rfl, rfl, rfl, fun H1 v s1 hv => ?_⟩
    have D1 := D.mono s1
    have e1' := s1 _ _ e1
    rcases hv with ⟨en, rfl⟩ | ⟨r, en, hv, hnn⟩
    · refine ⟨.non, rfl, _, rfl, iteT (iteT (q0 ?_ H1 (Kept.of s1)))⟩
      unfold takeWithin
      rw [en]
    · have hnd : decide (v = V.non) = false := decide_eq_false hnn
      refine ⟨v, rfl, _, rfl, ?_⟩
      rw [hnd]
      refine iteF ⟨.ref A.p, rfl, A.p, CD, dx, _, .ref dr, rfl, e1', T.cD, T.nRows, rfl, dr, _, rfl, .inl (SqL.of (s1 _ _ y6)), rfl, _, rfl, ?_⟩
      rw [← y7.length, ne16]
      by_cases h16 : op.rows.length = 16
      · rw [decide_eq_true h16]
        refine iteT (q0 ?_ H1 (Kept.of s1))
        unfold takeWithin
        rw [en]
        show (if op.rows.length = 16 then none else _) = none
        rw [if_pos h16]
      · rw [decide_eq_false h16]
        refine iteF ⟨.ref A.p, rfl, A.p, CD, dx, _, .ref dr, rfl, e1', T.cD, T.nRows, rfl, .inl ⟨rfl, _, SqL.of (s1 _ _ y6)⟩, v, rfl, dr, rws, v, rfl, rfl, s1 _ _ y6, small1000 (by rw [← y7.length]; omega), ?_⟩
        refine q1 _ ?_ _ A ((Kept.of s1).trans (Kept.upd (.inr (.inr (.inr (.inr (.inr y4))))))) (Next.same _ _) (D1.put_rw hop y4 (s1 _ _ y6) hv)
        unfold takeWithin
        rw [en]
        show (if op.rows.length = 16 then none else _) = _
        rw [if_neg h16]
end
end TX

set_option Elab.async false
set_option linter.all false
set_option maxRecDepth 100000
set_option maxHeartbeats 4000000
/-! A piece is made; a text is refused; a piece is closed. -/
namespace TX
open PySem PySem.Spec PyProof.Rows L2 L2.FK FS
section
variable {X : Cx}
theorem call_tupleS : CallR X (.type "tuple") (fun xs H Q => ∃ p ys, xs = [.ref p] ∧ SqL X.K H p ys ∧ ∀ l H', Same H H' → H l = none → H' l = some (.tup ys) → Q (.ref l) H') := fun pins s σ H xs us Q I r ⟨p, ys, e, h, q⟩ =>
  call_tuple_of pins s σ H xs us Q I r ⟨p, ys, e, .inl ⟨h, fun l nl => q l _ (same_new nl) nl upd_same⟩⟩
theorem call_tupDS (hc : X.calm = true) : CallR X (.type "tuple") (fun xs H Q => ∃ p kvs, xs = [.ref p] ∧ H p = some (.dK kvs) ∧ ∀ l H', Same H H' → H l = none → H' l = some (.tup (kvs.map fun kv => kV kv.1)) → Q (.ref l) H') := fun pins s σ H xs us Q I r ⟨p, kvs, e, h, q⟩ =>
  call_tuple_dK hc pins s σ H xs us Q I r ⟨p, kvs, e, h, fun l nl => q l _ (same_new nl) nl upd_same⟩
end
theorem same_none {H H1 : Hp} (s : Same H H1) {b : Addr} (e : H1 b = none) : H b = none := by
  cases q : H b with
  | none => rfl
  | some o => rw [s b o q] at e; cases e
/-! ### the error -/
def spBad (C : Addr) (f : Str) : Sp := fun vs H Q _ => ∃ (a : Addr) (v : V), vs = [.ref a, v] ∧ H a = some (exo a C none) ∧ ∀ H' d, H d = none → d ≠ a → Off a H H' → H' a = some (exo a C (some d)) → H' d = some (exd d [(f, v)]) → Q .non H'
/-- the reading of C(v) in a raise -/
theorem bad_mk {C : Addr} {f : Str} {v : V} {H : Hp} {W : XK} (h : ∀ d H', H d = none → Same H H' → H' d = some (.xd [(f, v)]) → W (.ref C) (some d) H') :
    [v].length ≤ 1000 ∧ ∀ a, H a = none → spBad C f (.ref a :: ([v] ++ [])) (upd H a (exo a C none)) (fun v H2 => v = .non ∧ ∃ (d : Addr) (fs : List (Str × V)), H2 a = some (exo a C (some d)) ∧ H2 d = some (exd d fs) ∧ H d = none ∧ W (.ref C) (some d) (upd (L2.del H2 a) d (.xd fs))) (fun _ _ _ => False) := by
  refine ⟨by simp, fun a na => ⟨a, v, rfl, upd_same, fun H' d nd da off e1 e2 => ⟨rfl, d, _, e1, e2, ?_, ?_⟩⟩⟩
  · rw [upd_ne da] at nd
    exact nd
  · have nd' : H d = none := by
      rw [upd_ne da] at nd
      exact nd
    refine h d _ nd' (fun b o e => ?_) upd_same
    have b1 : b ≠ d := ne_of_none e nd'
    have b2 : b ≠ a := ne_of_none e na
    rw [upd_ne b1, del_ne b2]
    exact off b o b2 (by rw [upd_ne b2]; exact e)
/-- what a refused text leaves: an error with the row -/
def BadOut (CB : Addr) (A : AD) (H : Hp) (v : V) (E : XK) : Prop := ∀ d H', Kept A H H' → H' d = some (.xd [("row", v)]) → E (.ref CB) (some d) H'
/-! ### good rows -/
def Good : MR → Prop
  | .ins xs => (∃ w1 r form, xs = .str w1 :: r ∧ formOf w1 = some form) ∧ (targetOf xs = .non ∨ ∃ t, targetOf xs = .int t)
  | .dat _ => False
theorem DB.put_ps {CD CP : Addr} {A : AD} {H : Hp} {st : ST} {vs : List V} {v : V} {p : MP} (h : DB CD CP A H st) (e3 : H A.dp = some (.lst vs)) (e4 : Paired (PieceAt CP H) st.ps vs) (hv : PieceAt CP H p v) :
    DB CD CP A (upd H A.dp (.lst (vs ++ [v]))) { st with ps := st.ps ++ [p] } := by
  obtain ⟨dx, fs, e1⟩ := h.pi
  obtain ⟨us, e5, e6⟩ := h.da
  have f : Fix CP H (upd H A.dp (.lst (vs ++ [v]))) := Fix.lst e3
  exact ⟨⟨dx, fs, by rw [upd_ne (ne_of e1 e3 (by intro z; cases z))]; exact e1⟩, ⟨_, upd_same, pair_mono (fun _ _ h => h.mono f) (pair_snoc e4 hv)⟩, by rw [upd_ne (ne_of h.de e3 (by intro z; cases z))]; exact h.de,
    ⟨us, by rw [upd_ne h.n1.symm]; exact e5, pair_mono (fun _ _ h => h.mono f) e6⟩, by rw [upd_ne (ne_of h.dn e3 (by intro z; cases z))]; exact h.dn, h.n1, h.n2⟩
theorem pair_get {α : Type} {R : α → V → Prop} : ∀ {xs : List α} {vs : List V} {i : Nat} {v : V}, Paired R xs vs → vs[i]? = some v → ∃ x, xs[i]? = some x ∧ R x v
  | _, _, _, _, .nil, e => by simp at e
  | _, _, 0, _, .cons h t, e => by
    simp at e
    subst e
    exact ⟨_, rfl, h⟩
  | _, _, i + 1, _, .cons h t, e => by
    simp at e
    obtain ⟨x, h1, h2⟩ := pair_get t e
    exact ⟨x, by simpa using h1, h2⟩
abbrev sPieceI : Stmt := inClass (top (TX.o + 10)) 0
abbrev sBadI : Stmt := inClass (top 3) 0
section
variable {P : Program} {w : World} {K : PySem.W.Frag} {mg : Str → Option Value} {base : Heap} {aO aR dF CD CP CB fB aK : Addr} {es : Array DictEntry} {nF : Nat} {tF : Str → Addr}
theorem scBI : FnScope ["self", "row"] ["self", "row"] (defScope sBadI) := ⟨rfl, rfl, rfl, by decide +kernel, rfl, by decide +kernel, by decide +kernel⟩
theorem ok_badI {f C : Addr} {fd : FuncData} (F : Fun K "__init__" "BadText.__init__" sBadI f fd) (E : EC K mg "BadText" C f) (no0 : PySem.W.findIn K (.ref C) "row" = some none) : FnOk P w K mg base CX0 1 f fd ["self", "row"] (spBad C "row") := by
  refine F.ok scBI (fun vs H Q E h => ?_) (fun cdv A outer s H vs Q E1 hr h => ?_)
  · obtain ⟨a, v, rfl, _⟩ := h
    rfl
  · obtain ⟨a, v, rfl, ha, k⟩ := h
    refine ⟨_, pss_one (ps_ost (pv 0) (pv 1)), ?_⟩
    exact ⟨v, rfl, .ref a, rfl, a, C, rfl, E.oex, no0, .inl ⟨ha, fun dx n ne => k _ dx n ne (off_first n) upd_same (by rw [upd_ne ne, upd_same])⟩⟩
/-! ### Piece.__init__ -/
def spPieceI (CP : Addr) : Sp := fun vs H Q _ => ∃ p dx a b c, vs = [.ref p, a, b, c] ∧ H p = some (.ins CP dx []) ∧ ∀ H', Off p H H' → H' p = some (.ins CP dx [("name", a), ("kind", b), ("rows", c)]) → Q .non H'
theorem scPI : FnScope ["self", "name", "kind", "rows"] ["self", "name", "kind", "rows"] (defScope sPieceI) := ⟨rfl, rfl, rfl, by decide +kernel, rfl, by decide +kernel, by decide +kernel⟩
theorem ok_pieceI {f : Addr} {fd : FuncData} (F : Fun K "__init__" "Piece.__init__" sPieceI f fd) (T : TC K CD CP) : FnOk P w K mg base CX0 1 f fd ["self", "name", "kind", "rows"] (spPieceI CP) := by
  refine F.ok scPI (fun vs H Q E h => ?_) (fun cdv A outer s H vs Q E hr h => ?_)
  · obtain ⟨p, dx, a, b, c, rfl, _⟩ := h
    rfl
  · obtain ⟨p, dx, a, b, c, rfl, hp, q⟩ := h
    refine ⟨_, pss_cons (ps_fld (pv 0) (pv 1) rfl) (pss_cons (ps_fld (pv 0) (pv 2) rfl) (pss_one (ps_fld (pv 0) (pv 3) rfl))), ?_⟩
    refine ⟨a, rfl, _, rfl, p, CP, dx, [], rfl, hp, T.cP, T.pName, (by show 0 < 1000; decide), ?_⟩
    refine ⟨b, rfl, _, rfl, p, CP, dx, [("name", a)], rfl, upd_same, T.cP, T.pKind, (by show 1 < 1000; decide), ?_⟩
    refine ⟨c, rfl, _, rfl, p, CP, dx, [("name", a), ("kind", b)], rfl, upd_same, T.cP, T.pRows, (by show 2 < 1000; decide), ?_⟩
    exact q _ (fun b o ne e => by rw [upd_ne ne, upd_ne ne, upd_ne ne]; exact e) upd_same
end
end TX

set_option Elab.async false
set_option linter.all false
set_option maxRecDepth 100000
set_option maxHeartbeats 4000000
/-! A piece is closed. -/
namespace TX
open PySem PySem.Spec PyProof.Rows L2 L2.FK FS
section
variable {P : Program} {w : World} {K : PySem.W.Frag} {mg : Str → Option Value} {base : Heap} {aO aR dF CD CP CB fB aK : Addr} {es : Array DictEntry} {nF : Nat} {tF : Str → Addr}
def spClose (CD CP CB : Addr) : Sp := fun vs H Q E => ∃ A st op, vs = [.ref A.p] ∧ DAt CD CP A H st ∧ st.op = some op ∧ (op.kind = "func" → ∀ r ∈ op.rows, Good r) ∧ op.rows.length ≤ 16 ∧ st.ps.length < sizeLine ∧
  (∀ i, closePiece op st = .error i → BadOut CB A H (.int i) E) ∧ (∀ st', closePiece op st = .ok st' → ∀ H' A', Kept A H H' → Next H A A' → DAt CD CP A' H' st' → Q .non H')
theorem scCL : FnScope ["self", "at", "row", "target"] ["self"] (defScope (sDraft 8)) := ⟨rfl, rfl, rfl, by decide +kernel, rfl, by decide +kernel, by decide +kernel⟩
/-- what the module has for it -/
structure TB (K : PySem.W.Frag) (mg : Str → Option Value) (CP CB fP fB : Addr) : Prop where
  ec : EC K mg "BadText" CB fB
  gP : mg "Piece" = some (.ref CP)
  mP : Mk K CP fP
  zt : mg "tuple" = none
  ze : mg "enumerate" = none
theorem ok_close {f fT fP : Addr} {fd fdT fdP fdB : FuncData} (F : Fun K "close_piece" "Draft.close_piece" (sDraft 8) f fd) (T : TC K CD CP) (B : TB K mg CP CB fP fB) (zl : mg "len" = none)
    (GT : FnOk P w K mg base CX0 1 fT fdT ["row"] (spTarget K)) (bT : Binds K fdT ["row"] []) (gT : mg "target_of" = some (.ref fT)) (kT : PySem.W.keepIn K (.ref fT) = true)
    (GP : FnOk P w K mg base CX0 1 fP fdP ["self", "name", "kind", "rows"] (spPieceI CP)) (bP : Binds K fdP ["self", "name", "kind", "rows"] [])
    (GB : FnOk P w K mg base CX0 1 fB fdB ["self", "row"] (spBad CB "row")) (bB : Binds K fdB ["self", "row"] []) : FnOk P w K mg base (L2.CX P w) 3 f fd ["self"] (spClose CD CP CB) := by
  refine F.okX scCL (fun vs H Q E h => ?_) (fun cdv A0 outer s H vs Q E hr h => ?_)
  · obtain ⟨A, st, op, rfl, _⟩ := h
    rfl
  · obtain ⟨A, st, op, rfl, D, hop, hg, hl, hps, qe, qo⟩ := h
    have hr1 : Room 1 _ := hr.mono (by decide)
    obtain ⟨dx, k, n, z, r, e1, e2⟩ := D.ob
    rw [hop] at e2
    obtain ⟨y1, y2, y3, dr, rws, y4, y5, y6, y7, y8, y9⟩ := e2
    subst y1 y2 y3 y5
    refine ⟨_, pss_cons (ps_if (pt_cmpR op_eq (pe_fld (pv 0) rfl) pe_str (nomark _))
        (pss_one (ps_for (passes_of rfl) rfl (pi_enum (by rfl) B.ze (pa_cons (pe_fld (pv 0) rfl) pa_nil)) (pg_tup rfl (pgs_cons (pg_name (i := 1) scCL.nd rfl (Or.inl rfl)) (pgs_cons (pg_name (i := 2) scCL.nd rfl (Or.inl rfl)) pgs_nil)))
          (pss_cons (ps_set (i := 3) scCL.nd rfl (.inl rfl) (pe_call GT hr1 rfl gT kT bT .nil pass0 (pa_cons (pv 2) pa_nil)))
          (pss_one (ps_if (PW.pt (pw_and (pt_cmp (pc_notN (pv 3))) (pw_and1 (pt_cmpR op_gt (pv 3) (pe_callB call_len_seq (by rfl) zl PySem.boot_len (pa_cons (pe_fld (pv 0) rfl) pa_nil)) (nomark _)))))
            (pss_one (ps_raise rfl (takes_of rfl rfl rfl rfl) (pmk_oex B.ec.oex B.ec.iC B.ec.tI GB hr bB .nil pass0 rfl B.ec.gC (pa_cons (pe_op op_add (pe_fld (pv 0) rfl) (pv 1)) pa_nil)))) pss_nil))))) pss_nil)
      (pss_cons (ps_expr (pe_bm PySem.F.plainAttrs_list PySem.F.slot_list_append PySem.F.type_list_append mt_append (pe_fld (pv 0) rfl) (pa_cons (pe_make B.mP GP hr rfl B.gP bP .nil pass0 (pa_cons (pe_fld (pv 0) rfl) (pa_cons (pe_fld (pv 0) rfl) (pa_cons (pe_callTy call_tupleS (by rfl) B.zt boot_tuple (pa_cons (pe_fld (pv 0) rfl) pa_nil)) pa_nil)))) pa_nil)))
      (pss_one (ps_fld (pv 0) pe_non rfl))), ?_⟩
    refine ⟨.ref A.p, rfl, A.p, CD, dx, _, .str op.kind, rfl, e1, T.cD, T.nKind, rfl, rfl, _, rfl, ?_⟩
    rw [str_eq]
    refine ite2 (fun h => ?caseA) (fun h => ?caseB)
    case' caseA =>
      have hk : op.kind = "func" := of_decide_eq_true h
      refine ⟨.ref A.p, rfl, A.p, CD, dx, _, .ref dr, rfl, e1, T.cD, T.nRows, rfl, dr, _, rfl, SqL.of y6, for_it (walk_enum (xs := rws)) (fun i σ H' => ∃ v1 v2 v3, σ = [some (.ref A.p), v1, v2, v3] ∧ Same H H' ∧ badFrom op.rows.length (op.rows.drop i) (i : Nat) = badFrom op.rows.length op.rows 0)
        ⟨none, none, none, rfl, Same.refl H, by rw [List.drop_zero]; rfl⟩ (fun i σ H' _ ⟨_, _, _, _, s1, _⟩ => s1.seq (SqL.of y6)) ?turn ?done⟩
      case turn =>
        rintro i x0 σ H1 H2 hi ⟨v1, v2, v3, rfl, s1, eb⟩ ⟨T1, x, y, rfl, nT, rfl, hx, hy⟩
        cases hx
        have s2 : Same H (upd H1 T1 (.tup [.int (i : Nat), y])) := s1.trans (same_new nT)
        obtain ⟨r, hri, hrow⟩ := pair_get y7 hy
        have hgr := hg hk r (List.mem_of_getElem? hri)
        have ed : op.rows.drop i = r :: op.rows.drop (i + 1) := by
          rw [List.drop_eq_getElem_cons (List.getElem?_eq_some_iff.mp hri).1]
          rw [(List.getElem?_eq_some_iff.mp hri).2]
        rw [ed] at eb
        cases r with
        | dat d => exact hgr.elim
        | ins xs =>
          obtain ⟨⟨w1, rr, form, exs, hform⟩, ht⟩ := hgr
          obtain ⟨q, ey, eq⟩ := hrow
          subst ey
          have e1' := s2 _ _ e1
          refine ⟨T1, _, rfl, SqT.of upd_same, rfl, _, _, rfl, _, _, rfl, rfl, ?_⟩
          refine ⟨.ref q, rfl, q, xs, w1, rr, form, rfl, SqT.of (s2 _ _ eq), exs, hform, ?_⟩
          refine ⟨targetOf xs, rfl, _, rfl, ?_⟩
          rcases ht with ht | ⟨t, ht⟩
          · rw [ht]
            refine iteF (iteF ⟨_, _, _, rfl, s2, ?_⟩)
            have ng : tooGreat op.rows.length (.ins xs) = false := by
              show (match targetOf xs with | .int t => decide (((op.rows.length : Nat) : Int) < t) | _ => false) = false
              rw [ht]
            rw [← eb]
            show badFrom op.rows.length (op.rows.drop (i + 1)) ((i + 1 : Nat) : Int) = (if tooGreat op.rows.length (.ins xs) = true then _ else _)
            rw [ng, if_neg Bool.false_ne_true]
            congr 1
          · have gt : tooGreat op.rows.length (.ins xs) = decide (((op.rows.length : Nat) : Int) < t) := by
              show (match targetOf xs with | .int t => decide (((op.rows.length : Nat) : Int) < t) | _ => false) = _
              rw [ht]
            have eb' : (if tooGreat op.rows.length (.ins xs) = true then some (i : Int) else badFrom op.rows.length (op.rows.drop (i + 1)) ((i : Int) + 1)) = badFrom op.rows.length op.rows 0 := eb
            rw [ht]
            refine iteT ⟨_, rfl, .ref A.p, rfl, A.p, CD, dx, _, .ref dr, rfl, e1', T.cD, T.nRows, rfl, dr, _, rfl, .inl (SqL.of (s2 _ _ y6)), t, _, rfl, rfl, _, rfl, ?_⟩
            rw [← y7.length]
            refine ite2 (fun hgt => ?_) (fun hgt => ?_)
            · rw [gt, if_pos hgt] at eb'
              refine ⟨.ref A.p, rfl, A.p, CD, dx, _, .int op.start, rfl, e1', T.cD, T.nStart, rfl, .int (i : Nat), rfl, op.start, (i : Nat), rfl, rfl, bad_mk fun d H' nd s3 e9 => ?_⟩
              refine qe (op.start + i) ?_ d H' (Kept.of (s2.trans s3)) e9
              unfold closePiece
              rw [if_pos hk, ← eb']
            · rw [gt, if_neg hgt] at eb'
              refine ⟨_, _, _, rfl, s2, ?_⟩
              rw [← eb']
              congr 1
      case' done =>
        rintro σ H' ⟨v1, v2, v3, rfl, s1, eb⟩
        have ec : closePiece op st = .ok { st with ps := st.ps ++ [⟨op.name, op.kind, op.rows⟩], op := none } := by
          rw [← y7.length, List.drop_length] at eb
          unfold closePiece
          rw [if_pos hk, ← eb]
          rfl
    case' caseB =>
      have s1 : Same H H := Same.refl H
      have ec : closePiece op st = .ok { st with ps := st.ps ++ [⟨op.name, op.kind, op.rows⟩], op := none } := by
        unfold closePiece
        rw [if_neg fun e => h (decide_eq_true e)]
    all_goals
      have e1' := s1 _ _ e1
      obtain ⟨vs, e3, e4⟩ := D.dp
      refine ⟨.ref A.p, rfl, A.p, CD, dx, _, .ref A.dp, rfl, e1', T.cD, T.nPieces, rfl, .inl ⟨rfl, _, SqL.of (s1 _ _ e3)⟩, ?_⟩
      refine ⟨.ref A.p, rfl, A.p, CD, dx, _, .str op.name, rfl, e1', T.cD, T.nName, rfl, ?_⟩
      refine ⟨.ref A.p, rfl, A.p, CD, dx, _, .str op.kind, rfl, e1', T.cD, T.nKind, rfl, ?_⟩
      refine ⟨.ref A.p, rfl, A.p, CD, dx, _, .ref dr, rfl, e1', T.cD, T.nRows, rfl, dr, rws, rfl, SqL.of (s1 _ _ y6), fun t H2 s2 nt et => ?_⟩
      refine fun x dx2 nx ndx nex => ⟨x, dx2, .str op.name, .str op.kind, .ref t, rfl, upd_same, fun H3 off e9 => ⟨rfl, ?_⟩⟩
      have s3 : Same H2 H3 := fun b o e => off b o (ne_of_none e nx) (by rw [upd_ne (ne_of_none e nx), upd_ne (ne_of_none e ndx)]; exact e)
      have s : Same H H3 := (s1.trans s2).trans s3
      have D3 := D.mono s
      have hv : PieceAt CP H3 ⟨op.name, op.kind, op.rows⟩ (.ref x) := ⟨x, dx2, t, rws, rfl, e9, s3 _ _ et, pair_mono (fun _ _ h => h.mono (Fix.of (CP := CP) s)) y7⟩
      have e4' : Paired (PieceAt CP H3) st.ps vs := pair_mono (fun _ _ h => h.mono (Fix.of s)) e4
      refine ⟨A.dp, vs, .ref x, rfl, rfl, s _ _ e3, by rw [← e4.length]; exact hps, ?_⟩
      have B1 := D3.db.put_ps (s _ _ e3) e4' hv
      have npd : A.p ≠ A.dp := ne_of e1 e3 (by intro z; cases z)
      have e7 : (upd H3 A.dp (.lst (vs ++ [.ref x]))) A.p = some (.ins CD dx (dflds A (.str op.kind) (.str op.name) (.int op.start) (.ref dr))) := by
        rw [upd_ne npd]
        exact s _ _ e1
      refine ⟨.ref A.p, rfl, A.p, CD, dx, dflds A (.str op.kind) (.str op.name) (.int op.start) (.ref dr), rfl, e7, T.cD, T.nKind, (by show 8 < 1000; decide), ?_⟩
      have B2 := B1.put (dx' := dx) (fs' := dflds A .non (.str op.name) (.int op.start) (.ref dr)) T.ne e7
      refine qo _ ec _ { A with dr := none } (((Kept.of s).trans (Kept.upd (.inr (.inl rfl)))).trans (Kept.upd (.inl rfl))) ⟨rfl, rfl, rfl, rfl, rfl, fun b hb => nomatch hb⟩ ?_
      exact B2.dAt (dr := none) (op := none) upd_same ⟨rfl, rfl⟩
end
end TX

set_option Elab.async false
set_option linter.all false
set_option maxRecDepth 100000
set_option maxHeartbeats 4000000
/-! What stays true of a draft, row by row. -/
namespace TX
open PySem PySem.Spec PyProof.Rows L2 L2.FK FS
def StOk (st : ST) : Prop := ∀ op, st.op = some op → op.rows.length ≤ 16 ∧ (op.kind = "func" → ∀ r ∈ op.rows, Good r)
def wt (st : ST) : Nat := st.ps.length + st.ex.length + st.al.length + st.nm.length
abbrev TO1 : List Str := ["to"]
abbrev TO3 : List Str := ["reg", "reg", "to"]
theorem forms_to : ∀ p ∈ FORM, p.2.contains "to" = true → p.2 = TO1 ∨ p.2 = TO3 := by decide +kernel
theorem to_int (z : Str) : readPart z "to" = optI (readInt z) := by
  unfold readPart
  rw [if_neg (by decide +kernel), if_neg (by decide +kernel)]
theorem readIns_good {ws : List Str} {xs : List V} (h : readIns ws = some xs) : Good (.ins xs) := by
  cases ws with
  | nil => cases h
  | cons w1 rest =>
    cases hf : formOf w1 with
    | none => rw [readIns_none hf] at h; cases h
    | some form =>
      rw [readIns_some hf] at h
      split at h
      · cases h
      · rename_i hlen
        split at h
        · cases h
        · rename_i hany
          obtain rfl : V.str w1 :: List.zipWith readPart rest form = xs := Option.some.inj h
          have hrl : rest.length = form.length := by
            have : (w1 :: rest).length = form.length + 1 := Classical.not_not.mp hlen
            simpa using this
          refine ⟨⟨w1, _, form, rfl, hf⟩, ?_⟩
          have et : targetOf (V.str w1 :: List.zipWith readPart rest form) = if form.contains "to" = true then (V.str w1 :: List.zipWith readPart rest form).getLast?.getD .non else .non := by
            simp only [targetOf, hf]
          rw [et]
          by_cases hto : form.contains "to" = true
          · rw [if_pos hto]
            have hno : ∀ v ∈ List.zipWith readPart rest form, v ≠ V.non := fun v hv e => hany (List.any_eq_true.mpr ⟨v, hv, decide_eq_true e⟩)
            have fin : ∀ z, readPart z "to" ≠ V.non → ∃ t, readPart z "to" = V.int t := fun z hz => by
              rw [to_int] at hz ⊢
              cases q : readInt z with
              | none => rw [q] at hz; exact absurd rfl hz
              | some i => exact ⟨i, rfl⟩
            rcases forms_to (w1, form) (PySem.mem_of_lookup hf) hto with e | e
            · have e : form = TO1 := e
              subst e
              match rest, hrl, hno with
              | [z], _, hno => exact .inr (fin z (hno _ (by simp)))
            · have e : form = TO3 := e
              subst e
              match rest, hrl, hno with
              | [x, y, z], _, hno => exact .inr (fin z (hno _ (by simp)))
          · rw [if_neg hto]
            exact .inl rfl
theorem exportsGo_op : ∀ {ws : List Str} {st st' : ST}, exportsGo ws st = some st' → st'.op = st.op ∧ wt st' = wt st + ws.length
  | [], st, st', h => by cases h; exact ⟨rfl, rfl⟩
  | z :: r, st, st', h => by
    unfold exportsGo at h
    split at h
    · obtain ⟨h1, h2⟩ := exportsGo_op h
      refine ⟨h1, ?_⟩
      rw [h2, List.length_cons]
      unfold wt
      show st.ps.length + (st.ex ++ [z]).length + st.al.length + st.nm.length + r.length = _
      rw [List.length_append, List.length_singleton]
      omega
    · cases h
theorem takeName_wt {z : Str} {st st1 : ST} (h : takeName z st = some st1) : wt st1 = wt st + 1 := by
  unfold takeName at h
  split at h
  · cases h
    unfold wt
    show st.ps.length + st.ex.length + st.al.length + (st.nm ++ [z]).length = _
    rw [List.length_append, List.length_singleton]
    omega
  · cases h
theorem between_ok {num : Int} {ws : List Str} {st st' : ST} (h : takeBetween num ws st = some st') (ho : st.op = none) : StOk st' ∧ wt st' ≤ wt st + ws.length := by
  cases ws with
  | nil => cases h
  | cons w1 rest =>
    have h : (if w1 = "export" then takeExports rest st else if w1 = "alias" then takeAlias rest st else if w1 = "func" ∨ w1 = "data" then openPiece num (w1 :: rest) st else none) = some st' := h
    split at h
    · unfold takeExports at h
      split at h
      · cases h
      · obtain ⟨h1, h2⟩ := exportsGo_op h
        exact ⟨fun op e => (by rw [h1, ho] at e; cases e), by rw [h2, List.length_cons]; omega⟩
    · split at h
      · match rest, h with
        | [x, y], h =>
          have h : (if isName y = true then (takeName x st).map fun s => { s with al := s.al ++ [(x, y)] } else none) = some st' := h
          split at h
          · cases q : takeName x st with
            | none => rw [q] at h; cases h
            | some s1 =>
              rw [q] at h
              cases h
              refine ⟨fun op e => ?_, ?_⟩
              · have := (takeName_op q).1
                rw [ho] at this
                rw [show s1.op = some op from e] at this
                cases this
              · have e1 := takeName_wt q
                show s1.ps.length + s1.ex.length + (s1.al ++ [(x, y)]).length + s1.nm.length ≤ wt st + 3
                unfold wt at e1 ⊢
                rw [List.length_append, List.length_singleton]
                omega
          · cases h
      · split at h
        · match rest, h with
          | [n], h =>
            have h : (if st.ps.length = 12 then none else (takeName n st).map fun s => { s with op := some ⟨w1, n, num + 1, []⟩ }) = some st' := h
            split at h
            · cases h
            · cases q : takeName n st with
              | none => rw [q] at h; cases h
              | some s1 =>
                rw [q] at h
                cases h
                refine ⟨fun op e => ?_, ?_⟩
                · have e : some (OP.mk w1 n (num + 1) []) = some op := e
                  cases e
                  exact ⟨by simp, fun _ r hr => by cases hr⟩
                · have e1 := takeName_wt q
                  show wt s1 ≤ wt st + 2
                  omega
        · cases h
theorem within_ok {ws : List Str} {op : OP} {st st' : ST} (h : takeWithin ws op st = some st') (ho : st.op = some op) (hs : StOk st) : StOk st' ∧ wt st' = wt st := by
  unfold takeWithin at h
  split at h
  · cases h
  · rename_i r hr
    split at h
    · cases h
    · rename_i h16
      cases h
      obtain ⟨h1, h2⟩ := hs op ho
      refine ⟨fun op' e => ?_, rfl⟩
      have e : some { op with rows := op.rows ++ [r] } = some op' := e
      cases e
      refine ⟨?_, fun hk x hx => ?_⟩
      · show (op.rows ++ [r]).length ≤ 16
        rw [List.length_append, List.length_singleton]
        omega
      · rcases List.mem_append.mp hx with hx | hx
        · exact h2 hk x hx
        · have hx : x = r := by simpa using hx
          subst hx
          unfold rowOf at hr
          rw [if_pos hk] at hr
          cases q : readIns ws with
          | none => rw [q] at hr; cases hr
          | some xs => rw [q] at hr; cases hr; exact readIns_good q
theorem close_ok {op : OP} {st st' : ST} (h : closePiece op st = .ok st') : StOk st' ∧ wt st' = wt st + 1 := by
  unfold closePiece at h
  split at h
  · cases h
  · cases h
    refine ⟨fun op' e => (nomatch e), ?_⟩
    show (st.ps ++ [_]).length + st.ex.length + st.al.length + st.nm.length = _
    rw [List.length_append, List.length_singleton]
    unfold wt
    omega
theorem takeRow_ok {num : Int} {ws : List Str} {st st' : ST} (hne : ws ≠ []) (h : takeRow num ws st = .ok st') (hs : StOk st) : StOk st' ∧ wt st' ≤ wt st + ws.length := by
  have h1 : 1 ≤ ws.length := List.length_pos_iff.mpr hne
  unfold takeRow at h
  split at h
  · rename_i ho
    split at h
    · rename_i s q
      cases h
      exact between_ok q ho
    · cases h
  · rename_i op ho
    split at h
    · obtain ⟨a, b⟩ := close_ok h
      exact ⟨a, by omega⟩
    · split at h
      · rename_i s q
        cases h
        obtain ⟨a, b⟩ := within_ok q ho hs
        exact ⟨a, by omega⟩
      · cases h
end TX

set_option Elab.async false
set_option linter.all false
set_option maxRecDepth 100000
set_option maxHeartbeats 4000000
/-! A draft takes a row. -/
namespace TX
open PySem PySem.Spec PyProof.Rows L2 L2.FK FS
theorem Dp.strs {K : PySem.W.Frag} {H : Hp} : ∀ ws : List Str, DpAll K H (ws.map V.str) (ws.map PyData.str)
  | [] => .nil
  | z :: r => .cons (.str z) (Dp.strs r)
theorem eqv_strs : ∀ a b : List Str, PyData.eqv (.list (a.map PyData.str)) (.list (b.map PyData.str)) = decide (a = b) := by
  intro a b
  have key : ∀ a b : List Str, PyData.eqvAll (a.map PyData.str) (b.map PyData.str) = decide (a = b) := by
    intro a
    induction a with
    | nil => intro b; cases b <;> simp [PyData.eqvAll]
    | cons x r ih =>
      intro b
      cases b with
      | nil => simp [PyData.eqvAll]
      | cons y q =>
        simp only [List.map_cons, PyData.eqvAll, ih]
        by_cases e : x = y
        · subst e; simp [PyData.eqv]
        · simp [PyData.eqv, e]
  simp only [PyData.eqv, key]
theorem shaped_strs (a : List Str) (ha : ∀ z ∈ a, PyData.strOk z = true) : SeqAt.shaped (.list (a.map PyData.str)) = true := by
  have k1 : ∀ a : List Str, (∀ z ∈ a, PyData.strOk z = true) → PyData.canLayAll0 (a.map PyData.str) = true := by
    intro a
    induction a with
    | nil => simp [PyData.canLayAll0]
    | cons x r ih => intro h; simp [PyData.canLayAll0, PyData.canLay0, ih (fun z hz => h z (List.mem_cons_of_mem _ hz)), h x (List.mem_cons_self ..)]
  have k2 : ∀ a : List Str, PyData.depthAll (a.map PyData.str) = 0 := by
    intro a
    induction a with
    | nil => simp [PyData.depthAll]
    | cons x r ih => simp [PyData.depthAll, PyData.depth, ih]
  simp [SeqAt.shaped, PyData.canLay0, PyData.depth, k1 a ha, k2]
section
variable {P : Program} {w : World} {K : PySem.W.Frag} {mg : Str → Option Value} {base : Heap} {aO aR dF CD CP CB fB aK : Addr} {es : Array DictEntry} {nF : Nat} {tF : Str → Addr}
def spTake (CD CP CB : Addr) : Sp := fun vs H Q E => ∃ A st num a, ∃ ws : List Str, vs = [.ref A.p, .int num, .ref a] ∧ DAt CD CP A H st ∧ H a = some (.lst (ws.map V.str)) ∧ ¬ Foot A a ∧ ws ≠ [] ∧ (∀ z ∈ ws, Wd z) ∧ (∀ z ∈ ws, PyData.strOk z = true) ∧ StOk st ∧ wt st + ws.length < sizeLine ∧
  (∀ i, takeRow num ws st = .error i → BadOut CB A H (.int i) E) ∧ (∀ st', takeRow num ws st = .ok st' → ∀ H' A', Kept A H H' → Next H A A' → DAt CD CP A' H' st' → Q .non H')
theorem scT : FnScope ["self", "number", "words", "right"] ["self", "number", "words"] (defScope (sDraft 1)) := ⟨rfl, rfl, rfl, by decide +kernel, rfl, by decide +kernel, by decide +kernel⟩
theorem ok_take {f fBt fW fC fP : Addr} {fd fdBt fdW fdC fdB : FuncData} (F : Fun K "take" "Draft.take" (sDraft 1) f fd) (T : TC K CD CP) (B : TB K mg CP CB fP fB)
    (GBt : FnOk P w K mg base CX0 4 fBt fdBt ["self", "number", "words"] (spBetween CD CP)) (bBt : Binds K fdBt ["self", "number", "words"] []) (mBt : Meth K CD "take_between" fBt)
    (GW : FnOk P w K mg base CX0 5 fW fdW ["self", "words"] (spWithin CD CP)) (bW : Binds K fdW ["self", "words"] []) (mW : Meth K CD "take_within" fW)
    (GC : FnOk P w K mg base (L2.CX P w) 3 fC fdC ["self"] (spClose CD CP CB)) (bC : Binds K fdC ["self"] []) (mC : Meth K CD "close_piece" fC)
    (GB : FnOk P w K mg base CX0 1 fB fdB ["self", "row"] (spBad CB "row")) (bB : Binds K fdB ["self", "row"] []) : FnOk P w K mg base (L2.CX P w) 6 f fd ["self", "number", "words"] (spTake CD CP CB) := by
  refine F.okX scT (fun vs H Q E h => ?_) (fun cdv A0 outer s H vs Q E hr h => ?_)
  · obtain ⟨A, st, num, a, ws, rfl, _⟩ := h
    rfl
  · obtain ⟨A, st, num, a, ws, rfl, D, ha, na, hne, hw, hok, hs, hwt, qe, qo⟩ := h
    have hr3 : Room 3 _ := hr.mono (by decide)
    have hr4 : Room 4 _ := hr.mono (by decide)
    have hr2 : Room 2 _ := hr.mono (by decide)
    refine ⟨_, pss_cons (ps_if (pt_cmp (pc_isN (pe_fld (pv 0) rfl)))
        (pss_one (ps_set (i := 3) scT.nd rfl (.inl rfl) (pe_meth (pv 0) T.cD mBt GBt hr4 bBt .nil pass0 (pa_cons (pv 1) (pa_cons (pv 2) pa_nil)))))
        (pss_one (ps_if (pt_cmpR (op_eqD hr.units) (pv 2) (pe_lstS (pa_cons pe_str pa_nil)) (nomark _))
          (pss_cons (ps_expr (pe_meth0 (pv 0) T.cD mC GC hr3 bC .nil (passes_call (takes_of rfl rfl rfl rfl) (fun _ _ _ _ h => h)))) (pss_one (ps_set (i := 3) scT.nd rfl (.inl rfl) pe_bl)))
          (pss_one (ps_set (i := 3) scT.nd rfl (.inl rfl) (pe_meth (pv 0) T.cD mW GW hr bW .nil pass0 (pa_cons (pv 2) pa_nil)))))))
      (pss_one (ps_if (pt_not (pt_val (pv 3))) (pss_one (ps_raise rfl (takes_of rfl rfl rfl rfl) (pmk_oex B.ec.oex B.ec.iC B.ec.tI GB hr2 bB .nil pass0 rfl B.ec.gC (pa_cons (pv 1) pa_nil)))) pss_nil)), ?_⟩
    obtain ⟨dx, k, n, z, r, e1, e2⟩ := D.ob
    have l1 : st.nm.length < sizeLine := by unfold wt at hwt; omega
    have l2 : st.al.length < sizeLine := by unfold wt at hwt; omega
    have l3 : st.ex.length + ws.length < sizeLine := by unfold wt at hwt; omega
    have l4 : st.ps.length < sizeLine := by unfold wt at hwt; omega
    refine ⟨.ref A.p, rfl, A.p, CD, dx, _, k, rfl, e1, T.cD, T.nKind, rfl, _, rfl, ?_⟩
    cases ho : st.op with
    | none =>
      rw [ho] at e2
      have ek : k = .non := e2.1
      subst ek
      have er : takeRow num ws st = (match takeBetween num ws st with | some s => .ok s | none => .error num) := by
        unfold takeRow
        rw [ho] <;> rfl
      refine iteT ⟨.ref A.p, rfl, A.p, dx, _, rfl, e1, rfl, .int num, rfl, .ref a, rfl, A, st, a, num, ws, rfl, D, ho, ha, na, hne, hw, l1, l2, l3, fun en H' k' => ?_, fun st' en H' A' k' n' D' => ?_⟩
      · refine ⟨_, rfl, _, rfl, iteT ⟨.int num, rfl, bad_mk fun d H2 nd s2 e9 => qe num (by rw [er, en]) d H2 (k'.trans (Kept.of s2)) e9⟩⟩
      · exact ⟨_, rfl, _, rfl, iteF (qo st' (by rw [er, en]) H' A' k' n' D')⟩
    | some op =>
      rw [ho] at e2
      have ek : k = .str op.kind := e2.1
      subst ek
      refine iteF ?_
      refine ⟨.ref a, rfl, by simp, fun p1 H1 s1 n1 e9 => ?_⟩
      refine ⟨.list (ws.map PyData.str), .list ([("end" : Str)].map PyData.str), .lst (SqL.of (s1 _ _ ha)) (Dp.strs ws), .lst (SqL.of e9) (Dp.strs [("end" : Str)]), shaped_strs _ hok, shaped_strs _ (by decide +kernel), _, rfl, ?_⟩
      rw [eqv_strs]
      have D1 := D.mono s1
      have e1' := s1 _ _ e1
      refine ite2 (fun h => ?_) (fun h => ?_)
      · have hend : ws = [("end" : Str)] := of_decide_eq_true h
        have er : takeRow num ws st = closePiece op st := by
          unfold takeRow
          rw [ho]
          show (if ws = [("end" : Str)] then _ else _) = _
          rw [if_pos hend]
        refine ⟨.ref A.p, rfl, A.p, dx, _, rfl, e1', rfl, A, st, op, rfl, D1, ho, (hs op ho).2, (hs op ho).1, l4, fun i en d H' k' e9 => ?_, fun st' en H' A' k' n' D' => ?_⟩
        · exact qe i (by rw [er, en]) d H' ((Kept.of s1).trans k') e9
        · exact ⟨_, rfl, _, rfl, iteF (qo st' (by rw [er, en]) H' A' ((Kept.of s1).trans k') (n'.here s1) D')⟩
      · have hend : ¬ ws = [("end" : Str)] := fun e => h (decide_eq_true e)
        have er : takeRow num ws st = (match takeWithin ws op st with | some s => .ok s | none => .error num) := by
          unfold takeRow
          rw [ho]
          show (if ws = [("end" : Str)] then _ else _) = _
          rw [if_neg hend] <;> rfl
        refine ⟨.ref A.p, rfl, A.p, dx, _, rfl, e1', rfl, .ref a, rfl, A, st, op, a, ws, rfl, D1, ho, s1 _ _ ha, na, hne, hw, (hs op ho).1, fun en H' k' => ?_, fun st' en H' A' k' n' D' => ?_⟩
        · refine ⟨_, rfl, _, rfl, iteT ⟨.int num, rfl, bad_mk fun d H2 nd s2 e9 => qe num (by rw [er, en]) d H2 (((Kept.of s1).trans k').trans (Kept.of s2)) e9⟩⟩
        · exact ⟨_, rfl, _, rfl, iteF (qo st' (by rw [er, en]) H' A' ((Kept.of s1).trans k') (n'.here s1) D')⟩
end
end TX

set_option Elab.async false
set_option linter.all false
set_option maxRecDepth 100000
set_option maxHeartbeats 4000000
/-! A draft and a module are made. -/
namespace TX
open PySem PySem.Spec PyProof.Rows L2 L2.FK FS
section
variable {P : Program} {w : World} {K : PySem.W.Frag} {mg : Str → Option Value} {base : Heap} {aO aR dF CD CP CM CB fB aK : Addr} {es : Array DictEntry} {nF : Nat} {tF : Str → Addr}
/-! ### Draft.__init__ -/
def spDraftI (CD CP : Addr) : Sp := fun vs H Q _ => ∃ p dx, vs = [.ref p] ∧ H p = some (.ins CD dx []) ∧ ∀ A H', A.p = p → A.dr = none → Off p H H' → H A.dp = none → H A.de = none → H A.da = none → H A.dn = none → DAt CD CP A H' st0 → Q .non H'
theorem scDI : FnScope ["self"] ["self"] (defScope (sDraft 0)) := ⟨rfl, rfl, rfl, by decide +kernel, rfl, by decide +kernel, by decide +kernel⟩
theorem ok_draftI {f : Addr} {fd : FuncData} (F : Fun K "__init__" "Draft.__init__" (sDraft 0) f fd) (T : TC K CD CP) : FnOk P w K mg base CX0 1 f fd ["self"] (spDraftI CD CP) := by
  refine F.ok scDI (fun vs H Q E h => ?_) (fun cdv A outer s H vs Q E hr h => ?_)
  · obtain ⟨p, dx, rfl, _⟩ := h
    rfl
  · obtain ⟨p, dx, rfl, hp, q⟩ := h
    refine ⟨_, pss_cons (ps_fld (pv 0) (pe_lstS pa_nil) rfl) (pss_cons (ps_fld (pv 0) pe_dictS rfl) (pss_cons (ps_fld (pv 0) (pe_lstS pa_nil) rfl) (pss_cons (ps_fld (pv 0) pe_dictS rfl)
      (pss_cons (ps_fld (pv 0) pe_non rfl) (pss_cons (ps_fld (pv 0) pe_non rfl) (pss_cons (ps_fld (pv 0) pe_int rfl) (pss_one (ps_fld (pv 0) (pe_lstS pa_nil) rfl)))))))), ?_⟩
    refine ⟨by simp, fun dp H1 s1 n1 e1 => ⟨_, rfl, p, CD, dx, [], rfl, s1 _ _ hp, T.cD, T.nPieces, (by show 0 < 1000; decide), ?_⟩⟩
    have pdp : dp ≠ p := (ne_of_none hp n1).symm
    refine fun de H2 s2 n2 e2 => ⟨_, rfl, p, CD, dx, [("pieces", .ref dp)], rfl, s2 _ _ upd_same, T.cD, T.nExports, (by show 1 < 1000; decide), ?_⟩
    have pde : de ≠ p := fun e => by rw [e, upd_same] at n2; cases n2
    refine ⟨by simp, fun da H3 s3 n3 e3 => ⟨_, rfl, p, CD, dx, [("pieces", .ref dp), ("exports", .ref de)], rfl, s3 _ _ upd_same, T.cD, T.nAliases, (by show 2 < 1000; decide), ?_⟩⟩
    have pda : da ≠ p := fun e => by rw [e, upd_same] at n3; cases n3
    refine fun dn H4 s4 n4 e4 => ⟨_, rfl, p, CD, dx, [("pieces", .ref dp), ("exports", .ref de), ("aliases", .ref da)], rfl, s4 _ _ upd_same, T.cD, T.nNamed, (by show 3 < 1000; decide), ?_⟩
    have pdn : dn ≠ p := fun e => by rw [e, upd_same] at n4; cases n4
    refine ⟨_, rfl, p, CD, dx, [("pieces", .ref dp), ("exports", .ref de), ("aliases", .ref da), ("named", .ref dn)], rfl, upd_same, T.cD, T.nKind, (by show 4 < 1000; decide), ?_⟩
    refine ⟨_, rfl, p, CD, dx, [("pieces", .ref dp), ("exports", .ref de), ("aliases", .ref da), ("named", .ref dn), ("kind", .non)], rfl, upd_same, T.cD, T.nName, (by show 5 < 1000; decide), ?_⟩
    refine ⟨_, rfl, p, CD, dx, [("pieces", .ref dp), ("exports", .ref de), ("aliases", .ref da), ("named", .ref dn), ("kind", .non), ("name", .non)], rfl, upd_same, T.cD, T.nStart, (by show 6 < 1000; decide), ?_⟩
    refine ⟨by simp, fun dr H5 s5 n5 e5 => ⟨_, rfl, p, CD, dx, [("pieces", .ref dp), ("exports", .ref de), ("aliases", .ref da), ("named", .ref dn), ("kind", .non), ("name", .non), ("start", .int 0)], rfl, s5 _ _ upd_same, T.cD, T.nRows, (by show 7 < 1000; decide), ?_⟩⟩
    -- where each thing stands
    have st5 : ∀ {b : Addr} {o : HO}, b ≠ p → H4 b = some o → H5 b = some o := fun {b o} hb e => s5 _ _ (by rw [upd_ne hb, upd_ne hb, upd_ne hb, upd_ne hb]; exact e)
    have st4 : ∀ {b : Addr} {o : HO}, b ≠ p → H3 b = some o → H4 b = some o := fun {b o} hb e => s4 _ _ (by rw [upd_ne hb]; exact e)
    have st3 : ∀ {b : Addr} {o : HO}, b ≠ p → H2 b = some o → H3 b = some o := fun {b o} hb e => s3 _ _ (by rw [upd_ne hb]; exact e)
    have st2 : ∀ {b : Addr} {o : HO}, b ≠ p → H1 b = some o → H2 b = some o := fun {b o} hb e => s2 _ _ (by rw [upd_ne hb]; exact e)
    have m2 : ∀ {b : Addr}, b ≠ p → upd H1 p (.ins CD dx (putF "pieces" (.ref dp) [])) b = none → H b = none := fun {b} hb e => by
      rw [upd_ne hb] at e
      exact same_none s1 e
    have m3 : ∀ {b : Addr}, b ≠ p → H2 b = none → H b = none := fun {b} hb e => m2 hb (same_none s2 e)
    have m4 : ∀ {b : Addr}, b ≠ p → H3 b = none → H b = none := fun {b} hb e => m3 hb (by
      have := same_none s3 e
      rw [upd_ne hb] at this
      exact this)
    have x3 : H2 da = none := by rw [upd_ne pda] at n3; exact n3
    have x4 : H3 dn = none := by rw [upd_ne pdn] at n4; exact n4
    refine q ⟨p, dp, de, da, dn, none⟩ _ rfl rfl ?_ n1 (m2 pde n2) (m3 pda x3) (m4 pdn x4) ?_
    · intro b o hb e
      rw [upd_ne hb]
      exact st5 hb (st4 hb (st3 hb (st2 hb (s1 _ _ e))))
    · refine ⟨⟨dx, .non, .non, .int 0, .ref dr, upd_same, rfl, rfl⟩, ⟨[], ?_, .nil⟩, ?_, ⟨[], ?_, .nil⟩, ?_, ?_, ?_⟩
      · rw [upd_ne pdp]
        exact st5 pdp (st4 pdp (st3 pdp (st2 pdp e1)))
      · rw [upd_ne pde]
        exact st5 pde (st4 pde (st3 pde e2))
      · rw [upd_ne pda]
        exact st5 pda (st4 pda e3)
      · rw [upd_ne pdn]
        exact st5 pdn e4
      · intro e
        have e : dp = da := e
        have := st2 pdp e1
        rw [e, x3] at this
        cases this
      · intro e
        have e : de = dn := e
        have := st3 pde e2
        rw [e, x4] at this
        cases this
end
end TX

set_option Elab.async false
set_option linter.all false
set_option maxRecDepth 100000
set_option maxHeartbeats 4000000
/-! A module is made. -/
namespace TX
open PySem PySem.Spec PyProof.Rows L2 L2.FK FS
abbrev sModI : Stmt := inClass (top (TX.o + 11)) 0
structure TMd (K : PySem.W.Frag) (CM : Addr) : Prop where
  cM : Cls K CM
  nPieces : NoAttr K CM "pieces"
  nExports : NoAttr K CM "exports"
  nAliases : NoAttr K CM "aliases"
  nNamed : NoAttr K CM "_named"
/-- the dict's keys are the names zs -/
def NamedOk (kvs : List (Key × V)) (zs : List Str) : Prop := ∀ z, (valV kvs (Sum.inr z : Key)).isSome = zs.contains z
theorem NamedOk.put {kvs : List (Key × V)} {zs : List Str} {z : Str} {v : V} (h : NamedOk kvs zs) : NamedOk (putK kvs (Sum.inr z : Key) v) (zs ++ [z]) := by
  intro y
  rw [valV_put]
  by_cases e : y = z
  · subst e
    rw [if_pos rfl]
    simp
  · have ne : ¬ (Sum.inr y : Key) = Sum.inr z := fun q => e (Sum.inr.inj q)
    rw [if_neg ne, h y]
    have : ([z] : List Str).contains y = false := by simpa using e
    rw [List.contains_append, this, Bool.or_false]
theorem putK_len (kvs : List (Key × V)) (k : Key) (v : V) : (putK kvs k v).length ≤ kvs.length + 1 := by
  unfold putK
  split
  · rw [List.length_map]; omega
  · rw [List.length_append, List.length_singleton]
    exact Nat.le_refl _
theorem pair_get' {α : Type} {R : α → V → Prop} {xs : List α} {vs : List V} {i : Nat} {v : V} (h : Paired R xs vs) (e : vs[i]? = some v) : ∃ x, xs[i]? = some x ∧ xs.take (i + 1) = xs.take i ++ [x] ∧ R x v := by
  obtain ⟨x, h1, h2⟩ := pair_get h e
  refine ⟨x, h1, ?_, h2⟩
  rw [List.take_add_one, h1]
  rfl
def mflds (tp e ta nd : V) : List (Str × V) := [("pieces", tp), ("exports", e), ("aliases", ta), ("_named", nd)]
section
variable {P : Program} {w : World} {K : PySem.W.Frag} {mg : Str → Option Value} {base : Heap} {aO aR dF CD CP CM CB fB aK : Addr} {es : Array DictEntry} {nF : Nat} {tF : Str → Addr}
def spModI (CM CP : Addr) : Sp := fun vs H Q _ => ∃ p dx tp ta ev, ∃ (ps : List MP) (pvs : List V) (al : List (Str × Str)) (avs : List V), vs = [.ref p, .ref tp, ev, .ref ta] ∧ H p = some (.ins CM dx []) ∧ H tp = some (.tup pvs) ∧ Paired (PieceAt CP H) ps pvs ∧ H ta = some (.tup avs) ∧ Paired (AliAt H) al avs ∧
  ps.length + al.length < sizeLine ∧ ∀ H' nd kvs, Off p H H' → H nd = none → H' p = some (.ins CM dx (mflds (.ref tp) ev (.ref ta) (.ref nd))) → H' nd = some (.dK kvs) → NamedOk kvs (ps.map (·.name) ++ al.map (·.1)) → Q .non H'
theorem scM : FnScope ["self", "pieces", "exports", "aliases", "piece", "name", "_"] ["self", "pieces", "exports", "aliases"] (defScope sModI) := ⟨rfl, rfl, rfl, by decide +kernel, rfl, by decide +kernel, by decide +kernel⟩
theorem ok_modI {f : Addr} {fd : FuncData} (F : Fun K "__init__" "Module.__init__" sModI f fd) (T : TC K CD CP) (M : TMd K CM) (neM : CP ≠ CM) : FnOk P w K mg base CX0 1 f fd ["self", "pieces", "exports", "aliases"] (spModI CM CP) := by
  refine F.ok scM (fun vs H Q E h => ?_) (fun cdv A outer s H vs Q E hr h => ?_)
  · obtain ⟨p, dx, tp, ta, ev, ps, pvs, al, avs, rfl, _⟩ := h
    rfl
  · obtain ⟨p, dx, tp, ta, ev, ps, pvs, al, avs, rfl, hp, htp, hps, hta, hal, hl, q⟩ := h
    have hu := hu_of hr
    refine ⟨_, pss_cons (ps_fld (pv 0) (pv 1) rfl) (pss_cons (ps_fld (pv 0) (pv 2) rfl) (pss_cons (ps_fld (pv 0) (pv 3) rfl)
      (pss_cons (ps_fld (pv 0) (pe_dc (own := [("piece", 4)]) (g := gName 4) (tt := tYes) (tk := tFld K (tVar 4) "name") (tv := tC (.bl true)) rfl scM.nd (pi_tup (pv 1)) (blkOk_by (N := ["self", "pieces", "exports", "aliases", "piece", "name", "_"]) (sc := defScope sModI) (by decide +kernel)) (fun _ _ _ _ _ => pg_name (i := 4) scM.nd rfl (Or.inl rfl)) (fun _ _ _ _ _ => pts_nil)
          (fun _ _ _ _ _ => pe_fld (pv 4) rfl) (fun _ _ _ _ _ => pe_bl) (by intro _; rfl)) rfl)
      (pss_one (ps_for PassesOwn.never rfl (pi_tup (pv 3)) (pg_tup rfl (pgs_cons (pg_name (i := 5) scM.nd rfl (Or.inl rfl)) (pgs_cons (pg_name (i := 6) scM.nd rfl (Or.inl rfl)) pgs_nil)))
        (pss_one (ps_dput hu (pe_fld (pv 0) rfl) (pv 5) pe_bl rfl))))))), ?_⟩
    refine ⟨.ref tp, rfl, _, rfl, p, CM, dx, [], rfl, hp, M.cM, M.nPieces, (by show 0 < 1000; decide), ?_⟩
    refine ⟨ev, rfl, _, rfl, p, CM, dx, [("pieces", .ref tp)], rfl, upd_same, M.cM, M.nExports, (by show 1 < 1000; decide), ?_⟩
    refine ⟨.ref ta, rfl, _, rfl, p, CM, dx, [("pieces", .ref tp), ("exports", ev)], rfl, upd_same, M.cM, M.nAliases, (by show 2 < 1000; decide), ?_⟩
    generalize hG : upd (upd (upd H p (.ins CM dx (putF "pieces" (.ref tp) []))) p (.ins CM dx (putF "exports" ev [("pieces", .ref tp)]))) p (.ins CM dx (putF "aliases" (.ref ta) [("pieces", .ref tp), ("exports", ev)])) = G
    have gp : G p = some (.ins CM dx [("pieces", .ref tp), ("exports", ev), ("aliases", .ref ta)]) := by rw [← hG]; exact upd_same
    have gof : Off p H G := fun b o hb e => by rw [← hG, upd_ne hb, upd_ne hb, upd_ne hb]; exact e
    have gno : ∀ {b : Addr}, G b = none → H b = none := fun {b} e => by
      by_cases hb : b = p
      · rw [hb, gp] at e; cases e
      · rw [← hG, upd_ne hb, upd_ne hb, upd_ne hb] at e; exact e
    have fix0 : Fix CP H G := ⟨fun b xs e => gof b _ (ne_of e hp (by intro z; cases z)) e, fun b dx' fs e => gof b _ (ne_of e hp (by intro z; cases z; exact neM rfl)) e⟩
    have gtp := fix0.1 _ _ htp
    have gta := fix0.1 _ _ hta
    have gps : Paired (PieceAt CP G) ps pvs := pair_mono (fun _ _ h => h.mono fix0) hps
    have gal : Paired (AliAt G) al avs := pair_mono (fun _ _ h => h.mono fix0) hal
    refine ⟨.ref tp, rfl, tp, rfl, ⟨_, SqT.of gtp⟩, fun D hD => dc_tup (xs := pvs) (fun i H' => Same G H' ∧ ∃ kvs, H' D = some (.dK kvs) ∧ NamedOk kvs ((ps.take i).map (·.name)) ∧ kvs.length ≤ i) ⟨same_new hD, [], upd_same, fun z => rfl, Nat.le_refl _⟩
      (fun i H' _ h => SqT.of (h.1 _ _ gtp)) (fun i x H1 hx ⟨s1, kvs, e1, no, le⟩ => ?_) (fun H1 ⟨s1, kvs, e1, no, le⟩ => ?_)⟩
    · obtain ⟨m, hm, em, qm, dxm, tm, vm, rfl, hqm, _⟩ := pair_get' gps hx
      refine ⟨rfl, .ref qm, rfl, qm, CP, dxm, pflds m tm, .str m.name, rfl, s1 _ _ hqm, T.cP, T.pName, rfl, kvs, Sum.inr m.name, rfl, e1, ?_, fun b o e => ?_, _, upd_same, ?_, ?_⟩
      · have h1 := hps.length
        have h2 : i < ps.length := (List.getElem?_eq_some_iff.mp hm).1
        omega
      · rw [upd_ne (ne_of_none e hD)]
        exact s1 _ _ e
      · rw [em, List.map_append]
        exact no.put
      · have := putK_len kvs (Sum.inr m.name) (V.bl true)
        exact Nat.le_trans this (by omega)
    · rw [← hps.length, List.take_length] at no
      refine ⟨_, rfl, p, CM, dx, _, rfl, s1 _ _ gp, M.cM, M.nNamed, (by show 3 < 1000; decide), ?_⟩
      have npD : D ≠ p := fun e => by rw [e, gp] at hD; cases hD
      have fix1 : Fix CP G (upd H1 p (.ins CM dx (putF "_named" (.ref D) [("pieces", .ref tp), ("exports", ev), ("aliases", .ref ta)]))) := (Fix.of s1).trans (Fix.ins (s1 _ _ gp) neM)
      refine ⟨.ref ta, rfl, ta, rfl, ⟨_, SqT.of (fix1.1 _ _ gta)⟩, for_it (walk_tup (xs := avs)) (fun i σ H' => ∃ v1 v2 v3, σ = [some (.ref p), some (.ref tp), some ev, some (.ref ta), v1, v2, v3] ∧ H' p = some (.ins CM dx (mflds (.ref tp) ev (.ref ta) (.ref D))) ∧ (∀ b o, b ≠ p → G b = some o → H' b = some o) ∧ ∃ kvs, H' D = some (.dK kvs) ∧ NamedOk kvs (ps.map (·.name) ++ (al.take i).map (·.1)) ∧ kvs.length ≤ ps.length + i)
        ⟨_, _, _, rfl, upd_same, fun b o hb e => by rw [upd_ne hb]; exact s1 _ _ e, kvs, by rw [upd_ne npD]; exact e1, by rw [List.take_zero, List.map_nil, List.append_nil]; exact no, by rw [hps.length]; exact le⟩
        (fun i σ H' _ ⟨_, _, _, _, _, k, _⟩ => SqT.of (k _ _ (ne_of gta gp (by intro z; cases z)) gta)) ?_ ?_⟩
      · rintro i x σ H2 H3 hi ⟨v1, v2, v3, rfl, e2, k2, kvs2, e3, no2, le2⟩ ⟨rfl, hx⟩
        obtain ⟨m, hm, em, qm, rfl, hqm⟩ := pair_get' gal hx
        have h2 : i < al.length := (List.getElem?_eq_some_iff.mp hm).1
        refine ⟨qm, _, rfl, SqT.of (k2 _ _ (ne_of hqm gp (by intro z; cases z)) hqm), rfl, _, _, rfl, _, _, rfl, rfl, ?_⟩
        refine ⟨.ref p, rfl, p, CM, dx, _, .ref D, rfl, e2, M.cM, M.nNamed, rfl, .str m.1, rfl, D, _, rfl, DPut.k (k := Sum.inr m.1) e3 (by omega), ?_⟩
        refine ⟨_, _, _, rfl, by rw [upd_ne npD.symm]; exact e2, fun b o hb e => by rw [upd_ne (ne_of_none e hD)]; exact k2 b o hb e, _, upd_same, ?_, ?_⟩
        · rw [em, List.map_append, ← List.append_assoc]
          exact no2.put
        · have := putK_len kvs2 (Sum.inr m.1) (V.bl true)
          exact Nat.le_trans this (by omega)
      · rintro σ H2 ⟨v1, v2, v3, rfl, e2, k2, kvs2, e3, no2, le2⟩
        rw [← hal.length, List.take_length] at no2
        exact q H2 D kvs2 (fun b o hb e => k2 b o hb (gof b o hb e)) (gno hD) e2 e3 no2
end
end TX

set_option Elab.async false
set_option linter.all false
set_option maxRecDepth 100000
set_option maxHeartbeats 4000000
/-! A text is read. -/
namespace TX
open PySem PySem.Spec PyProof.Rows L2 L2.FK FS
abbrev sParse : Stmt := top (TX.o + 13)
def total (rs : List (List Str)) : Nat := (rs.map List.length).sum
/-- what a text must be like for us: not too long -/
structure FitT (t : Str) : Prop where
  fits : Fits t
  rows : ∀ ws ∈ rowsOf t, ws ≠ [] ∧ ∀ z ∈ ws, Wd z ∧ PyData.strOk z = true
  sum : total (rowsOf t) < sizeLine
  many : (rowsOf t).length ≤ 1000
def ModAt (CM CP : Addr) (H : Hp) (m : Addr) (st : ST) : Prop := ∃ dx tp te ta nd pvs avs kvs, H m = some (.ins CM dx (mflds (.ref tp) (.ref te) (.ref ta) (.ref nd))) ∧ H tp = some (.tup pvs) ∧ Paired (PieceAt CP H) st.ps pvs ∧ H te = some (.tup (st.ex.map V.str)) ∧
  H ta = some (.tup avs) ∧ Paired (AliAt H) st.al avs ∧ H nd = some (.dK kvs) ∧ NamedOk kvs (st.ps.map (·.name) ++ st.al.map (·.1))
/-- .. and its dict of names is new -/
def ModAtN (CM CP : Addr) (H0 H : Hp) (m : Addr) (st : ST) : Prop := ∃ dx tp te ta nd pvs avs kvs, H m = some (.ins CM dx (mflds (.ref tp) (.ref te) (.ref ta) (.ref nd))) ∧ H tp = some (.tup pvs) ∧ Paired (PieceAt CP H) st.ps pvs ∧ H te = some (.tup (st.ex.map V.str)) ∧
  H ta = some (.tup avs) ∧ Paired (AliAt H) st.al avs ∧ H nd = some (.dK kvs) ∧ NamedOk kvs (st.ps.map (·.name) ++ st.al.map (·.1)) ∧ H0 nd = none
theorem dk_keys (zs : List Str) : ((dk zs).map fun kv => kV kv.1) = zs.map V.str := by
  unfold dk
  rw [List.map_map]
  rfl
theorem pair_nil {α : Type} {R : α → V → Prop} {vs : List V} (h : Paired R [] vs) : vs = [] := by cases h; rfl
section
variable {P : Program} {w : World} {K : PySem.W.Frag} {mg : Str → Option Value} {base : Heap} {aO aR dF CD CP CM CB fB aK fP fDi fMi : Addr} {es : Array DictEntry} {nF : Nat} {tF : Str → Addr}
structure TP (K : PySem.W.Frag) (mg : Str → Option Value) (CD CM fDi fMi : Addr) : Prop where
  gD : mg "Draft" = some (.ref CD)
  mD : Mk K CD fDi
  gM : mg "Module" = some (.ref CM)
  mM : Mk K CM fMi
def spParse (K : PySem.W.Frag) (CB CM CP : Addr) : Sp := fun vs H Q E => ∃ v, vs = [v] ∧ ((NoStr K H v ∧ ∀ d H', Same H H' → H' d = some (.xd [("row", .non)]) → E (.ref CB) (some d) H') ∨
  ∃ t, v = .str t ∧ FitT t ∧ (∀ i, parseT t = .error i → ∀ d H', Same H H' → H' d = some (.xd [("row", .int i)]) → E (.ref CB) (some d) H') ∧ (∀ st, parseT t = .ok st → ∀ H' m, Same H H' → H m = none → ModAtN CM CP H H' m st → Q (.ref m) H'))
theorem scPM : FnScope ["text", "draft", "rows", "number", "words"] ["text"] (defScope sParse) := ⟨rfl, rfl, rfl, by decide +kernel, rfl, by decide +kernel, by decide +kernel⟩
theorem ok_parse {f fS fT : Addr} {fd fdS fdT fdB fdDi fdMi : FuncData} (F : Fun K "parse_module" "parse_module" sParse f fd) (T : TC K CD CP) (TT' : TT K w mg aO aR dF es nF tF) (B : TB K mg CP CB fP fB) (M : TMd K CM) (neM : CP ≠ CM) (G : TP K mg CD CM fDi fMi)
    (GS : FnOk P w K mg base CX0 1 fS fdS ["text"] spSplit) (bS : Binds K fdS ["text"] []) (gS : mg "split_rows" = some (.ref fS)) (kS : PySem.W.keepIn K (.ref fS) = true)
    (GT : FnOk P w K mg base (L2.CX P w) 6 fT fdT ["self", "number", "words"] (spTake CD CP CB)) (bT : Binds K fdT ["self", "number", "words"] []) (mT : Meth K CD "take" fT)
    (GDi : FnOk P w K mg base CX0 1 fDi fdDi ["self"] (spDraftI CD CP)) (bDi : Binds K fdDi ["self"] [])
    (GMi : FnOk P w K mg base CX0 1 fMi fdMi ["self", "pieces", "exports", "aliases"] (spModI CM CP)) (bMi : Binds K fdMi ["self", "pieces", "exports", "aliases"] [])
    (GB : FnOk P w K mg base CX0 1 fB fdB ["self", "row"] (spBad CB "row")) (bB : Binds K fdB ["self", "row"] []) : FnOk P w K mg base (L2.CX P w) 7 f fd ["text"] (spParse K CB CM CP) := by
  refine F.okX scPM (fun vs H Q E h => ?_) (fun cdv A0 outer s H vs Q E hr h => ?_)
  · obtain ⟨v, rfl, _⟩ := h
    rfl
  · obtain ⟨v, rfl, h⟩ := h
    have hr2 : Room 2 _ := hr.mono (by decide)
    have hr1 : Room 1 _ := hr.mono (by decide)
    refine ⟨_, pss_cons (ps_if (pt_not (pt_val (pe_callB call_isi (by rfl) TT'.zi b_isi (pa_cons (pv 0) (pa_cons (pe_bltn rfl TT'.zs b_str (v := .ty "str") rfl) pa_nil)))))
        (pss_one (ps_raise rfl (takes_of rfl rfl rfl rfl) (pmk_oex B.ec.oex B.ec.iC B.ec.tI GB hr2 bB .nil pass0 rfl B.ec.gC (pa_cons pe_non pa_nil)))) pss_nil)
      (pss_cons (ps_set (i := 1) scPM.nd rfl (.inl rfl) (pe_make0 G.mD GDi hr2 rfl G.gD bDi .nil pass0))
      (pss_cons (ps_set (i := 2) scPM.nd rfl (.inl rfl) (pe_call GS hr1 rfl gS kS bS .nil pass0 (pa_cons (pv 0) pa_nil)))
      (pss_cons (ps_for (passes_of rfl) rfl (pi_enum (by rfl) B.ze (pa_cons (pv 2) pa_nil)) (pg_tup rfl (pgs_cons (pg_name (i := 3) scPM.nd rfl (Or.inl rfl)) (pgs_cons (pg_name (i := 4) scPM.nd rfl (Or.inl rfl)) pgs_nil)))
          (pss_one (ps_expr (pe_meth (pv 1) T.cD mT GT hr bT .nil (passes_call (takes_of rfl rfl rfl rfl) (fun _ _ _ _ h => h)) (pa_cons (pv 3) (pa_cons (pv 4) pa_nil))))))
      (pss_cons (ps_if (pt_cmp (pc_notN (pe_fld (pv 1) rfl))) (pss_one (ps_raise rfl (takes_of rfl rfl rfl rfl) (pmk_oex B.ec.oex B.ec.iC B.ec.tI GB hr2 bB .nil pass0 rfl B.ec.gC (pa_cons (pe_callB call_len_seq (by rfl) TT'.zl PySem.boot_len (pa_cons (pv 2) pa_nil)) pa_nil)))) pss_nil)
      (pss_one (ps_ret (pe_make G.mM GMi hr2 rfl G.gM bMi .nil pass0 (pa_cons (pe_callTy call_tupleS (by rfl) B.zt boot_tuple (pa_cons (pe_fld (pv 1) rfl) pa_nil)) (pa_cons (pe_callTy (call_tupDS rfl) (by rfl) B.zt boot_tuple (pa_cons (pe_fld (pv 1) rfl) pa_nil)) (pa_cons (pe_callTy call_tupleS (by rfl) B.zt boot_tuple (pa_cons (pe_fld (pv 1) rfl) pa_nil)) pa_nil)))))))))), ?_⟩
    have ks : PySem.W.kitOne K (.type "str") (.type "str") = some true := kit_ty (by decide +kernel)
    rcases h with ⟨⟨ty0, ty, kt⟩, qe⟩ | ⟨t, rfl, ft, qe, qo⟩
    · exact ⟨v, rfl, v, .ty "str", ty0, .type "str", false, rfl, .ty "str", ty, kt, false, rfl, iteT (bad_mk fun d H' nd s1 e9 => qe d H' s1 e9)⟩
    · refine ⟨.str t, rfl, .str t, .ty "str", .type "str", .type "str", true, rfl, .ty "str", .base (.str t), ks, true, rfl, iteF ?_⟩
      refine fun x dx nx ndx nex => ⟨x, dx, rfl, upd_same, fun A H1 ep er off ndp nde nda ndn D => ⟨rfl, ?_⟩⟩
      subst ep
      have s1 : Same H H1 := fun b o e => off b o (ne_of_none e nx) (by rw [upd_ne (ne_of_none e nx), upd_ne (ne_of_none e ndx)]; exact e)
      have s0 : Same H (upd (upd H dx (.own A.p)) A.p (.ins CD dx [])) := fun b o e => by rw [upd_ne (ne_of_none e nx), upd_ne (ne_of_none e ndx)]; exact e
      have nf : ∀ {b : Addr} {o : HO}, H b = some o → ¬ Foot A b := fun {b o} e fo => by
        rcases fo with f | f | f | f | f | f
        · rw [f, nx] at e; cases e
        · rw [f, same_none s0 ndp] at e; cases e
        · rw [f, same_none s0 nde] at e; cases e
        · rw [f, same_none s0 nda] at e; cases e
        · rw [f, same_none s0 ndn] at e; cases e
        · rw [er] at f; cases f
      refine ⟨.str t, rfl, t, rfl, ft.fits, fun H3 r rs s3 nr e3 hrows => ?_⟩
      have D3 := D.mono s3
      have nfr : ¬ Foot A r := D.free nr
      have nfq : ∀ {q : Addr} {v0 : V} {l : List V}, H3 q = some (.lst (v0 :: l)) → ¬ Foot A q := fun {q v0 l} e fo => by
        obtain ⟨dx3, k, n, z, rr, e4, _⟩ := D3.ob
        obtain ⟨vs, e5, e6⟩ := D3.dp
        obtain ⟨us, e7, e8⟩ := D3.da
        have hv := pair_nil e6
        have hu := pair_nil e8
        subst hv hu
        rcases fo with f | f | f | f | f | f
        · rw [f, e4] at e; cases e
        · rw [f, e5] at e; cases e
        · rw [f, D3.de] at e; cases e
        · rw [f, e7] at e; cases e
        · rw [f, D3.dn] at e; cases e
        · rw [er] at f; cases f
      have sameOf : ∀ {H' : Hp}, Kept A H3 H' → Same H H' := fun {H'} k b o e => k b o (s3 _ _ (s1 _ _ e)) (nf e)
      refine ⟨.ref r, rfl, r, rs, rfl, SqL.of e3, for_it (walk_enum (xs := rs)) (fun i σ H' => ∃ v3 v4 A' st', σ = [some (.str t), some (.ref A.p), some (.ref r), v3, v4] ∧ Kept A H3 H' ∧ Next H3 A A' ∧ DAt CD CP A' H' st' ∧ StOk st' ∧ wt st' + total ((rowsOf t).drop i) ≤ total (rowsOf t) ∧ parseRows ((rowsOf t).drop i) (i : Nat) st' = parseRows (rowsOf t) 0 st0)
        ⟨none, none, A, st0, rfl, fun b o e _ => e, Next.same _ _, D3, (fun op e => nomatch e), by rw [List.drop_zero]; show 0 + _ ≤ _; omega, by rw [List.drop_zero]; rfl⟩ (fun i σ H' _ ⟨_, _, _, _, _, k, _⟩ => SqL.of (k _ _ e3 nfr)) ?turn ?done⟩
      case turn =>
        rintro i x0 σ H4 H5 hi ⟨v3, v4, A', st', rfl, k4, n4, D4, hs4, hw4, hp4⟩ ⟨T1, x, y, rfl, nT, rfl, hx, hy⟩
        cases hx
        have sT : Same H4 (upd H4 T1 (.tup [.int (i : Nat), y])) := same_new nT
        have D5 := D4.mono sT
        obtain ⟨ws, hws, q, rfl, hq⟩ := pair_get hrows hy
        have hmem := List.mem_of_getElem? hws
        obtain ⟨hne, hz⟩ := ft.rows ws hmem
        have ed : (rowsOf t).drop i = ws :: (rowsOf t).drop (i + 1) := by
          rw [List.drop_eq_getElem_cons (List.getElem?_eq_some_iff.mp hws).1]
          rw [(List.getElem?_eq_some_iff.mp hws).2]
        rw [ed] at hw4 hp4
        have etot : total (ws :: (rowsOf t).drop (i + 1)) = ws.length + total ((rowsOf t).drop (i + 1)) := by
          unfold total
          rw [List.map_cons, List.sum_cons]
        rw [etot] at hw4
        have nq : ¬ Foot A q := by
          cases ws with
          | nil => exact absurd rfl hne
          | cons a l => exact nfq hq
        have hap : A'.p = A.p := n4.1
        obtain ⟨dx5, kk, nn, zz, rr, e5, _⟩ := D5.ob
        rw [hap] at e5
        have hsum := ft.sum
        have kT : Kept A H3 (upd H4 T1 (.tup [.int (i : Nat), .ref q])) := k4.trans (Kept.of sT)
        have ep5 : parseRows (ws :: (rowsOf t).drop (i + 1)) (i : Nat) st' = (match takeRow (i : Nat) ws st' with | .error e => .error e | .ok st2 => parseRows ((rowsOf t).drop (i + 1)) ((i : Nat) + 1) st2) := rfl
        refine ⟨T1, _, rfl, SqT.of upd_same, rfl, _, _, rfl, _, _, rfl, rfl, ?_⟩
        refine ⟨.ref A.p, rfl, A.p, dx5, _, rfl, e5, rfl, .int (i : Nat), rfl, .ref q, rfl, A', st', (i : Nat), q, ws, (by rw [hap]; rfl), D5, kT _ _ hq nq, n4.foot hq nq, hne, fun z h => (hz z h).1, fun z h => (hz z h).2, hs4, by omega, fun e en d H' k' e9 => ?_, fun st2 en H' A2 k' n' D' => ?_⟩
        · refine qe e ?_ d H' (sameOf (kT.next n4 k')) e9
          unfold parseT
          rw [← hp4, ep5, en]
        · obtain ⟨hs5, hw5⟩ := takeRow_ok hne en hs4
          refine ⟨_, _, A2, st2, rfl, kT.next n4 k', Next.trans kT n4 D5 n', D', hs5, by omega, ?_⟩
          rw [← hp4, ep5, en]
          rfl
      case done =>
        rintro σ H' ⟨v3, v4, A', st', rfl, k4, n4, D4, hs4, hw4, hp4⟩
        have hlen : (rowsOf t).length = rs.length := hrows.length
        rw [← hlen, List.drop_length] at hp4 hw4
        have hp5 : parseRows (rowsOf t) 0 st0 = .ok st' := hp4.symm
        have et : parseT t = if st'.op.isSome then .error ((rowsOf t).length : Int) else .ok st' := by
          unfold parseT
          rw [hp5]
        have hap : A'.p = A.p := n4.1
        obtain ⟨dx5, kk, nn, zz, rr, e5, e6⟩ := D4.ob
        rw [hap] at e5
        have sH := sameOf k4
        refine ⟨.ref A.p, rfl, A.p, CD, dx5, _, kk, rfl, e5, T.cD, T.nKind, rfl, _, rfl, ?_⟩
        cases ho : st'.op with
        | some op =>
          rw [ho] at e6 et
          have ek : kk = .str op.kind := e6.1
          subst ek
          refine iteT ⟨.ref r, rfl, r, _, rfl, .inl (SqL.of (k4 _ _ e3 nfr)), bad_mk fun d H2 nd s2 e9 => qe _ et d H2 (sH.trans s2) (by rw [e9, hlen])⟩
        | none =>
          rw [ho] at e6 et
          have ek : kk = .non := e6.1
          subst ek
          refine iteF ?_
          obtain ⟨pvs, e7, e8⟩ := D4.dp
          obtain ⟨avs, e10, e11⟩ := D4.da
          refine ⟨.ref A.p, rfl, A.p, CD, dx5, _, .ref A'.dp, rfl, e5, T.cD, T.nPieces, rfl, A'.dp, pvs, rfl, SqL.of e7, fun tp H5 s5 n5 etp => ?_⟩
          refine ⟨.ref A.p, rfl, A.p, CD, dx5, _, .ref A'.de, rfl, s5 _ _ e5, T.cD, T.nExports, rfl, A'.de, _, rfl, s5 _ _ D4.de, fun te H6 s6 n6 ete => ?_⟩
          refine ⟨.ref A.p, rfl, A.p, CD, dx5, _, .ref A'.da, rfl, s6 _ _ (s5 _ _ e5), T.cD, T.nAliases, rfl, A'.da, avs, rfl, SqL.of (s6 _ _ (s5 _ _ e10)), fun ta H7 s7 n7 eta => ?_⟩
          rw [dk_keys] at ete
          have s47 : Same H' H7 := (s5.trans s6).trans s7
          refine fun m dm nm ndm nedm => ⟨m, dm, tp, ta, .ref te, st'.ps, pvs, st'.al, avs, rfl, upd_same, ?_⟩
          have sm : Same H7 (upd (upd H7 dm (.own m)) m (.ins CM dm [])) := fun b o e => by rw [upd_ne (ne_of_none e nm), upd_ne (ne_of_none e ndm)]; exact e
          have s48 := s47.trans sm
          have wtl : wt st' ≤ total (rowsOf t) := Nat.le_trans (Nat.le_add_right _ _) hw4
          have hsum := ft.sum
          refine ⟨sm _ _ (s7 _ _ (s6 _ _ etp)), pair_mono (fun _ _ h => h.mono (Fix.of s48)) e8, sm _ _ eta, pair_mono (fun _ _ h => h.mono (Fix.of (CP := CP) s48)) e11, by unfold wt at wtl; omega, fun H8 nd kvs off8 nnd e12 e13 no => ⟨rfl, ?_⟩⟩
          have s78 : Same H7 H8 := fun b o e => off8 b o (ne_of_none e nm) (sm _ _ e)
          have s4' : Same H' H8 := s47.trans s78
          refine qo st' et H8 m (sH.trans s4') (same_none sH (same_none s47 nm)) ⟨dm, tp, te, ta, nd, pvs, avs, kvs, e12, s78 _ _ (s7 _ _ (s6 _ _ etp)), pair_mono (fun _ _ h => h.mono (Fix.of s4')) e8, s78 _ _ (s7 _ _ ete), s78 _ _ eta, pair_mono (fun _ _ h => h.mono (Fix.of (CP := CP) s4')) e11, e13, no, same_none sH (same_none s48 nnd)⟩
end
end TX

set_option Elab.async false
set_option linter.all false
set_option maxRecDepth 100000
set_option maxHeartbeats 4000000
/-! sorted of a tuple of texts. -/
namespace FS
open PySem PySem.Spec PyProof.Rows L2
section
variable {prog : Program} {w : World} {A : Around} {E : Value → Shared → Prop} {s : Shared}
theorem sorted_tup {l : Addr} {o : Obj} {vs : List Value} {n : Nat} {ss : List Str} {Q : Value → Shared → Prop} (ho : s.heap.get? l = some o) (hc : o.cls = .type "tuple") (hd : o.data = .seq vs.toArray n) (hS : StrsAre vs ss) (few : vs.length < 64)
    (fin : ∀ (h1 h' : Heap) out ys e, (∀ b o, s.heap.get? b = some o → h1.get? b = some o) → (∀ b o, h1.get? b = some o → h'.get? b = some o) → h'.get? h1.objs.size = some (seqObj "list" out e) → StrsAre out.toList ys → ys.Perm ss → sortedS ys = true → Q (.ref h1.objs.size) { s with heap := h' }) :
    wpAny (model prog w) A (call (.builtin "sorted") [.ref l]) Q E s := by
  have line : vs.toArray.size ≤ sizeLine := by rw [List.size_toArray]; exact Nat.le_of_lt (small1000 (by omega))
  refine Calls.call_function_entry kind_sorted plain_sorted entry_sorted (args_sorted1 _) ?_
  show wpAny _ _ (do checkCount "sorted" 1 1 1; let l ← newList (← collect (.ref l)); let _ ← holding [l] (call (.builtin "list.sort") [l] []); ret l) _ _ _
  refine wpAny_bind (m := checkCount "sorted" 1 1 1) (wpAny_pure (wpAny_bind (wpAny_collect_seq l (.inr rfl) ho hc hd (fun h1 k1 => wpAny_bind (wpAny_newList ?_)) line)))
  have at1 : (h1.push (seqObj "list" vs.toArray 0)).get? h1.objs.size = some (seqObj "list" vs.toArray 0) := Heap.get?_push_size _ rfl
  refine wpAny_bind (wpAny_holding (wpAny_call_entry slot_list_sort ⟨_, at1, rfl⟩ entry_list_sort (list_sort_treeK strKind_oneLt at1 hS.keysOf (fun a b r e => keyKind_strs (by rw [← e]; exact hS)) few fun st hp hs => ⟨_, rfl, ?_⟩) (args_list_sort _)))
  obtain ⟨ys, q1, q2, q3⟩ := sorted_out_str hS hp hs
  obtain ⟨e, at2⟩ := sortedHeap_at (out := (arrOf st).map (·.2)) at1
  refine wpAny_pure ⟨_, rfl, fin h1 _ _ ys e k1 (fun b ob hb => ?_) at2 q1 q2 q3⟩
  have lb := Heap.lt_size hb
  rw [sortedHeap_old (Nat.ne_of_lt lb) (by rw [size_push']; exact Nat.lt_succ_of_lt lb)]
  exact Heap.get?_push_of_some _ hb
end
section
variable {X : Cx}
theorem cr_sortedT : CallR X (.builtin "sorted") (fun vs H Q => ∃ (a : Addr) (xs : List Str), vs = [V.ref a] ∧ SqT X.K H a (xs.map V.str) ∧ xs.length < 64 ∧ ∀ (ys : List Str) (p : Addr) (H' : Hp), ys.Perm xs → sortedS ys = true → Same H H' → H p = none → H' p = some (.lst (ys.map V.str)) → Q (.ref p) H') := by
  intro pins s σ H vs us Q I r h
  obtain ⟨a, xs, rfl, ht, few, q⟩ := h
  obtain ⟨its, rv, ⟨o, ho, hc, n, hd⟩, line⟩ := I.tuple ht
  rw [Vals.ref1 r]
  have len := rv.length
  rw [List.length_map] at len
  refine sorted_tup ho hc hd rv.strs (by omega) fun h1 h' out ys e keep keep2 at_p so per srt => ?_
  have I1 : Inv X pins σ H { s with heap := h1 } := I.kept (t' := s.toks) keep
  have small : (ys.map V.str).length ≤ sizeLine := by rw [List.length_map, per.length_eq]; exact small64 few
  have nf : H h1.objs.size = none := I1.hok.fresh (Nat.le_refl _)
  refine ⟨.ref h1.objs.size, upd H h1.objs.size (.lst (ys.map V.str)), I1.laid (t' := s.toks) keep2 (Nat.le_refl _) ⟨small, out.toList, e, vals_of_strs so, at_p⟩, rfl, q ys _ _ per srt (same_new nf) nf upd_same⟩
theorem cr_sortedL : CallR X (.builtin "sorted") (fun vs H Q => ∃ (a : Addr) (xs : List Str), vs = [V.ref a] ∧ SqL X.K H a (xs.map V.str) ∧ xs.length < 64 ∧ ∀ (ys : List Str) (p : Addr) (H' : Hp), ys.Perm xs → sortedS ys = true → Same H H' → H p = none → H' p = some (.lst (ys.map V.str)) → Q (.ref p) H') := fun pins s σ H vs us Q I r ⟨a, xs, e, h, few, q⟩ =>
  cr_sortedS pins s σ H vs us Q I r ⟨a, xs, e, h, few, fun ys p per srt np => q ys p _ per srt (same_new np) np upd_same⟩
end
end FS

set_option Elab.async false
set_option linter.all false
set_option maxRecDepth 100000
set_option maxHeartbeats 4000000
/-! Sets of any kind of keys, with what their walk asks; set(l) and sorted of a set of texts. (After HandS.Set and HandS.SetFor, which tell the same of ints.) -/
namespace FS
open PySem PySem.Spec PyProof.Rows L2
section
variable {P : Program} {w : World} {κ : Type} [DecidableEq κ] {kd : PySem.KeyKind P w κ}
/-- no two entries have one key -/
def Dis (kd : PySem.KeyKind P w κ) (es : List (Int × Value)) : Prop := es.Pairwise fun e f => ∀ k, kd.is k e.2 = true → kd.is k f.2 = true → False
theorem Dis.perm {es fs : List (Int × Value)} (d : Dis kd es) (p : fs.Perm es) : Dis kd fs := (p.symm.pairwise_iff (fun h k a b => h k b a)).mp d
/-- a set whose table rises, so that it can be walked -/
def Wk (kd : PySem.KeyKind P w κ) (h : Heap) (a : Addr) (S : κ → Bool) (n : Nat) : Prop :=
  ∃ o es ep t, (h.get? a = some o ∧ o.ExactSet ∧ o.data = .set es ep t) ∧ (ElemsOf kd es.toList ∧ Dis kd es.toList ∧ ∀ k, S k = true ↔ ∃ e ∈ es.toList, kd.is k e.2 = true) ∧
    (es.size < scanBound ∧ t.fits es.size = true ∧ es.size = n) ∧ Ris t.place.toList ∧ (w.params.followText "set-order" = true ∨ t.led = true)
theorem Wk.there {h h' : Heap} {a : Addr} {S : κ → Bool} {n : Nat} (x : Wk kd h a S n) (k : ∀ o, h.get? a = some o → h'.get? a = some o) : Wk kd h' a S n := by
  obtain ⟨o, es, ep, t, ⟨z, r⟩, q⟩ := x
  exact ⟨o, es, ep, t, ⟨k o z, r⟩, q⟩
theorem Wk.like {h : Heap} {a : Addr} {S S' : κ → Bool} {n : Nat} (x : Wk kd h a S n) (e : ∀ k, S' k = S k) : Wk kd h a S' n := (funext e : S' = S) ▸ x
theorem wk_new {h : Heap} {a : Addr} {S : κ → Bool} (hS : ∀ k, S k = false) (ho : h.get? a = some { cls := .type "set", dict := none, data := .set #[] 0 (.fresh 0 0 (!w.params.followText "set-order")) }) : Wk kd h a S 0 := by
  refine ⟨_, #[], 0, _, ⟨ho, ⟨rfl, rfl, rfl⟩, rfl⟩, ⟨fun e he => by simp at he, .nil, fun k => by simp [hS k]⟩, ⟨by decide, rfl, rfl⟩, .nil, ?_⟩
  cases hf : w.params.followText "set-order" with
  | true => exact .inl rfl
  | false => exact .inr (by show (!false) = true; rfl)
variable {A : Around} {E : Value → Shared → Prop} {s : Shared} {a : Addr} {S : κ → Bool} {n : Nat}
theorem wk_tail {gv : Bool → Sem Unit} (hg : ∀ (b : Bool) (z : Shared) (Q' : Unit → Shared → Prop), Q' () z → wpAny (model P w) A (gv b) Q' E z) {o : Obj} {es e1 : Array (Int × Value)} {ep : Nat} {t t2 : SetTable} {S' : κ → Bool} {was : Bool} {R : Option Bool → Shared → Prop}
    (at0 : s.heap.get? a = some o ∧ o.ExactSet ∧ o.data = .set es ep t) (el : ElemsOf kd e1.toList) (di : Dis kd e1.toList) (me : ∀ k, S' k = true ↔ ∃ e ∈ e1.toList, kd.is k e.2 = true) (few : e1.size < scanBound) (fi : t2.fits e1.size = true) (ri : Ris t2.place.toList)
    (le : w.params.followText "set-order" = true ∨ t2.led = true) (hR : ∀ h', Heap.SameBut a s.heap h' → Wk kd h' a S' e1.size → R (some true) { s with heap := h' }) :
    wpAny (model P w) A (do
        storeSet a e1 t2
        if (!was && t2.tooFull) = true then do
            gv (relayAll t2 e1 (SetTable.grown e1.size)).2.2
            storeSet a (relayAll t2 e1 (SetTable.grown e1.size)).1 (relayAll t2 e1 (SetTable.grown e1.size)).2.1
            pure (some true)
          else pure (some true)) R E s := by
  obtain ⟨ho, hx, hd⟩ := at0
  refine wpAny_bind (wpAny_storeSet_of ho hd ?_ (fits_of_scanBound few))
  have put := store_at (es' := e1) (t' := t2) ho hd
  have but := Heap.SameBut.update s.heap a (Obj.putSet e1 t2)
  split
  · have p1 := relayAll_perm t2 e1 (SetTable.grown e1.size)
    have p2 := relayAll_fits t2 e1 (SetTable.grown e1.size)
    have p3 := relayAll_ris t2 e1 (SetTable.grown e1.size)
    have p4 := relayAll_led t2 e1 (SetTable.grown e1.size)
    generalize relayAll t2 e1 (SetTable.grown e1.size) = Z at p1 p2 p3 p4 ⊢
    obtain ⟨e2, t3, gave⟩ := Z
    dsimp only at p1 p2 p3 p4 ⊢
    have z2 : e2.size = e1.size := by rw [← Array.length_toList, p1.length_eq, Array.length_toList]
    refine wpAny_bind (hg _ _ _ (wpAny_bind (wpAny_storeSet_of put rfl (wpAny_pure (hR _ (but.trans (Heap.SameBut.update _ a _)) ?_)) (fits_of_scanBound (by omega)))))
    refine ⟨_, e2, _, t3, ⟨store_at (es' := e2) (t' := t3) put rfl, hx, rfl⟩, ⟨fun e he => el e (p1.mem_iff.mp he), di.perm p1, fun k => (me k).trans ⟨fun ⟨e, he, q⟩ => ⟨e, p1.mem_iff.mpr he, q⟩, fun ⟨e, he, q⟩ => ⟨e, p1.mem_iff.mp he, q⟩⟩⟩, ⟨by omega, p2, z2⟩, p3, le.imp id fun z => ?_⟩
    rw [p4]
    exact z
  · exact wpAny_pure (hR _ but ⟨_, e1, _, t2, ⟨put, hx, rfl⟩, ⟨el, di, me⟩, ⟨few, fi, rfl⟩, ri, le⟩)
theorem wk_add {k : κ} {x : Value} {Q : Bool → Shared → Prop} (hk : kd.is k x = true) (hs : x.scannable = true) (R : Wk kd s.heap a S n) (room : n + 1 < scanBound)
    (hQ : ∀ h' m, m ≤ n + 1 → Heap.SameBut a s.heap h' → Wk kd h' a (fun j => S j || decide (j = k)) m → Q (!S k) { s with heap := h' }) : wpAny (model P w) A (setAddHashed a x (kd.hash k)) Q E s := by
  obtain ⟨o, es, ep, t, ⟨ho, hx, hd⟩, ⟨el, di, me⟩, ⟨few, fi, sz⟩, ri, le⟩ := R
  unfold setAddHashed setAddHashedIn
  refine wpAny_holding (wpAny_bind (wpAny_setState_of ho hd fi ?_))
  dsimp only
  rw [byScan_of hs few el]
  simp only [↓reduceIte]
  unfold setAddByScan
  refine wpAny_bind (wpAny_bind (wpAny_rule (wpAny_bind (wpAny_setScan_of hk ho hd fi el ?_))))
  cases hfi : List.findIdx? (fun e => kd.is k e.2) es.toList with
  | some j =>
    dsimp only
    obtain ⟨hj, pj, _⟩ := List.findIdx?_eq_some_iff_getElem.mp hfi
    have hS : S k = true := (me k).2 ⟨_, List.getElem_mem hj, pj⟩
    refine wpAny_pure (wpAny_pure ?_)
    have q := hQ s.heap n (Nat.le_succ _) (Heap.SameBut.refl a s.heap) ⟨o, es, ep, t, ⟨ho, hx, hd⟩, ⟨el, di, fun i => ?_⟩, ⟨few, fi, sz⟩, ri, le⟩
    · rw [hS] at q
      exact q
    · rw [Bool.or_eq_true, decide_eq_true_eq, ← me i]
      exact ⟨fun z => z.elim id fun e => e ▸ hS, .inl⟩
  | none =>
    dsimp only
    have hS : S k = false := by
      cases q : S k with
      | false => rfl
      | true =>
        obtain ⟨e, he, z⟩ := (me k).1 q
        have c := List.findIdx?_eq_none_iff.mp hfi e he
        rw [z] at c
        cases c
    have give : ∀ (b : Bool) {z : Shared} {Q' : Unit → Shared → Prop}, Q' () z → wpAny (model P w) A (match b with | true => rule "set.scan.the-table-gave-way" | false => pure ()) Q' E z := fun b z Q' q => by
      cases b
      · exact wpAny_pure q
      · exact wpAny_rule q
    have p1 := layNew_perm t es (kd.hash k) x
    have p2 := layNew_fits t es (kd.hash k) x
    have p3 := layNew_ris t es (kd.hash k) x ri
    have p4 := layNew_led t es (kd.hash k) x
    generalize layNew t es (kd.hash k) x = Z at p1 p2 p3 p4 ⊢
    obtain ⟨e1, t1, was, gave⟩ := Z
    dsimp only at p1 p2 p3 p4 ⊢
    rw [Array.toList_push] at p1
    have el1 : ElemsOf kd e1.toList := (el.push hk hs).perm p1
    have me1 := mem_push_iff hk me p1
    have di1 : Dis kd e1.toList := by
      refine Dis.perm ?_ p1
      refine List.pairwise_append.mpr ⟨di, List.pairwise_singleton _ _, fun e he f hf i a b => ?_⟩
      rw [List.mem_singleton.mp hf] at b
      have c := List.findIdx?_eq_none_iff.mp hfi e he
      have : i = k := kd.inj _ _ _ b hk
      rw [this] at a
      rw [a] at c
      cases c
    have sz1 : e1.size = n + 1 := by
      rw [← Array.length_toList, p1.length_eq, List.length_append, Array.length_toList, sz]
      rfl
    have le1 : w.params.followText "set-order" = true ∨ t1.led = true := le.imp id fun z => by rw [p4]; exact z
    have fin : ∀ h', Heap.SameBut a s.heap h' → Wk kd h' a (fun j => S j || decide (j = k)) e1.size → Q true { s with heap := h' } := fun h' b r => by
      have q := hQ h' _ (Nat.le_of_eq sz1) b r
      rw [hS] at q
      exact q
    refine wpAny_bind (give _ ?_)
    split
    · refine wpAny_bind ?_
      rw [hashByValue_scannable 8 hs]
      refine wpAny_pure (wk_tail (kd := kd) (S' := fun j => S j || decide (j = k)) ?_ ⟨ho, hx, hd⟩ el1 di1 me1 (by omega) ?_ ?_ ?_ fun h' b r => ?_)
      · intro b z Q' q
        cases b
        · exact wpAny_pure q
        · exact wpAny_rule q
      · split
        · exact p2
        · exact SetTable.fits_plain_off p2
      · split <;> exact p3
      · split <;> exact le1
      · dsimp only
        exact wpAny_pure (fin h' b r)
    · refine wpAny_bind (wpAny_pure ?_)
      simp only [↓reduceIte]
      refine wk_tail (kd := kd) (S' := fun j => S j || decide (j = k)) ?_ ⟨ho, hx, hd⟩ el1 di1 me1 (by omega) p2 p3 le1 fun h' b r => ?_
      · intro b z Q' q
        cases b
        · exact wpAny_pure q
        · exact wpAny_rule q
      · dsimp only
        exact wpAny_pure (fin h' b r)
/-- what stands for the keys ks, turn by turn -/
def Each (kd : PySem.KeyKind P w κ) (ks : List κ) (at_ : Nat → Value → Prop) : Prop := ∀ i v, at_ i v → ∃ k, ks[i]? = some k ∧ kd.is k v = true ∧ v.scannable = true
theorem wk_update {I : Addr} {fp wr : List Addr} {G : Array GenState → Array GenState → Prop} {n : Nat} {Pv : Nat → Value → Prop} {St : Nat → Shared → Prop} {R : Result → Shared → Prop} (W : WalksS P w A.in1 I fp wr G n Pv St) (d : Addr) (nd : d ∉ fp) (ks : List κ) (hn : n = ks.length)
    (few : ks.length + 1 < scanBound) (each : Each kd ks Pv) : ∀ (m i : Nat) (z : Shared), n - i = m → i ≤ n → St i z → (∃ c, c ≤ i ∧ Wk kd z.heap d (fun j => decide (j ∈ ks.take i)) c) →
      (∀ z' c, Moved (d :: wr) G z z' → c ≤ n → Wk kd z'.heap d (fun j => decide (j ∈ ks)) c → R (.ok (.ret .none)) z') → codeAny (model P w) A (.builtin "set.update.loop" ⟨[.ref d, .ref I], []⟩) R z := by
  have dw : d ∉ wr := fun h => nd (W.sub _ h)
  have sub : ∀ b ∈ wr, b ∈ d :: wr := fun b hb => List.mem_cons_of_mem _ hb
  intro m
  induction m with
  | zero =>
    intro i z hm hi st ⟨c, hc, x⟩ hR
    obtain rfl : i = n := by omega
    refine codeAny_builtin F.entry_set_update_loop ?_
    rw [Around.under_plainId F.plain_set_update_loop _]
    show wpAny _ A.in1 (pyNext (.ref I) >>= _) _ _ z
    refine wpAny_bind (W.done z _ _ st fun z' mv => ?_)
    rw [List.take_of_length_le (by omega : ks.length ≤ i)] at x
    exact wpAny_pure (hR z' c (mv.mono sub) hc (x.there fun o e => mv.heap d o dw e))
  | succ m ih =>
    intro i z hm hi st ⟨c, hc, x⟩ hR
    have lt : i < n := by omega
    refine codeAny_builtin F.entry_set_update_loop ?_
    rw [Around.under_plainId F.plain_set_update_loop _]
    show wpAny _ A.in1 (pyNext (.ref I) >>= _) _ _ z
    refine wpAny_bind (W.item i z _ _ lt st fun v z' pv st' mv => ?_)
    obtain ⟨k, hk, is, sc⟩ := each i v pv
    have x' := x.there (fun o e => mv.heap d o dw e)
    show wpAny _ A.in1 (holding [v] (setAdd d v) >>= _) _ _ z'
    refine wpAny_bind (wpAny_holding ?_)
    unfold setAdd
    refine wpAny_holding (wpAny_bind (kd.pyHash (k := k) is ?_))
    refine wk_add (s := { z' with toks := z'.toks + 1 }) is sc x' (by omega) fun h' c' hc' sb y => ?_
    have y' : Wk kd h' d (fun j => decide (j ∈ ks.take (i + 1))) c' := y.like fun j => by
      rw [List.take_add_one, hk]
      simp [List.mem_append]
    refine wpAny_pure ⟨plainId_quiet F.plain_set_update_loop _, ih (i + 1) _ (by omega) lt (W.frame _ z' _ _ st' (Nat.le_succ _) fun b hb o e => ?_) ⟨c', by omega, y'⟩ fun z2 c2 m2 h2 y2 => hR z2 c2 (Moved.trans W.gtrans ((mv.mono sub).then_heap (Nat.le_succ _) fun b o hb e => ?_) m2) h2 y2⟩
    · rw [sb.2 b fun h : b = d => nd (h ▸ hb)]
      exact e
    · rw [sb.2 b fun h : b = d => hb (h ▸ List.mem_cons_self ..)]
      exact e
set_option maxHeartbeats 3200000 in
theorem wk_of_list {l : Addr} {items : Array Value} (ks : List κ) {Q : Value → Shared → Prop} (hh : A.handled = none) (hl : s.heap.IsList l items) (hisz : items.size = ks.length) (hval : Each kd ks fun i v => items[i]? = some v) (hb : ks.length + 1 < scanBound)
    (h : ∀ (h' : Heap) (tk c : Nat), Wk kd h' s.heap.objs.size (fun j => decide (j ∈ ks)) c → c ≤ ks.length → (∀ b o, s.heap.get? b = some o → h'.get? b = some o) → Q (.ref s.heap.objs.size) { s with heap := h', toks := tk }) :
    wpAny (model P w) A (call (.type "set") [.ref l]) Q E s := by
  obtain ⟨c, tl, hmro⟩ := F.called_set.mro
  have hmade := F.called_set.made
  have hsub := F.called_set.sub
  refine wpAny_call (codeAny_of_tree ?_)
  show wpAny _ _ (callAny (.type "set") _) _ _ _
  refine wpAny_pure ⟨Code.quiet_builtin _ (by decide +kernel), codeAny_builtin F.entry_type_call ?_⟩
  rw [Around.under_plain (weight_type_call_type "set" [.ref l] []) rfl]
  have h1 := F.called_set.notType
  have h2 := F.called_set.canCreate
  have hct := F.typeCall_set_1 (.ref l)
  repeat (any_goals (first | assumption | wp_step))

  refine codeAny_mono (L2.code_set_led1 (.ref l) (E := E) (Q₁ := fun obj s₁ => obj = .ref s.heap.objs.size ∧ s₁ = { s with heap := s.heap.push { cls := .type "set", dict := none, data := .set #[] 0 (.fresh 0 0 (!w.params.followText "set-order")) } }) ⟨rfl, rfl⟩) fun r s₁ hr => ?_
  cases r with
  | error e => exact hr
  | ok fl =>
    cases fl with
    | ret obj =>
      obtain ⟨rfl, rfl⟩ := hr
      have hS : (s.heap.push { cls := .type "set", dict := none, data := .set #[] 0 (.fresh 0 0 (!w.params.followText "set-order")) }).get? s.heap.objs.size = some { cls := .type "set", dict := none, data := .set #[] 0 (.fresh 0 0 (!w.params.followText "set-order")) } := Heap.get?_push_size _ rfl
      have hT : Shared.TypeIs { s with heap := s.heap.push { cls := .type "set", dict := none, data := .set #[] 0 (.fresh 0 0 (!w.params.followText "set-order")) } } (.ref s.heap.objs.size) "set" := ⟨_, hS, rfl⟩
      have hli := F.called_set.init.lookup
      have hbi := F.called_set.init.bind (.ref s.heap.objs.size)
      repeat (any_goals (first | assumption | wp_step))

      refine codeAny_mono (codeAny_call_builtin (R := wants (fun r s₂ => r = .none ∧ ∃ h' tk c, s₂ = { s with heap := h', toks := tk } ∧ Wk kd h' s.heap.objs.size (fun j => decide (j ∈ ks)) c ∧ c ≤ ks.length ∧
          (∀ b o, s.heap.get? b = some o → h'.get? b = some o)) E) F.called_set.init.plain F.entry_set_init (check_set_init_1 hT ?_)) fun r₂ s₂ hr₂ => ?_
      · obtain ⟨ol, hol, hcl, nl, hdl⟩ := hl
        obtain ⟨ocls, odict, odata, oslots⟩ := ol
        simp only at hcl hdl
        subst hcl; subst hdl
        have hol' : (s.heap.push { cls := .type "set", dict := none, data := .set #[] 0 (.fresh 0 0 (!w.params.followText "set-order")) }).get? l = some { cls := .type "list", dict := odict, data := .seq items nl, slots := oslots } := Heap.get?_push_of_some _ hol
        have hsls := F.sub_list_set
        have hslf := F.sub_list_frozenset
        have hne : (Value.type "list" == Value.type "dict") = false := by decide
        have hl1 : (s.heap.push { cls := .type "set", dict := none, data := .set #[] 0 (.fresh 0 0 (!w.params.followText "set-order")) }).IsList l items := ⟨_, hol', rfl, nl, rfl⟩
        unfold Builtin.«set.__init__» noKeywords Builtin.Frozenset.updateFrom
        generalize hPI : pyIter = PI
        wp_walk
        subst hPI

        refine wpAny_pyIter_list hl1 ?_
        refine wpAny_bind (wpAny_runValue ?_)
        have hlS : l < s.heap.objs.size := Heap.lt_size hol
        have hh3 : A.in1.in1.in1.handled = none := by simp [hh]
        have hz1 : (s.heap.push { cls := .type "set", dict := none, data := .set #[] 0 (.fresh 0 0 (!w.params.followText "set-order")) }).objs.size = s.heap.objs.size + 1 := Heap.size_push ..
        have hneI : l ≠ (s.heap.push { cls := .type "set", dict := none, data := .set #[] 0 (.fresh 0 0 (!w.params.followText "set-order")) }).objs.size := by
          rw [Heap.size_push]; exact Nat.ne_of_lt (Nat.lt_succ_of_lt hlS)
        have hSf : s.heap.objs.size ∉ [(s.heap.push { cls := .type "set", dict := none, data := .set #[] 0 (.fresh 0 0 (!w.params.followText "set-order")) }).objs.size, l] := by
          rw [Heap.size_push]; simp only [List.mem_cons, List.mem_singleton, List.not_mem_nil, or_false, not_or]
          exact ⟨Nat.ne_of_lt (Nat.lt_succ_self _), Nat.ne_of_gt hlS⟩
        refine wk_update (kd := kd) ((Walks.list hh3 _ l hneI items).toS) s.heap.objs.size
          hSf ks hisz hb hval (items.size - 0) 0 _ (by omega) (Nat.zero_le _)
          ⟨⟨_, Heap.get?_push_size _ rfl, rfl, rfl⟩, (hl1.push _)⟩ ?hS0 ?hR
        case hS0 =>
          have hget : ((s.heap.push { cls := .type "set", dict := none, data := .set #[] 0 (.fresh 0 0 (!w.params.followText "set-order")) }).push { cls := .type "list_iterator", data := .fields #[.ref l, .int 0 0] }).get? s.heap.objs.size
              = some { cls := .type "set", dict := none, data := .set #[] 0 (.fresh 0 0 (!w.params.followText "set-order")) } := Heap.get?_push_of_some _ hS
          exact ⟨0, Nat.le_refl 0, wk_new (fun j => by simp) hget⟩
        case hR =>
          intro s' c' hm hc' hS'
          obtain ⟨h', g2, d', tk', os'⟩ := s'
          have eg : g2 = s.gens := hm.gens
          have ed : d' = s.drawn := hm.drawn
          have eo : os' = s.os := hm.os
          subst eg; subst ed; subst eo
          show wpAny _ _ _ _ _ _
          refine wpAny_pure ?_
          show wpAny _ _ (ret Value.none) _ _ _
          rw [hisz] at hc'
          refine wpAny_pure ⟨rfl, h', tk', c', rfl, hS', hc', fun b o e => ?_⟩
          have hb0 : b < s.heap.objs.size := Heap.lt_size e
          have hb1 : b ≠ s.heap.objs.size := Nat.ne_of_lt hb0
          have hb2 : b ≠ (s.heap.push { cls := .type "set", dict := none, data := .set #[] 0 (.fresh 0 0 (!w.params.followText "set-order")) }).objs.size := by
            rw [Heap.size_push]; exact Nat.ne_of_lt (Nat.lt_succ_of_lt hb0)
          exact hm.heap b o (by simp only [List.mem_cons, List.mem_singleton, List.not_mem_nil, or_false, not_or]; exact ⟨hb1, hb2⟩) (Heap.get?_push_of_some _ (Heap.get?_push_of_some _ e))

      · cases r₂ with
        | error e => exact hr₂
        | ok fl₂ =>
          cases fl₂ with
          | ret r =>
            obtain ⟨rfl, h', tk, c', rfl, hS', hc', hk'⟩ := hr₂
            repeat (any_goals (first | assumption | wp_step))
            exact h _ _ _ hS' hc' hk'
          | _ => exact hr₂.elim
    | _ => exact hr.elim
end
section
variable {P : Program} {w : World} {A : Around} {E : Value → Shared → Prop} {s : Shared}
theorem strs_kind {es : List (Int × Value)} (el : ElemsOf (PySem.strKind P w) es) : ∃ ks : List Str, StrsAre (es.map (·.2)) ks ∧ ∀ z, (∃ e ∈ es, (PySem.strKind P w).is z e.2 = true) ↔ z ∈ ks := by
  induction es with
  | nil => exact ⟨[], .nil, fun z => by simp⟩
  | cons e r ih =>
    obtain ⟨ks, h1, h2⟩ := ih fun f hf => el f (List.mem_cons_of_mem _ hf)
    obtain ⟨⟨k, hk, _⟩, _⟩ := el e (List.mem_cons_self ..)
    obtain ⟨t, et⟩ := Value.isStrOf_shape hk
    refine ⟨k :: ks, ?_, fun z => ?_⟩
    · show StrsAre (e.2 :: r.map (·.2)) _
      rw [et]
      exact .cons k t h1
    · rw [List.mem_cons, ← h2 z]
      constructor
      · rintro ⟨f, hf, q⟩
        rcases List.mem_cons.mp hf with rfl | hf
        · exact .inl ((PySem.strKind P w).inj _ _ _ q hk)
        · exact .inr ⟨f, hf, q⟩
      · rintro (rfl | ⟨f, hf, q⟩)
        · exact ⟨e, List.mem_cons_self .., hk⟩
        · exact ⟨f, List.mem_cons_of_mem _ hf, q⟩
theorem strs_mem : ∀ {vs : List Value} {ks : List Str} {k : Str}, StrsAre vs ks → k ∈ ks → ∃ u ∈ vs, ∃ t, u = .str k t
  | _, _, _, .nil, h => by cases h
  | _, _, _, .cons x t r, h => by
    rcases List.mem_cons.mp h with rfl | h
    · exact ⟨_, List.mem_cons_self .., t, rfl⟩
    · obtain ⟨u, hu, q⟩ := strs_mem r h
      exact ⟨u, List.mem_cons_of_mem _ hu, q⟩
theorem strs_perm {vs us : List Value} (p : us.Perm vs) : ∀ {ks : List Str}, StrsAre vs ks → ∃ qs, StrsAre us qs ∧ qs.Perm ks := by
  induction p with
  | nil => exact fun h => ⟨_, h, .refl _⟩
  | cons u _ ih =>
    intro ks h
    cases h with
    | cons x t h =>
      obtain ⟨qs, a, b⟩ := ih h
      exact ⟨x :: qs, .cons x t a, .cons x b⟩
  | swap u v r =>
    intro ks h
    cases h with
    | cons x t h =>
      cases h with
      | cons y t' h => exact ⟨_, .cons y t' (.cons x t h), .swap ..⟩
  | trans _ _ i1 i2 =>
    intro ks h
    obtain ⟨qs, a, b⟩ := i2 h
    obtain ⟨rs, c, d⟩ := i1 a
    exact ⟨rs, c, d.trans b⟩
theorem strs_ix : ∀ {vs : List Value} {ks : List Str} {i : Nat} {v : Value}, StrsAre vs ks → vs[i]? = some v → ∃ k t, ks[i]? = some k ∧ v = .str k t
  | _, _, _, _, .nil, h => by cases h
  | _, _, 0, _, .cons x t _, h => by
    cases h
    exact ⟨x, t, rfl, rfl⟩
  | _, _, i + 1, _, .cons _ _ r, h => strs_ix (i := i) r h
theorem strs_nodup : ∀ {es : List (Int × Value)} {ks : List Str}, Dis (PySem.strKind P w) es → StrsAre (es.map (·.2)) ks → ks.Nodup
  | [], _, _, h => by
    cases h
    exact .nil
  | e :: r, _, d, h => by
    have h : StrsAre (e.2 :: r.map (·.2)) _ := h
    generalize he : e.2 = v at h
    generalize hr : r.map (·.2) = vr at h
    cases h with
    | cons k t h2 =>
      have d' := List.pairwise_cons.mp d
      subst hr
      refine List.nodup_cons.mpr ⟨fun hk => ?_, strs_nodup d'.2 h2⟩
      obtain ⟨u, hu, tu, eu⟩ := strs_mem h2 hk
      obtain ⟨f, hf, rfl⟩ := List.mem_map.mp hu
      refine d'.1 f hf k ?_ ?_
      · rw [he]
        exact strKind_is _ _ _ _
      · rw [eu]
        exact strKind_is _ _ _ _
/-- sorted(d), d a set of texts -/
theorem sorted_wk {a : Addr} {S : Str → Bool} {n : Nat} {Q : Value → Shared → Prop} (R : Wk (PySem.strKind P w) s.heap a S n) (hh : A.handled = none) (few : n < 64)
    (hQ : ∀ (s' : Shared) (p : Addr) (out : Array Value) (c : Nat) (ys : List Str), (∀ b o, s.heap.get? b = some o → s'.heap.get? b = some o) → s'.gens = s.gens ∧ s'.os = s.os → s.heap.objs.size ≤ p → s'.heap.get? p = some (seqObj "list" out c) → StrsAre out.toList ys →
      sortedS ys = true → ys.Nodup → (∀ z, z ∈ ys ↔ S z = true) → ys.length = n → Q (.ref p) s') : wpAny (model P w) A (call (.builtin "sorted") [.ref a]) Q E s := by
  obtain ⟨o, es, ep, t, ⟨ho, hx, hd⟩, ⟨el, di, me⟩, ⟨fw, fi, sz⟩, ri, le⟩ := R
  refine Calls.call_function_entry kind_sorted plain_sorted entry_sorted (args_sorted1 _) ?_
  show wpAny _ _ (do checkCount "sorted" 1 1 1; let l ← newList (← collect (.ref a)); let _ ← holding [l] (call (.builtin "list.sort") [l] []); ret l) _ _ _
  refine wpAny_bind (m := checkCount "sorted" 1 1 1) (wpAny_pure (wpAny_bind (collect_set (A := A.in1) hh ⟨o, ho, hx.1, hd⟩ fi fw ri le fun s1 vs k1 z1 g1 o1 pm => ?_)))
  obtain ⟨ks, hks, hmk⟩ := strs_kind el
  have ndk := strs_nodup di hks
  obtain ⟨qs, hS, pq⟩ := strs_perm pm hks
  have lv : vs.length = n := by rw [pm.length_eq, List.length_map, Array.length_toList]; exact sz
  refine wpAny_bind (wpAny_newList ?_ (by rw [lv, sizeLine_eq]; omega))
  have at1 : (s1.heap.push (seqObj "list" vs.toArray 0)).get? s1.heap.objs.size = some (seqObj "list" vs.toArray 0) := Heap.get?_push_size _ rfl
  refine wpAny_bind (wpAny_holding (wpAny_call_entry slot_list_sort ⟨_, at1, rfl⟩ entry_list_sort (list_sort_treeK strKind_oneLt at1 hS.keysOf (fun a b r e => keyKind_strs (by rw [← e]; exact hS)) (by omega) fun st hp hs => ⟨_, rfl, ?_⟩) (args_list_sort _)))
  obtain ⟨ys, q1, q2, q3⟩ := sorted_out_str hS hp hs
  obtain ⟨e, at2⟩ := sortedHeap_at (out := (arrOf st).map (·.2)) at1
  have py := q2.trans pq
  refine wpAny_pure ⟨_, rfl, hQ _ _ _ e ys (fun b ob hb => ?_) ⟨g1, o1⟩ z1 at2 q1 q3 (py.nodup_iff.mpr ndk) (fun z => by rw [py.mem_iff, ← hmk z, me z]) ?_⟩
  · have k2 := k1 b ob hb
    have lb := Heap.lt_size k2
    show (sortedHeap (s1.heap.push (seqObj "list" vs.toArray 0)) s1.heap.objs.size vs ((arrOf st).map (·.2))).get? b = some ob
    rw [sortedHeap_old (Nat.ne_of_lt lb) (by rw [size_push']; exact Nat.lt_succ_of_lt lb)]
    exact Heap.get?_push_of_some _ k2
  · rw [py.length_eq, ← hks.len_eq, List.length_map, Array.length_toList]
    exact sz
end
section
variable {X : Cx}
def tSortSet (K : PySem.W.Frag) (te : TE) : TE := fun σ H Q => te σ H fun x H1 => ∃ (l : Addr) (ks : List Str), x = .ref l ∧ SqL K H1 l (ks.map V.str) ∧ ks.length < 64 ∧ ∀ p H' (ys : List Str), Same H1 H' → H1 p = none → H' p = some (.lst (ys.map V.str)) → sortedS ys = true → ys.Nodup → (∀ z, z ∈ ys ↔ z ∈ ks) → ys.length ≤ ks.length → Q (.ref p) H'
theorem pe_sortSet {e : Expr} {te : TE} {p1 p2 p3 p4 : Pos} (hc : X.calm = true) (hg : Gl X "sorted") (hm : X.mg "sorted" = none) (hg2 : Gl X "set") (hm2 : X.mg "set" = none) (he : PE X e te)
    (one : starEach [e] X.env = (false, eval e X.env) :: starEach [] X.env := by rfl) (two : starEach [.Call (.Name "set" p2) [e] [] p3] X.env = (false, eval (.Call (.Name "set" p2) [e] [] p3) X.env) :: starEach [] X.env := by rfl) :
    PE X (.Call (.Name "sorted" p1) [.Call (.Name "set" p2) [e] [] p3] [] p4) (tSortSet X.K te) := by
  refine ⟨fun pins s σ H Q I h => Call_ (ld_blt (u := .builtin "sorted") I hg hm (by decide +kernel) (PyProof.Rows.callWith_builtin1 (args_cons (Call_ (ld_blt (u := .type "set") I hg2 hm2 (by decide +kernel) (PyProof.Rows.callWith_type1 (args_cons (thn (he.run pins s σ H _ I h) ?_) one) one rfl))) two) two rfl))⟩
  rintro u z ⟨v, H1, J, hu, l, ks, rfl, hl, few, q⟩
  obtain rfl : u = Value.ref l := hu
  obtain ⟨its, vals, pl, small⟩ := J.list hl
  have sa := vals.strs
  have li := sa.len_eq
  refine args_nil (wk_of_list (kd := PySem.strKind X.prog X.w) ks (J.ok.hd hc) pl.isList (by rw [List.size_toArray]; exact li) (fun i v hv => ?_) (Nat.lt_of_le_of_lt (by omega : ks.length + 1 ≤ 64) (by decide +kernel)) fun h' tk c R hc' keep => args_nil ?_)
  · obtain ⟨k, t, hk, et⟩ := strs_ix sa (by simpa using hv)
    subst et
    exact ⟨k, hk, strKind_is _ _ _ _, rfl⟩
  have I1 : Inv X pins σ H1 { z with heap := h', toks := tk } := J.kept keep
  refine sorted_wk (s := { z with heap := h', toks := tk }) R (J.ok.hd hc) (by omega) fun s' p out cc ys k ⟨g, o⟩ hp hg' hi hs hn hm' hl' => ?_
  have ln : (ys.map V.str).length ≤ sizeLine := by rw [List.length_map, hl', sizeLine_eq]; omega
  have nf : H1 p = none := I1.hok.fresh hp
  have I2 : Inv X pins σ (upd H1 p (.lst (ys.map V.str))) { { z with heap := h', toks := tk } with heap := s'.heap, gens := s'.gens, drawn := s'.drawn, toks := s'.toks } :=
    I1.call (ch := []) (Un.laid k hp nf) (I1.hok.laid k hp ⟨ln, out.toList, cc, vals_of_strs hi, hg'⟩) (by rw [g]; exact I1.bare) (fun _ z => nomatch z)
  have es : s' = { { z with heap := h', toks := tk } with heap := s'.heap, gens := s'.gens, drawn := s'.drawn, toks := s'.toks } := by
    cases s'
    cases o
    rfl
  rw [es]
  exact ⟨.ref p, _, I2, rfl, q p _ ys (same_new nf) nf upd_same hs hn (fun z => by rw [hm' z, decide_eq_true_eq]) (by omega)⟩
end
end FS

set_option Elab.async false
set_option linter.all false
set_option maxRecDepth 100000
set_option maxHeartbeats 4000000
/-! iter of a tuple; a for over an own instance whose __iter__ hands back such. -/
namespace FS
open PySem PySem.Spec PyProof.Rows L2 ItX
/-- at it a new iterator over the tuple at l -/
def ItT (l it : Addr) : HO := .ext fun h => h.IsTupleIter it l 0
theorem itT_ok {P : Program} {w : World} {H : Hp} {h : Heap} {l it : Addr} (e : h.IsTupleIter it l 0) : ObjOk P w H h it (ItT l it) := by
  obtain ⟨o, a, b⟩ := e
  exact ⟨⟨o, a, b⟩, ⟨o, a⟩, fun h1 h2 ⟨o', a', b'⟩ k => ⟨o', k _ a', b'⟩⟩
section
variable {prog : Program} {w : World} {A : Around} {E : Value → Shared → Prop} {s : Shared} {l : Addr} {items : Array Value}
theorem call_iter_tup {Q : Value → Shared → Prop} (hl : s.heap.IsTuple l items) (h : Q (.ref s.heap.objs.size) { s with heap := s.heap.push { cls := .type "tuple_iterator", data := .fields #[.ref l, .int 0 0] } }) : wpAny (model prog w) A (call (.builtin "iter") [.ref l]) Q E s := by
  refine Calls.call_function_entry (by decide +kernel) (by decide +kernel) PySem.W.kdk_entry_iter (PySem.W.kdk_args_iter _) ?_
  unfold Builtin.«iter»
  refine wpAny_bind (m := someArgs "iter" 1 2 _) (wpAny_of_eq (a := [Value.ref l]) (by first | rfl | kernel_rfl!) ?_)
  show wpAny _ _ (pyIter (.ref l) >>= _) _ _ _
  refine wpAny_bind (wpAny_pyIter_tuple hl ?_)
  exact wpAny_pure ⟨_, rfl, h⟩
end
/-- a def whose promise may speak of how many objects stood when it was called -/
structure FnN (P : Program) (w : World) (K : PySem.W.Frag) (mg : Str → Option Value) (base : Heap) (k : Nat) (f : Addr) (fd : FuncData) (ps : List Str) (sp : Nat → Sp) : Prop where
  len : ∀ n vs H Q E, sp n vs H Q E → vs.length = ps.length
  run : ∀ (A : Around) (out1 : List Env) (st1 : Shared) (H : Hp) (args : Args) (us : List Value) (vs : List V) (Q : VK) (E : XK), Room k A → Env0 P w K mg base A out1 st1 H → BindsTo st1 fd args (ps.zip us) → Vals vs us → sp st1.heap.objs.size vs H Q E →
    codeAny (model P w) A (.call (.ref f) args) (CR CX0 out1 P w H st1 Q E) st1
section
variable {P : Program} {w : World} {K : PySem.W.Frag} {mg : Str → Option Value} {base : Heap}
theorem okN {x qual : Str} {st : Stmt} {f : Addr} {fd : FuncData} {N ps : List Str} {k : Nat} {sp : Nat → Sp} (F : Fun K x qual st f fd) (S : FnScope N ps (defScope st)) (hlen : ∀ n vs H Q E, sp n vs H Q E → vs.length = ps.length)
    (hbd : ∀ (cdv : Value) (A : Around) (out1 : List Env) (st1 : Shared) (H : Hp) (vs : List V) (Q : VK) (E : XK), Room k (A.deeper (envOfC qual (defScope st) st1.heap.objs.size f cdv)) → sp st1.heap.objs.size vs H Q E →
      ∃ t, PSs (cxOf CX0 P w K mg base N qual (defScope st) f cdv A out1 st1 H E).nox (defBody st) t ∧ t { nx := fun _ H' => Q .non H', rt := Q } (start N vs) H) : FnN P w K mg base (k + 1) f fd ps sp := by
  obtain ⟨oc, od, kV, doc, pm, an, cdv, ct, osl, rfl, lk, hcd⟩ := F.ex
  refine ⟨hlen, fun A out1 st1 H args us vs Q E hr1 en0 hb1 rv1 hsp1 => ?_⟩
  have hl1 := hlen _ _ _ _ _ hsp1
  have KX1 : K.In st1.heap := en0.mod.kin.keeps fun b1 o1 e1 => (en0.bs b1 o1 e1).1
  have lim1 : st1.heap.NoLimit := en0.mod.nolimit.keeps fun b1 o1 e1 => (en0.bs b1 o1 e1).1
  have hknd : ∀ y1 ∈ ps.zip us, (defScope st).names.lookup y1.1 = some .local ∨ ((defScope st).names.lookup y1.1 = some .cell ∧ ((cellsFrom (st1.heap.objs.size + 1) (defScope st).names []).lookup y1.1).isSome = true) := fun ⟨n1, v1⟩ hy1 => by
    rcases S.par n1 (List.of_mem_zip hy1).1 with q1 | q1
    · exact .inl q1
    · exact .inr ⟨q1, PySem.W.cellsFrom_some _ _ _ (.inl q1)⟩
  refine codeAny_call_function hr1.depth (KX1 _ _ lk) rfl S.co S.gen rfl (PySem.W.codeRec_of KX1 hcd) (hb1 _ _ _ _ ?_)
  refine wpAny_newFunctionEnv_cells S.kind hknd fun env1 he1 st2 x1 => ?_
  subst he1; refine ⟨lim1.keeps x1.toInCall.keep, codeAny_func ?_⟩
  obtain ⟨t, ht0, hq1⟩ := hbd cdv A out1 st1 H vs Q E (hr1.deeper _) hsp1
  have ht := ht0.nox
  have I1 : Inv (cxOf CX0 P w K mg base N qual (defScope st) f cdv A out1 st1 H E) [] (start N vs) H st2 := inv_start S hr1.hd en0 hl1 rv1 x1
  refine wpAny_mono (ht.run [] st2 (start N vs) H _ I1 hq1) (fun fl st3 hs1 => ?_) fun _ st3 hs1 => hs1
  have done1 : ∀ {σ1 : L2.St} {H1 : Hp} {v : V} {u : Value}, Inv (cxOf CX0 P w K mg base N qual (defScope st) f cdv A out1 st1 H E) [] σ1 H1 st3 → RelV v u → Q v H1 → CE out1 P w H st1 Q u st3 :=
    fun {σ1 H1 v u} J1 rv q1 => ⟨v, H1, J1.os, J1.bare, J1.base, J1.hok, rv, q1⟩
  cases fl with
  | ret u => obtain ⟨v, σ1, H1, J1, rv, q1⟩ := hs1; exact done1 J1 rv q1
  | next => obtain ⟨σ1, H1, J1, q1⟩ := hs1; exact done1 (v := V.non) (u := Value.none) J1 rfl q1
  | brk => obtain ⟨_, _, _, q1⟩ := hs1; exact False.elim q1
  | cont => obtain ⟨_, _, _, q1⟩ := hs1; exact False.elim q1
end
section
variable {X : Cx}
def rIterT (K : PySem.W.Frag) (n : Nat) : List V → Hp → VK → Prop := fun xs H Q => ∃ (l : Addr) (zs : List V), xs = [.ref l] ∧ SqT K H l zs ∧ ∀ it, H it = none → n ≤ it → Q (.ref it) (upd H it (ItT l it))
theorem call_iterT : CallR X (.builtin "iter") (rIterT X.K X.s_0.heap.objs.size) := by
  intro pins s σ H xs us Q I r h
  obtain ⟨l, zs, rfl, hq, q⟩ := h
  obtain ⟨u, rfl, ru⟩ := vals1 r
  cases ru
  obtain ⟨its, rv, p, hz⟩ := I.tuple hq
  refine call_iter_tup (show s.heap.IsTuple l its.toArray from p) ?_
  exact ⟨.ref s.heap.objs.size, _, I.laid (t' := s.toks) (fun b u e => Heap.get?_push_of_some _ e) (Nat.le_refl _) (itT_ok ⟨_, Heap.get?_push_size _ rfl, rfl, rfl⟩), rfl, q _ (I.hok.fresh (Nat.le_refl _)) I.sz⟩
/-- what an __iter__ promises that hands back iter(self.f), a tuple of zs -/
def spIt (K : PySem.W.Frag) (C : Addr) (f : Str) (n : Nat) : Sp := fun vs H Q _ => ∃ m dx fs l zs, vs = [.ref m] ∧ H m = some (.ins C dx fs) ∧ fs.lookup f = some (.ref l) ∧ SqT K H l zs ∧ ∀ it, H it = none → n ≤ it → Q (.ref it) (upd H it (ItT l it))
/-- a for over an own instance with such an __iter__ -/
def iOwn (K : PySem.W.Frag) (C : Addr) (f : Str) (te : TE) : TI := fun σ H R => te σ H fun x H1 => ∃ m dx fs l zs, x = .ref m ∧ H1 m = some (.ins C dx fs) ∧ fs.lookup f = some (.ref l) ∧ SqT K H1 l zs ∧ R (Itt K l) H1
theorem pi_own {tg e : Expr} {te : TE} {C g : Addr} {f : Str} {fd : FuncData} {ps : List Str} {k : Nat} (he : PE X e te) (hit : PySem.W.findIn X.K (.ref C) "__iter__" = some (some (.ref g))) (hif : PySem.W.isFn X.K (.ref g) = true)
    (F : FnN X.prog X.w X.K X.mg X.base k g fd ps (spIt X.K C f)) (b : Binds X.K fd ps []) (hr : Room k X.A) (hx : Passes CX0 X (fun _ _ _ => False)) : PI X tg e (iOwn X.K C f te) := by
  refine ⟨fun pins s σ H R I h => ?_⟩
  refine thn (he.run pins s σ H _ I h) fun v s1 ⟨x, H1, I1, r1, m, dx, fs, l, zs, ex, hm, hf, hz, q0⟩ => ?_
  subst ex
  cases r1
  obtain ⟨mA, J, _⟩ := ins_get I1.hok hm
  obtain ⟨od, J, _⟩ := J.look
  obtain ⟨m0, hF⟩ := I1.fr
  refine PySem.W.owit_iter hF I1.ok.mod.kin J hit hif ?_
  have hsp : spIt X.K C f s1.heap.objs.size [.ref m] H1 (fun v H2 => ∃ it, v = .ref it ∧ H1 it = none ∧ s1.heap.objs.size ≤ it ∧ H2 = upd H1 it (ItT l it)) (fun _ _ _ => False) :=
    ⟨m, dx, fs, l, zs, rfl, hm, hf, hz, fun it n1 n2 => ⟨it, rfl, n1, n2, rfl⟩⟩
  have hl := F.len _ _ _ _ _ hsp
  have r2 : Vals [V.ref m] [Value.ref m] := .cons rfl .nil
  refine wpAny_call (codeAny_mono (F.run X.A X.stack s1 H1 ⟨[.ref m], []⟩ [.ref m] [.ref m] _ _ hr I1.env0 (by
    have := b s1 [.ref m] I1.kIn (by simpa using hl)
    simpa using this) r2 hsp) fun r s' hq => ?_)
  cases r with
  | error e => exact hx pins σ H1 s1 e s' I1 hq
  | ok fl =>
    cases fl with
    | next => exact False.elim hq
    | brk => exact False.elim hq
    | cont => exact False.elim hq
    | ret u =>
      obtain ⟨v, H', I2, rv, it, ev, n1, hn1, eH⟩ := I1.after hq
      subst ev
      cases rv
      subst eH
      have e1 : upd H1 it (ItT l it) it = some (ItT l it) := upd_same
      have st : s'.heap.IsTupleIter it l 0 := (I2.hok it _ e1).1
      have hn : X.s_0.heap.objs.size ≤ it := Nat.le_trans I1.sz hn1
      unfold PySem.W.OwitIt
      refine wpAny_specialOf (name := Str.ofString "__next__") st.typeIs PySem.F.slot_tuple_iterator_next.lookup ?_
      refine ⟨it, [it], _, _, dropH (upd H1 it (ItT l it)) it, rfl, inv_drop I2 e1, turn_tuple l it, st, fun b hb => ?_, ?_⟩
      · have e : b = it := by simpa using hb
        rw [e]
        exact inv_fp I2 e1 hn
      · rw [dropH_upd n1]
        exact q0
end
end FS

set_option Elab.async false
set_option linter.all false
set_option maxRecDepth 100000
set_option maxHeartbeats 4000000
/-! Comprehensions over a tuple whose values are known one by one. -/
namespace FS
open PySem PySem.Spec PyProof.Rows L2
theorem same_tup {K : PySem.W.Frag} {H H' : Hp} {a : Addr} {xs : List V} (e : Same H H') (h : SqT K H a xs) : SqT K H' a xs := by
  rcases h with (h | ⟨o, h⟩) | h
  · exact .inl (.inl (e _ _ h))
  · exact .inl (.inr ⟨o, e _ _ h⟩)
  · exact .inr h
section
variable {X : Cx} {e : Expr} {K : PySem.W.Frag}
/-- [e for x in t], t a tuple: the values are ws, and making them changes nothing that stood -/
def tCW (K : PySem.W.Frag) (tl te : TE) (j : Nat) : TE := fun σ H Q => tl σ H fun x H1 => ∃ (l : Addr) (xs ws : List V), x = .ref l ∧ SqT K H1 l xs ∧ xs.length ≤ 1000 ∧ j < σ.length ∧ ws.length = xs.length ∧
  (∀ (i : Nat) (x v : V) (τ : L2.St) (H2 : Hp) (Q' : VK), xs[i]? = some x → ws[i]? = some v → Same H1 H2 → τ[j]? = some (some x) → (∀ H3, Same H2 H3 → Q' v H3) → te τ H2 Q') ∧ ∀ D H', Same H1 H' → H1 D = none → H' D = some (.lst ws) → Q (.ref D) H'
theorem cw_of {tl te : TE} {j : Nat} (hm : ∀ σ H (Q Q' : VK), (∀ v H, Q v H → Q' v H) → tl σ H Q → tl σ H Q') (σ : L2.St) (H : Hp) (Q : VK) (h : tCW K tl te j σ H Q) : tLc (iTup K tl) (gName j) tYes te [j] σ H Q := by
  refine hm σ H _ _ (fun x H1 hx => ?_) h
  obtain ⟨l, xs, ws, ex, hl, hz, hj, lw, hv, q⟩ := hx
  refine ⟨l, ex, ⟨xs, hl⟩, fun D hD => ?_⟩
  refine lc_tup (xs := xs) (fun i H' => Same H1 H' ∧ H' D = some (.lst (ws.take i))) ⟨same_new hD, upd_same⟩ (fun _ _ _ h => same_tup h.1 hl) (fun i x H2 hx hh => ?_) (fun H2 hh => ?_)
  · obtain ⟨s2, e2⟩ := hh
    have hi : i < xs.length := (List.getElem?_eq_some_iff.mp hx).1
    have hwi : ws[i]? = some (ws[i]'(by omega)) := List.getElem?_eq_getElem (by omega)
    refine ⟨by simp [wipe], hv i x _ _ H2 _ hx hwi s2 (by simp [wipe, hj]) fun H3 s3 => ⟨_, s3 _ _ e2, ?_, fun b o eb => ?_, ?_⟩⟩
    · rw [List.length_take]
      exact small1000 (by omega)
    · rw [upd_ne (ne_of_none eb hD)]
      exact s3 _ _ (s2 _ _ eb)
    · rw [upd_same, List.take_add_one, hwi]
      rfl
  · obtain ⟨s2, e2⟩ := hh
    refine q D H2 s2 hD ?_
    rw [e2, ← lw, List.take_length]
theorem pe_cw {tl te : TE} {j : Nat} (h : PE X e (tLc (iTup K tl) (gName j) tYes te [j])) (hm : ∀ σ H (Q Q' : VK), (∀ v H, Q v H → Q' v H) → tl σ H Q → tl σ H Q') : PE X e (tCW K tl te j) := pe_imp h fun σ H Q q => cw_of hm σ H Q q
/-- the same over a list -/
def tCWl (K : PySem.W.Frag) (tl te : TE) (j : Nat) : TE := fun σ H Q => tl σ H fun x H1 => ∃ (l : Addr) (xs ws : List V), x = .ref l ∧ SqL K H1 l xs ∧ xs.length ≤ 1000 ∧ j < σ.length ∧ ws.length = xs.length ∧
  (∀ (i : Nat) (x v : V) (τ : L2.St) (H2 : Hp) (Q' : VK), xs[i]? = some x → ws[i]? = some v → Same H1 H2 → τ[j]? = some (some x) → (∀ H3, Same H2 H3 → Q' v H3) → te τ H2 Q') ∧ ∀ D H', Same H1 H' → H1 D = none → H' D = some (.lst ws) → Q (.ref D) H'
theorem cwl_of {tl te : TE} {j : Nat} (hm : ∀ σ H (Q Q' : VK), (∀ v H, Q v H → Q' v H) → tl σ H Q → tl σ H Q') (σ : L2.St) (H : Hp) (Q : VK) (h : tCWl K tl te j σ H Q) : tLc (iList K tl) (gName j) tYes te [j] σ H Q := by
  refine hm σ H _ _ (fun x H1 hx => ?_) h
  obtain ⟨l, xs, ws, ex, hl, hz, hj, lw, hv, q⟩ := hx
  refine ⟨l, ex, ⟨xs, hl⟩, fun D hD => ?_⟩
  refine lc_list (xs := xs) (fun i H' => Same H1 H' ∧ H' D = some (.lst (ws.take i))) ⟨same_new hD, upd_same⟩ (fun _ _ _ h => h.1.seq hl) (fun i x H2 hx hh => ?_) (fun H2 hh => ?_)
  · obtain ⟨s2, e2⟩ := hh
    have hi : i < xs.length := (List.getElem?_eq_some_iff.mp hx).1
    have hwi : ws[i]? = some (ws[i]'(by omega)) := List.getElem?_eq_getElem (by omega)
    refine ⟨by simp [wipe], hv i x _ _ H2 _ hx hwi s2 (by simp [wipe, hj]) fun H3 s3 => ⟨_, s3 _ _ e2, ?_, fun b o eb => ?_, ?_⟩⟩
    · rw [List.length_take]
      exact small1000 (by omega)
    · rw [upd_ne (ne_of_none eb hD)]
      exact s3 _ _ (s2 _ _ eb)
    · rw [upd_same, List.take_add_one, hwi]
      rfl
  · obtain ⟨s2, e2⟩ := hh
    refine q D H2 s2 hD ?_
    rw [e2, ← lw, List.take_length]
theorem pe_cwl {tl te : TE} {j : Nat} (h : PE X e (tLc (iList K tl) (gName j) tYes te [j])) (hm : ∀ σ H (Q Q' : VK), (∀ v H, Q v H → Q' v H) → tl σ H Q → tl σ H Q') : PE X e (tCWl K tl te j) := pe_imp h fun σ H Q q => cwl_of hm σ H Q q
theorem mono_var {i : Nat} : ∀ (σ : L2.St) (H : Hp) (Q Q' : VK), (∀ v H, Q v H → Q' v H) → tVar i σ H Q → tVar i σ H Q' := fun σ H Q Q' k h => by
  obtain ⟨v, h1, h2⟩ := h
  exact ⟨v, h1, k _ _ h2⟩
end
def rLenQ (K : PySem.W.Frag) : List V → Hp → VK → Prop := fun xs H Q => ∃ p ys, xs = [.ref p] ∧ (SqL K H p ys ∨ SqT K H p ys) ∧ Q (.int ys.length) H
def rListS (K : PySem.W.Frag) : List V → Hp → VK → Prop := fun xs H Q => ∃ p ys, xs = [.ref p] ∧ (SqL K H p ys ∨ SqT K H p ys) ∧ ∀ l H', Same H H' → H l = none → H' l = some (.lst ys) → Q (.ref l) H'
def rSortT (K : PySem.W.Frag) : List V → Hp → VK → Prop := fun vs H Q => ∃ (a : Addr) (xs : List Str), vs = [V.ref a] ∧ SqT K H a (xs.map V.str) ∧ xs.length < 64 ∧ ∀ (ys : List Str) (p : Addr) (H' : Hp), ys.Perm xs → sortedS ys = true → Same H H' → H p = none → H' p = some (.lst (ys.map V.str)) → Q (.ref p) H'
def rSortL (K : PySem.W.Frag) : List V → Hp → VK → Prop := fun vs H Q => ∃ (a : Addr) (xs : List Str), vs = [V.ref a] ∧ SqL K H a (xs.map V.str) ∧ xs.length < 64 ∧ ∀ (ys : List Str) (p : Addr) (H' : Hp), ys.Perm xs → sortedS ys = true → Same H H' → H p = none → H' p = some (.lst (ys.map V.str)) → Q (.ref p) H'
theorem eqv_txs : ∀ (a b : List Str), PyData.eqv (.list (a.map PyData.str)) (.list (b.map PyData.str)) = decide (a = b) := by
  have key : ∀ a b : List Str, PyData.eqvAll (a.map PyData.str) (b.map PyData.str) = decide (a = b) := by
    intro a
    induction a with
    | nil =>
      intro b
      cases b with
      | nil => simp [PyData.eqvAll]
      | cons y q => simp [PyData.eqvAll]
    | cons x r ih =>
      intro b
      cases b with
      | nil => simp [PyData.eqvAll]
      | cons y q =>
        simp only [List.map_cons, PyData.eqvAll, ih]
        by_cases e : x = y
        · subst e; simp [PyData.eqv]
        · simp [PyData.eqv, e]
  intro a b
  simp only [PyData.eqv, key]
theorem shaped_txs (a : List Str) (ha : ∀ z ∈ a, PyData.strOk z = true) : SeqAt.shaped (.list (a.map PyData.str)) = true := by
  have k1 : ∀ a : List Str, (∀ z ∈ a, PyData.strOk z = true) → PyData.canLayAll0 (a.map PyData.str) = true := by
    intro a
    induction a with
    | nil => simp [PyData.canLayAll0]
    | cons x r ih => intro h; simp [PyData.canLayAll0, PyData.canLay0, ih (fun z hz => h z (List.mem_cons_of_mem _ hz)), h x (List.mem_cons_self ..)]
  have k2 : ∀ a : List Str, PyData.depthAll (a.map PyData.str) = 0 := by
    intro a
    induction a with
    | nil => simp [PyData.depthAll]
    | cons x r ih => simp [PyData.depthAll, PyData.depth, ih]
  simp [SeqAt.shaped, PyData.canLay0, PyData.depth, k1 a ha, k2]
theorem dp_txs {K : PySem.W.Frag} {H : Hp} : ∀ (l : List Str), DpAll K H (l.map V.str) (l.map PyData.str)
  | [] => .nil
  | x :: r => .cons (.str x) (dp_txs r)
theorem dp_list {K : PySem.W.Frag} {H : Hp} {a : Addr} {l : List Str} (h : SqL K H a (l.map V.str)) : Dp K H (.ref a) (.list (l.map PyData.str)) := .lst h (dp_txs l)
end FS

set_option Elab.async false
set_option linter.all false
set_option maxRecDepth 100000
set_option maxHeartbeats 4000000
/-! list(reversed(a list)): a new list of what the turned one gives. -/
namespace FS
open PySem PySem.Spec PyProof.Rows L2 RT
/-- the i-th from the end -/
def TurnedBy (us : Array Value) (i : Nat) (v : Value) : Prop := us[us.size - 1 - i]? = some v
theorem list_of_turned {prog : Program} {w : World} {A : Around} {E : Value → Shared → Prop} {s : Shared} {t l : Addr} {us : Array Value} {Q : Value → Shared → Prop} (still : A.handled = none) (tIs : s.heap.IsRevIter t l ((us.size : Int) - 1)) (lIs : s.heap.IsList l us)
    (apart : l ≠ t) (fits : us.size ≤ sizeLine) (next : ∀ (g : Heap) (k : Nat) (vs : Array Value) (c : Nat), (∀ b o, b ≠ t → s.heap.get? b = some o → g.get? b = some o) → g.get? s.heap.objs.size = some ⟨.type "list", none, .seq vs c, #[]⟩ →
      ItemsOf (TurnedBy us) vs us.size → Q (.ref s.heap.objs.size) { s with heap := g, toks := k }) : wpAny (model prog w) A (call (.type "list") [.ref t]) Q E s := by
  have older : ∀ {b : Addr} {o : Obj}, s.heap.get? b = some o → b ≠ s.heap.objs.size := fun e => Nat.ne_of_lt (Heap.lt_size e)
  have t0 : t ≠ s.heap.objs.size := let ⟨_, e, _⟩ := tIs; older e
  have l0 : l ≠ s.heap.objs.size := let ⟨_, e, _⟩ := lIs; older e
  refine callType_codes (Q₁ := fun v r => v = .ref s.heap.objs.size ∧ r = { s with heap := s.heap.push ⟨.type "list", none, .seq #[] 0, #[]⟩ }) PySem.F.called_list (PySem.F.typeCall_list_1 _) PySem.F.entry_list_init (code_list_new _ ⟨rfl, rfl⟩) ?_
  rintro _ _ ⟨rfl, rfl⟩
  have laid : (s.heap.push ⟨.type "list", none, .seq #[] 0, #[]⟩).get? s.heap.objs.size = some ⟨.type "list", none, .seq #[] 0, #[]⟩ := Heap.get?_push_size _ rfl
  refine ⟨⟨_, laid, rfl⟩, PySem.F.args_list_init_2 _ _, ?_⟩
  -- the list is emptied, then it takes what the turned one gives
  show wpAny _ _ (Builtin.List.listItems (.ref s.heap.objs.size) >>= fun o => updateSeq s.heap.objs.size (fun _ => #[]) >>= fun _ => letGo o.toList.reverse >>= fun _ => Builtin.List.listExtendWith (.ref s.heap.objs.size) (.ref t) .none) _ _ _
  unfold Builtin.List.listItems
  refine wpAny_bind (wpAny_bind (wpAny_seqItems laid rfl (wpAny_pure ?_)))
  refine wpAny_bind (wpAny_updateSeq laid rfl ?_)
  refine wpAny_bind (wpAny_letGo ?_)
  have kept : ∀ b o, s.heap.get? b = some o → ((s.heap.push ⟨.type "list", none, .seq #[] 0, #[]⟩).update s.heap.objs.size (Obj.mapSeq fun _ => #[])).get? b = some o :=
    fun b o e => (Heap.get?_update_other _ _ (Ne.symm (older e))).trans (Heap.get?_push_of_some _ e)
  have empty := Heap.get?_update_self (Obj.mapSeq fun _ => (#[] : Array Value)) laid rfl
  generalize (s.heap.push ⟨.type "list", none, .seq #[] 0, #[]⟩).update s.heap.objs.size (Obj.mapSeq fun _ => #[]) = h at kept empty ⊢
  have tAt : h.IsRevIter t l ((us.size : Int) - 1) := tIs.at (kept t)
  have lAt : h.IsList l us := let ⟨o, e, r⟩ := lIs; ⟨o, kept l o e, r⟩
  have kind : ({ s with heap := h } : Shared).TypeIs (.ref t) "list_reverseiterator" := Heap.IsRevIter.typeIs (s := { s with heap := h }) tAt
  have other : Builtin.List.listSameRef (.ref s.heap.objs.size) (.ref t) = false := by
    simp [Builtin.List.listSameRef, Ne.symm t0]
  unfold Builtin.List.listExtendWith
  refine wpAny_bind (wpAny_typeOf kind ?_)
  rw [if_neg (by rw [other]; decide)]
  refine wpAny_bind (wpAny_pyIter_revIter (s := { s with heap := h }) tAt (wpAny_bind (wpAny_holding ?_)))
  unfold Builtin.List.listLengthHint
  refine wpAny_bind (wpAny_specialOf kind nolen_lri (wpAny_bind (m := specialOf (Value.ref t) (Str.ofString "__length_hint__")) (wpAny_specialOf kind hint_lri ?_)))
  have cutId : splitId "list_reverseiterator.__length_hint__" = some ("list_reverseiterator", "__length_hint__") := by decide +kernel
  generalize back : ("list_reverseiterator.__length_hint__" : String) = id0 at cutId ⊢
  wp_delta
  rw [cutId]
  subst back
  refine wpAny_bind (wpAny_isInstance (b := true) kind (by rw [isSubtype_type]; kernel_rfl) ?_)
  refine wpAny_pure ?_
  rw [if_neg (by decide)]
  have free : s.heap.objs.size ∉ [t, l] := by simp [Ne.symm t0, Ne.symm l0]
  refine wpAny_pure ⟨plainId_quiet F.plain_extend_loop _, codeAny_extend_loopS (Walks.listRev (A := A.in1.in1) still t l apart us).toS fits _ free _ us.size 0 _ _ _ rfl (Nat.zero_le _) ⟨Nat.zero_le _, by rw [show ((us.size : Nat) : Int) - 1 - ((0 : Nat) : Int) = (us.size : Int) - 1 by omega]; exact tAt, lAt⟩ empty (ItemsOf.nil _) ?_⟩
  intro r vs c moved there items
  rw [Moved.eq_with moved]
  exact ⟨rfl, next r.heap r.toks vs c (fun b o nb e => moved.heap b o (by simp [older e, nb]) (kept b o e)) there items⟩
section
variable {X : Cx}
/-- list(reversed(x)), x a list: a new list -/
def tLstRev (K : PySem.W.Frag) (te : TE) : TE := fun σ H Q => te σ H fun v H1 => ∃ (a : Addr) (xs : List V), v = .ref a ∧ SqL K H1 a xs ∧ ∀ q H2, Same H1 H2 → H1 q = none → H2 q = some (.lst xs.reverse) → Q (.ref q) H2
theorem pe_lstRevK {K : PySem.W.Frag} {e : Expr} {te : TE} {p p2 pos pos2 : Pos} (hc : X.calm = true) (hg : Gl X "list") (hm : X.mg "list" = none) (hg2 : Gl X "reversed") (hm2 : X.mg "reversed" = none) (he : PE X e te) (hK : X.K = K := by rfl)
    (one : starEach [e] X.env = (false, eval e X.env) :: starEach [] X.env := by rfl)
    (two : starEach [.Call (.Name "reversed" p2) [e] [] pos2] X.env = (false, eval (.Call (.Name "reversed" p2) [e] [] pos2) X.env) :: starEach [] X.env := by rfl) :
    PE X (.Call (.Name "list" p) [.Call (.Name "reversed" p2) [e] [] pos2] [] pos) (tLstRev K te) := by
  subst hK
  refine ⟨fun pins s σ H Q I h => Call_ (ld_blt I hg hm (by decide +kernel : bootBuiltins "list" = some (.type "list")) (PyProof.Rows.callWith_type1 (args_cons (Call_ (ld_blt I hg2 hm2 PyProof.Rows.boot_reversed (PyProof.Rows.callWith_type1 (args_cons (thn (he.run pins s σ H _ I h) ?_) one) one rfl))) two) two rfl))⟩
  rintro u z ⟨v, H1, J, hu, a, xs, rfl, hx, q⟩
  obtain rfl : u = Value.ref a := hu
  obtain ⟨its, vals, pl, small⟩ := J.list hx
  refine args_nil (call_reversed_list pl.isList (args_nil ?_))
  generalize hn : its.toArray.size = n
  have len : n = xs.length := by rw [← hn, List.size_toArray, vals.length]
  have push : ∀ b o, z.heap.get? b = some o → (z.heap.push (revObj a ((n : Int) - 1))).get? b = some o := fun _ _ => Heap.get?_push_of_some _
  have J2 : Inv X pins σ H1 { z with heap := z.heap.push (revObj a ((n : Int) - 1)) } := J.kept (t' := z.toks) push
  obtain ⟨w0, w1, _, w3, w4, w5⟩ := J.fpOk (H' := H1) (b := z.heap.objs.size) (Nat.le_refl _) (J.hok.fresh (Nat.le_refl _))
  have src := pl.isList
  have apart : a ≠ z.heap.objs.size := let ⟨_, ho, _⟩ := src; Nat.ne_of_lt (Heap.lt_size ho)
  refine list_of_turned (s := { z with heap := z.heap.push (revObj a ((n : Int) - 1)) }) (J.ok.hd hc) (by rw [hn]; exact ⟨_, Heap.get?_push_size _ rfl, rfl, rfl⟩) (src.push _) apart (by rw [hn, len]; exact small) fun g k vs c keep there items => ?_
  -- the new list's address stands free while the turned one goes
  generalize hd : (z.heap.push (revObj a ((n : Int) - 1))).objs.size = d at there
  have dn : H1 d = none := by rw [← hd]; exact J2.hok.fresh (Nat.le_refl _)
  obtain ⟨G, g1, g2⟩ := restrict g fun b => decide (b ≠ d)
  have J3 : Inv X pins σ H1 { z with heap := G, toks := k } := J2.turned (t' := k) (fun b o nb e => (g1 b (decide_eq_true (by rw [← hd]; exact Nat.ne_of_lt (Heap.lt_size e)))).trans (keep b o nb e)) w0 w1 w3 w4 w5
  have back : ∀ b o, G.get? b = some o → g.get? b = some o := fun b o e => by
    by_cases nb : b = d
    · rw [g2 b (decide_eq_false fun y => y nb)] at e
      cases e
    · exact (g1 b (decide_eq_true nb)).symm.trans e
  refine ⟨.ref d, upd H1 d (.lst xs.reverse), J3.laidN (t' := k) back (g2 _ (decide_eq_false fun y => y rfl)) dn ?_, rfl, q _ _ (same_new dn) dn upd_same⟩
  exact ⟨by rw [List.length_reverse]; exact small, vs.toList, c, vals_rev vals items, by rw [Array.toArray_toList]; exact there⟩
end
end FS

set_option Elab.async false
set_option linter.all false
set_option maxRecDepth 100000
set_option maxHeartbeats 4000000
/-! Comprehensions whose values are new lists or tuples. -/
namespace FS
open PySem PySem.Spec PyProof.Rows L2
/-- what an iterator gives, as long as what stood stands -/
def Runs (J : It) (xs : List V) (H1 : Hp) : Prop := (∀ i H, i < xs.length → Same H1 H → J.go i H) ∧ (∀ H, Same H1 H → J.stop xs.length H) ∧ ∀ i x H H', Same H1 H → J.yld i H x H' → H' = H ∧ xs[i]? = some x
theorem runs_list {K : PySem.W.Frag} {a : Addr} {xs : List V} {H1 : Hp} (h : SqL K H1 a xs) : Runs (Itl K a) xs H1 :=
  ⟨fun i H hi s => ⟨xs, _, s.seq h, List.getElem?_eq_getElem hi⟩, fun H s => ⟨xs, s.seq h, Nat.le_refl _⟩, fun i x H H' s y => ⟨y.1, y.2 xs (s.seq h)⟩⟩
theorem runs_tup {K : PySem.W.Frag} {a : Addr} {xs : List V} {H1 : Hp} (h : SqT K H1 a xs) : Runs (Itt K a) xs H1 :=
  ⟨fun i H hi s => ⟨xs, _, same_tup s h, List.getElem?_eq_getElem hi⟩, fun H s => ⟨xs, same_tup s h, Nat.le_refl _⟩, fun i x H H' s y => ⟨y.1, y.2 xs (same_tup s h)⟩⟩
theorem runs_vals {d : Addr} {o : Obj} {kvs : List (Key × V)} {H1 : Hp} (h : H1 d = some (.frz o (.dK kvs))) : Runs (Itd d o kvs) (kvs.map (·.2)) H1 :=
  ⟨fun i H hi s => ⟨s _ _ h, by rw [List.length_map] at hi; exact hi⟩, fun H s => ⟨s _ _ h, by rw [List.length_map]; exact Nat.le_refl _⟩, fun i x H H' s y => ⟨y.1, by
    obtain ⟨k, hk⟩ := y.2
    rw [List.getElem?_map, hk]
    rfl⟩⟩
/-- y is a cell with o -/
def Made {α : Type} (C : α → HO) (H : Hp) (o : α) (y : V) : Prop := ∃ r, y = .ref r ∧ H r = some (C o)
theorem Made.mono {α : Type} {C : α → HO} {H H' : Hp} {o : α} {y : V} (h : Made C H o y) (s : Same H H') : Made C H' o y := by
  obtain ⟨r, e, h⟩ := h
  exact ⟨r, e, s _ _ h⟩
theorem mades {α : Type} {C : α → HO} {H H' : Hp} {os : List α} {ys : List V} (h : Paired (Made C H) os ys) (s : Same H H') : Paired (Made C H') os ys := Paired.mono (fun _ _ m => m.mono s) h
theorem made_at {α : Type} {C : α → HO} {H : Hp} : ∀ {os : List α} {ys : List V}, Paired (Made C H) os ys → ∀ {i : Nat} {y : V}, ys[i]? = some y → ∃ o, os[i]? = some o ∧ Made C H o y
  | _, _, .nil, i, y, h => by cases h
  | _, _, .cons a t, 0, y, h => ⟨_, rfl, by cases h; exact a⟩
  | _, _, .cons a t, i + 1, y, h => made_at t h
section
variable {X : Cx} {e : Expr} {K : PySem.W.Frag}
theorem cn_at {α : Type} {C : α → HO} {J : It} {te : TE} {j : Nat} {σ : L2.St} {H1 : Hp} {Qd : Hp → Prop} {D : Addr} (hD : H1 D = none) (xs : List V) (os : List α) (hr : Runs J xs H1) (hz : xs.length ≤ 1000) (hj : j < σ.length) (lo : os.length = xs.length)
    (hv : ∀ (i : Nat) (x : V) (o : α) (τ : L2.St) (H2 : Hp) (Q' : VK), xs[i]? = some x → os[i]? = some o → Same H1 H2 → τ[j]? = some (some x) → (∀ H3 r, Same H2 H3 → H2 r = none → H3 r = some (C o) → Q' (.ref r) H3) → te τ H2 Q')
    (q : ∀ H' ys, Same H1 H' → H' D = some (.lst ys) → Paired (Made C H') os ys → Qd H') :
    ∃ W : Nat → Nat → Hp → Prop, (∃ m, W 0 m (upd H1 D (.lst []))) ∧ ∀ i m H, W i m H →
      (J.stop i H ∧ Qd H) ∨ (J.go i H ∧ ∃ Nx : Hp → Prop, (∀ H', Nx H' → ∃ m', m' < m ∧ W (i + 1) m' H') ∧ ∀ x H', J.yld i H x H' → gName j x (wipe σ [j]) H' fun σ2 H2 => wipe σ2 [j] = wipe σ [j] ∧ tYes σ2 H2 fun b H3 =>
        if b = true then te σ2 H3 fun y H4 => ∃ acc, H4 D = some (.lst acc) ∧ acc.length < sizeLine ∧ Nx (upd H4 D (.lst (acc ++ [y]))) else Nx H3) := by
  refine ⟨fun i m H => m = xs.length - i ∧ i ≤ xs.length ∧ Same H1 H ∧ ∃ ys, H D = some (.lst ys) ∧ Paired (fun o y => ∃ r, y = .ref r ∧ r ≠ D ∧ H r = some (C o)) (os.take i) ys,
    ⟨xs.length, by simp, Nat.zero_le _, same_new hD, [], upd_same, .nil⟩, ?_⟩
  rintro i m H ⟨rfl, hi, s, ys, eD, py⟩
  by_cases hlt : i < xs.length
  · have ho : os[i]? = some (os[i]'(by omega)) := List.getElem?_eq_getElem (by omega)
    refine .inr ⟨hr.1 i H hlt s, fun H' => i + 1 ≤ xs.length ∧ Same H1 H' ∧ ∃ ys, H' D = some (.lst ys) ∧ Paired (fun o y => ∃ r, y = .ref r ∧ r ≠ D ∧ H' r = some (C o)) (os.take (i + 1)) ys, fun H' p' => ⟨xs.length - (i + 1), by omega, rfl, p'.1, p'.2⟩, fun x H' y => ?_⟩
    obtain ⟨rfl, hx⟩ := hr.2.2 i x H H' s y
    refine ⟨by simp [wipe], hv i x _ _ _ _ hx ho s (by simp [wipe, hj]) fun H3 r s3 nr er => ⟨ys, s3 _ _ eD, ?_, hlt, ?_, ys ++ [.ref r], upd_same, ?_⟩⟩
    · rw [← py.length, List.length_take]
      exact small1000 (by omega)
    · intro b o eb
      rw [upd_ne (ne_of_none eb hD)]
      exact s3 _ _ (s _ _ eb)
    · have nrD : r ≠ D := fun z => by rw [z, eD] at nr; cases nr
      rw [List.take_add_one, ho]
      refine Paired.snoc (Paired.mono (fun o y m => ?_) py) ⟨r, rfl, nrD, by rw [upd_ne nrD]; exact er⟩
      obtain ⟨r', e', n', h'⟩ := m
      exact ⟨r', e', n', by rw [upd_ne n']; exact s3 _ _ h'⟩
  · have e : i = xs.length := by omega
    subst e
    refine .inl ⟨hr.2.1 H s, q H ys s eD ?_⟩
    rw [← lo, List.take_length] at py
    exact Paired.mono (fun o y ⟨r, e', _, h'⟩ => ⟨r, e', h'⟩) py
theorem cn_core {α : Type} {C : α → HO} {J : It} {te : TE} {j : Nat} {σ : L2.St} {H1 : Hp} {Q : VK} (xs : List V) (os : List α) (hr : Runs J xs H1) (hz : xs.length ≤ 1000) (hj : j < σ.length) (lo : os.length = xs.length)
    (hv : ∀ (i : Nat) (x : V) (o : α) (τ : L2.St) (H2 : Hp) (Q' : VK), xs[i]? = some x → os[i]? = some o → Same H1 H2 → τ[j]? = some (some x) → (∀ H3 r, Same H2 H3 → H2 r = none → H3 r = some (C o) → Q' (.ref r) H3) → te τ H2 Q')
    (q : ∀ D H' ys, Same H1 H' → H1 D = none → H' D = some (.lst ys) → Paired (Made C H') os ys → Q (.ref D) H') :
    ∀ D, H1 D = none → ∃ W : Nat → Nat → Hp → Prop, (∃ m, W 0 m (upd H1 D (.lst []))) ∧ ∀ i m H, W i m H →
      (J.stop i H ∧ Q (.ref D) H) ∨ (J.go i H ∧ ∃ Nx : Hp → Prop, (∀ H', Nx H' → ∃ m', m' < m ∧ W (i + 1) m' H') ∧ ∀ x H', J.yld i H x H' → gName j x (wipe σ [j]) H' fun σ2 H2 => wipe σ2 [j] = wipe σ [j] ∧ tYes σ2 H2 fun b H3 =>
        if b = true then te σ2 H3 fun y H4 => ∃ acc, H4 D = some (.lst acc) ∧ acc.length < sizeLine ∧ Nx (upd H4 D (.lst (acc ++ [y]))) else Nx H3) := fun D hD => cn_at hD xs os hr hz hj lo hv fun H' ys s e p => q D H' ys s hD e p
end
end FS

set_option Elab.async false
set_option linter.all false
set_option maxRecDepth 100000
set_option maxHeartbeats 4000000
/-! Slices, and tuples put together. -/
namespace FS
open PySem PySem.Spec PyProof.Rows L2
theorem cut_to (xs : List V) (k : Nat) : cutV xs none (some (k : Int)) = xs.take k := by
  unfold cutV
  rw [HT.sIx_none, HT.sIx_nat, List.drop_zero, Nat.sub_zero]
  by_cases h : k ≤ xs.length
  · rw [Nat.min_eq_left h]
  · rw [Nat.min_eq_right (by omega), List.take_length, List.take_of_length_le (by omega)]
theorem cut_from (xs : List V) (k : Nat) : cutV xs (some (k : Int)) none = xs.drop k := by
  unfold cutV
  rw [HT.sIx_none, HT.sIx_nat]
  by_cases h : k ≤ xs.length
  · rw [Nat.min_eq_left h]
    exact List.take_of_length_le (by rw [List.length_drop]; exact Nat.le_refl _)
  · rw [Nat.min_eq_right (by omega), List.drop_length, List.drop_of_length_le (by omega)]
    rw [List.take_nil]
theorem pr_take {α β : Type} {F : α → β → Prop} : ∀ {as : List α} {bs : List β} (k : Nat), Paired F as bs → Paired F (as.take k) (bs.take k)
  | _, _, 0, _ => by rw [List.take_zero, List.take_zero]; exact .nil
  | _, _, k + 1, .nil => .nil
  | _, _, k + 1, .cons a t => .cons a (pr_take k t)
theorem pr_drop {α β : Type} {F : α → β → Prop} : ∀ {as : List α} {bs : List β} (k : Nat), Paired F as bs → Paired F (as.drop k) (bs.drop k)
  | _, _, 0, h => h
  | _, _, k + 1, .nil => .nil
  | _, _, k + 1, .cons a t => pr_drop k t
theorem pr_app {α β : Type} {F : α → β → Prop} : ∀ {as : List α} {bs : List β} {cs : List α} {ds : List β}, Paired F as bs → Paired F cs ds → Paired F (as ++ cs) (bs ++ ds)
  | _, _, _, _, .nil, h => h
  | _, _, _, _, .cons a t, h => .cons a (pr_app t h)
section
variable {X : Cx}
def rCatB : R2 := fun x y H Q => ∃ a b xs ys, x = .ref a ∧ y = .ref b ∧ H a = some (.tup xs) ∧ H b = some (.tup ys) ∧ xs.length + ys.length ≤ 1000 ∧ ∀ p H', Same H H' → H' p = some (.tup (xs ++ ys)) → Q (.ref p) H'
theorem op_catB : OpR X (binaryOp .Add) rCatB := fun pins s σ H x y v u Q I rx ry ⟨a, b, xs, ys, e1, e2, h1, h2, hz, q⟩ =>
  op_catA pins s σ H x y v u Q I rx ry ⟨a, b, xs, ys, e1, e2, .inl (.inl h1), .inl (.inl h2), Nat.le_of_lt (small1000 hz), fun e => q b H (Same.refl _) (by rw [e]; exact h2), fun _ e => q a H (Same.refl _) (by rw [e, List.append_nil]; exact h1),
    fun _ _ p np => q p _ (same_new np) upd_same⟩
def rSlB : V → Option Int → Option Int → Hp → VK → Prop := fun x lo hi H Q => ∃ a xs, x = .ref a ∧ H a = some (.tup xs) ∧ ∀ p H', Same H H' → H' p = some (.tup (cutV xs lo hi)) → Q (.ref p) H'
theorem sl_tupB : SlR X rSlB := fun pins s σ H x v vl vu lo hi sl Q I rx hs pl pu ⟨a, xs, e, hx, q⟩ =>
  sl_tupA pins s σ H x v vl vu lo hi sl Q I rx hs pl pu ⟨a, xs, e, .inl (.inl hx), fun ⟨h1, h2⟩ => q a H (Same.refl _) (by
    unfold cutV
    rw [h1, h2, List.drop_zero, Nat.sub_zero, List.take_length]
    exact hx), fun _ p np => q p _ (same_new np) upd_same⟩
end
end FS

set_option Elab.async false
set_option linter.all false
set_option maxRecDepth 100000
set_option maxHeartbeats 4000000
/-! Programs: tables; the mirror of modules that are bound to one another; what these look like in memory. -/
namespace PG
open PySem PySem.Spec PyProof.Rows L2 L2.FK FS TX
/-! ### tables -/
section
variable {κ β : Type} [DecidableEq κ]
def look (l : List (κ × β)) (k : κ) : Option β := match l with
  | [] => none
  | p :: r => if p.1 = k then some p.2 else look r k
def put (l : List (κ × β)) (k : κ) (v : β) : List (κ × β) := match l with
  | [] => [(k, v)]
  | p :: r => if p.1 = k then (p.1, v) :: r else p :: put r k v
def keys (l : List (κ × β)) : List κ := l.map (·.1)
theorem look_put (l : List (κ × β)) (k j : κ) (v : β) : look (put l k v) j = if j = k then some v else look l j := by
  induction l with
  | nil =>
    show (if k = j then some v else none) = _
    by_cases e : k = j
    · rw [if_pos e, if_pos e.symm]
    · rw [if_neg e, if_neg (fun q => e q.symm)]
      rfl
  | cons p r ih =>
    unfold put
    by_cases h : p.1 = k
    · rw [if_pos h]
      show (if p.1 = j then some v else look r j) = if j = k then some v else (if p.1 = j then some p.2 else look r j)
      by_cases e : j = k
      · rw [if_pos e, if_pos (h.trans e.symm)]
      · rw [if_neg e, if_neg (fun q => e (q.symm.trans h)), if_neg (fun q => e (q.symm.trans h))]
    · rw [if_neg h]
      show (if p.1 = j then some p.2 else look (put r k v) j) = if j = k then some v else (if p.1 = j then some p.2 else look r j)
      rw [ih]
      by_cases e : j = k
      · rw [if_pos e, if_neg (fun q => h (q.trans e))]
        rw [if_pos e]
      · rw [if_neg e, if_neg e]
end
/-! ### a dict that holds a table -/
def DR {κ κ' β : Type} (ke : κ → κ') (R : β → V → Prop) : List (κ × β) → List (κ' × V) → Prop := Paired fun p kv => kv.1 = ke p.1 ∧ R p.2 kv.2
section
variable {κ κ' β : Type} [DecidableEq κ] [DecidableEq κ'] {ke : κ → κ'} {R R' : β → V → Prop}
theorem DR.mono (f : ∀ b v, R b v → R' b v) {l : List (κ × β)} {kvs : List (κ' × V)} (h : DR ke R l kvs) : DR ke R' l kvs := by
  unfold DR at h ⊢
  induction h with
  | nil => exact .nil
  | cons h _ ih => exact .cons ⟨h.1, f _ _ h.2⟩ ih
theorem DR.len {l : List (κ × β)} {kvs : List (κ' × V)} (h : DR ke R l kvs) : l.length = kvs.length := Paired.length h
theorem DR.get (inj : ∀ a b, ke a = ke b → a = b) {l : List (κ × β)} {kvs : List (κ' × V)} (h : DR ke R l kvs) {k : κ} {b : β} (e : look l k = .some b) : ∃ v, valV kvs (ke k) = .some v ∧ R b v := by
  unfold DR at h
  induction h with
  | nil => cases e
  | @cons p kv l kvs h t ih =>
    unfold look at e
    by_cases q : p.1 = k
    · rw [if_pos q] at e
      cases e
      exact ⟨kv.2, valV_pos (by rw [h.1, q]), h.2⟩
    · rw [if_neg q] at e
      rw [valV_neg (fun z => q (inj _ _ (h.1.symm.trans z)))]
      exact ih e
theorem DR.non (inj : ∀ a b, ke a = ke b → a = b) {l : List (κ × β)} {kvs : List (κ' × V)} (h : DR ke R l kvs) {k : κ} (e : look l k = .none) : valV kvs (ke k) = .none := by
  unfold DR at h
  induction h with
  | nil => rfl
  | @cons p kv l kvs h t ih =>
    unfold look at e
    by_cases q : p.1 = k
    · rw [if_pos q] at e
      cases e
    · rw [if_neg q] at e
      rw [valV_neg (fun z => q (inj _ _ (h.1.symm.trans z)))]
      exact ih e
theorem DR.isSome (inj : ∀ a b, ke a = ke b → a = b) {l : List (κ × β)} {kvs : List (κ' × V)} (h : DR ke R l kvs) (k : κ) : (valV kvs (ke k)).isSome = (look l k).isSome := by
  cases e : look l k with
  | none =>
    rw [h.non inj e]
    rfl
  | some b =>
    obtain ⟨v, e1, _⟩ := h.get inj e
    rw [e1]
    rfl
/-- no key twice -/
theorem putK_cons_pos {p : κ' × V} {r : List (κ' × V)} {k : κ'} {v : V} (h : p.1 = k) (n : ∀ q ∈ r, ¬ q.1 = k) : putK (p :: r) k v = (p.1, v) :: r := by
  unfold putK
  rw [if_pos (by simp [h]), List.map_cons, if_pos h]
  congr 1
  have : r.map (fun kv => if kv.1 = k then (kv.1, v) else kv) = r.map id := List.map_congr_left fun q hq => by rw [if_neg (n q hq)]; rfl
  rw [this, List.map_id]
theorem putK_cons_neg {p : κ' × V} {r : List (κ' × V)} {k : κ'} {v : V} (h : ¬ p.1 = k) : putK (p :: r) k v = p :: putK r k v := by
  unfold putK
  rw [List.any_cons, show decide (p.1 = k) = false from decide_eq_false h, Bool.false_or, List.map_cons, if_neg h]
  split <;> rfl
theorem DR.put (inj : ∀ a b, ke a = ke b → a = b) {l : List (κ × β)} {kvs : List (κ' × V)} (h : DR ke R l kvs) (nd : (keys l).Nodup) {k : κ} {b : β} {v : V} (r : R b v) : DR ke R (put l k b) (putK kvs (ke k) v) := by
  unfold DR at h
  induction h with
  | nil => exact .cons ⟨rfl, r⟩ .nil
  | @cons p kv l kvs h t ih =>
    have nd' : p.1 ∉ keys l ∧ (keys l).Nodup := List.nodup_cons.mp nd
    unfold PG.put
    by_cases q : p.1 = k
    · rw [if_pos q, putK_cons_pos (by rw [h.1, q])]
      · exact .cons ⟨h.1, r⟩ t
      · intro x hx ex
        apply nd'.1
        obtain ⟨i, hi⟩ := List.getElem?_of_mem hx
        have : ∀ {l : List (κ × β)} {kvs : List (κ' × V)}, Paired (fun p kv => kv.1 = ke p.1 ∧ R p.2 kv.2) l kvs → x ∈ kvs → ∃ y ∈ l, x.1 = ke y.1 := by
          intro l kvs h
          induction h with
          | nil => intro hx; cases hx
          | cons h t ih =>
            intro hx
            rcases List.mem_cons.mp hx with e | hx
            · subst e; exact ⟨_, List.mem_cons_self .., h.1⟩
            · obtain ⟨y, h1, h2⟩ := ih hx
              exact ⟨y, List.mem_cons_of_mem _ h1, h2⟩
        obtain ⟨y, hy, ey⟩ := this t hx
        rw [q, inj k y.1 (ex.symm.trans ey)]
        exact List.mem_map_of_mem hy
    · rw [if_neg q, putK_cons_neg (fun z => q (inj _ _ (h.1.symm.trans z)))]
      exact .cons h (ih nd'.2)
theorem put_mem {l : List (κ × β)} {k : κ} {v : β} {x : κ} : x ∈ keys (PG.put l k v) ↔ x ∈ keys l ∨ x = k := by
  induction l with
  | nil => simp [PG.put, keys]
  | cons p r ih =>
    unfold PG.put
    by_cases q : p.1 = k
    · rw [if_pos q]
      show x ∈ p.1 :: keys r ↔ x ∈ p.1 :: keys r ∨ x = k
      exact ⟨.inl, fun h => h.elim id fun h => by rw [h, ← q]; exact List.mem_cons_self ..⟩
    · rw [if_neg q]
      show x ∈ p.1 :: keys (PG.put r k v) ↔ x ∈ p.1 :: keys r ∨ x = k
      rw [List.mem_cons, List.mem_cons, ih, or_assoc]
theorem put_nodup {l : List (κ × β)} {k : κ} {v : β} (nd : (keys l).Nodup) : (keys (PG.put l k v)).Nodup := by
  induction l with
  | nil => simp [PG.put, keys]
  | cons p r ih =>
    have nd' : p.1 ∉ keys r ∧ (keys r).Nodup := List.nodup_cons.mp nd
    unfold PG.put
    by_cases q : p.1 = k
    · rw [if_pos q]
      exact nd
    · rw [if_neg q]
      show (p.1 :: keys (PG.put r k v)).Nodup
      refine List.nodup_cons.mpr ⟨fun m => ?_, ih nd'.2⟩
      rcases put_mem.mp m with m | m
      · exact nd'.1 m
      · exact q m
theorem put_len {l : List (κ × β)} {k : κ} {v : β} : (PG.put l k v).length ≤ l.length + 1 := by
  induction l with
  | nil => exact Nat.le_refl _
  | cons p r ih =>
    unfold PG.put
    split
    · exact Nat.le_succ _
    · rw [List.length_cons, List.length_cons]
      omega
end
/-! ### the mirror -/
abbrev MS := List (Str × ST)
structure Sc where
  al : List ((Str × Str) × Str)
  ex : List (Str × List Str)
  pc : List (Str × MP)
def dot : Str := "."
def full (m z : Str) : Str := m ++ dot ++ z
def enterAl (m : Str) (l : List ((Str × Str) × Str)) (p : Str × Str) : List ((Str × Str) × Str) := put l (m, p.1) p.2
def enterEx (m : Str) (l : List (Str × List Str)) (e : Str) : List (Str × List Str) := put l e ((look l e).getD [] ++ [m])
def enterPc (m : Str) (l : List (Str × MP)) (p : MP) : List (Str × MP) := put l (full m p.name) p
def enter (s : Sc) (m : Str) (st : ST) : Sc := ⟨st.al.foldl (enterAl m) s.al, st.ex.foldl (enterEx m) s.ex, st.ps.foldl (enterPc m) s.pc⟩
def sc0 : Sc := ⟨[], [], []⟩
def scOf (ms : MS) : Sc := ms.foldl (fun s m => enter s m.1 m.2) sc0
/-- what a module has by name -/
def hasN (st : ST) (z : Str) : Bool := (st.ps.map (·.name) ++ st.al.map (·.1)).contains z
def has (ms : MS) (m z : Str) : Bool := match look ms m with
  | some st => hasN st z
  | none => false
def exps (s : Sc) (z : Str) : List Str := (look s.ex z).getD []
def homeOf (ms : MS) (s : Sc) (m z : Str) : Option Str := if has ms m z then some m else (exps s z).find? fun o => has ms o z
/-- what a name means: by so many steps -/
def meanGo (ms : MS) (s : Sc) : Nat → List (Str × Str) → Str → Str → Option Str
  | 0, _, _, _ => none
  | n + 1, seen, m, z => if seen.contains (m, z) then none else match homeOf ms s m z with
    | none => none
    | some h => match look s.al (h, z) with
      | none => some (full h z)
      | some o => meanGo ms s n (seen ++ [(m, z)]) h o
def meaning (ms : MS) (s : Sc) (m z : Str) : Option Str := meanGo ms s (s.al.length + 2) [] m z
/-! ### in memory -/
theorem kS_inj (a b : Str) (h : (Sum.inr a : Key) = Sum.inr b) : a = b := Sum.inr.inj h
def kS (z : Str) : Key := Sum.inr z
def kT (p : Str × Str) : List Key := [Sum.inr p.1, Sum.inr p.2]
theorem kS_in (a b : Str) (h : kS a = kS b) : a = b := Sum.inr.inj h
theorem kT_in (a b : Str × Str) (h : kT a = kT b) : a = b := by
  unfold kT at h
  have h1 := (List.cons.inj h).1
  have h2 := (List.cons.inj (List.cons.inj h).2).1
  exact Prod.ext (Sum.inr.inj h1) (Sum.inr.inj h2)
/-- what stood stands; a dict may be locked -/
structure Ke (H H' : Hp) : Prop where
  tup : ∀ q xs, H q = some (.tup xs) → H' q = some (.tup xs)
  ins : ∀ q C dx fs, H q = some (.ins C dx fs) → H' q = some (.ins C dx fs)
  lst : ∀ q xs, H q = some (.lst xs) → H' q = some (.lst xs)
  dk : ∀ q kvs, Rd H q (.dK kvs) → Rd H' q (.dK kvs)
  dt : ∀ q kvs, Rd H q (.dT kvs) → Rd H' q (.dT kvs)
theorem Ke.of {H H' : Hp} (s : Same H H') : Ke H H' :=
  ⟨fun q xs e => s _ _ e, fun q C dx fs e => s _ _ e, fun q xs e => s _ _ e, fun q kvs e => e.elim (fun e => .inl (s _ _ e)) fun ⟨o, e⟩ => .inr ⟨o, s _ _ e⟩, fun q kvs e => e.elim (fun e => .inl (s _ _ e)) fun ⟨o, e⟩ => .inr ⟨o, s _ _ e⟩⟩
theorem Ke.trans {H H1 H2 : Hp} (a : Ke H H1) (b : Ke H1 H2) : Ke H H2 :=
  ⟨fun q xs e => b.tup _ _ (a.tup _ _ e), fun q C dx fs e => b.ins _ _ _ _ (a.ins _ _ _ _ e), fun q xs e => b.lst _ _ (a.lst _ _ e), fun q kvs e => b.dk _ _ (a.dk _ _ e), fun q kvs e => b.dt _ _ (a.dt _ _ e)⟩
theorem Ke.fix {CP : Addr} {H H' : Hp} (k : Ke H H') : Fix CP H H' := ⟨fun q xs e => k.tup _ _ e, fun q dx fs e => k.ins _ _ _ _ e⟩
/-- a dict is locked -/
theorem Ke.lock {H : Hp} {d : Addr} {kvs : List (Key × V)} {od : Obj} (e : H d = some (.dK kvs)) : Ke H (upd H d (.frz od (.dK kvs))) := by
  have ne : ∀ {q : Addr} {o : HO}, H q = some o → o ≠ .dK kvs → q ≠ d := fun {q o} h n z => n (by rw [z, e] at h; exact (Option.some.inj h).symm)
  refine ⟨fun q xs h => ?_, fun q C dx fs h => ?_, fun q xs h => ?_, fun q ks h => ?_, fun q ks h => ?_⟩
  · rw [upd_ne (ne h (fun z => nomatch z))]; exact h
  · rw [upd_ne (ne h (fun z => nomatch z))]; exact h
  · rw [upd_ne (ne h (fun z => nomatch z))]; exact h
  · by_cases hq : q = d
    · subst hq
      rcases h with h | ⟨o, h⟩
      · rw [e] at h
        cases h
        exact .inr ⟨od, upd_same⟩
      · rw [e] at h
        cases h
    · rcases h with h | ⟨o, h⟩
      · exact .inl (by rw [upd_ne hq]; exact h)
      · exact .inr ⟨o, by rw [upd_ne hq]; exact h⟩
  · rcases h with h | ⟨o, h⟩
    · exact .inl (by rw [upd_ne (ne h (fun z => nomatch z))]; exact h)
    · exact .inr ⟨o, by rw [upd_ne (ne h (fun z => nomatch z))]; exact h⟩
/-- .. and what came behind it, unlocked again -/
theorem unlock {H H' : Hp} {d : Addr} {u : HO} {od : Obj} (e : H d = some u) (s : Same (upd H d (.frz od u)) H') : Same H (upd H' d u) := fun b o h => by
  by_cases hb : b = d
  · subst hb
    rw [e] at h
    cases h
    exact upd_same
  · rw [upd_ne hb]
    exact s b o (by rw [upd_ne hb]; exact h)
def ModR (CM CP : Addr) (H : Hp) (st : ST) (v : V) : Prop := ∃ m dx tp te ta nd pvs avs kvs, v = .ref m ∧ H m = some (.ins CM dx (mflds (.ref tp) (.ref te) (.ref ta) (.ref nd))) ∧ H tp = some (.tup pvs) ∧ Paired (PieceAt CP H) st.ps pvs ∧ H te = some (.tup (st.ex.map V.str)) ∧
  H ta = some (.tup avs) ∧ Paired (AliAt H) st.al avs ∧ Rd H nd (.dK kvs) ∧ NamedOk kvs (st.ps.map (·.name) ++ st.al.map (·.1))
/-- .. whose dict of names is not at dp -/
def ModD (CM CP : Addr) (H : Hp) (dp : Addr) (st : ST) (v : V) : Prop := ∃ m dx tp te ta nd pvs avs kvs, v = .ref m ∧ H m = some (.ins CM dx (mflds (.ref tp) (.ref te) (.ref ta) (.ref nd))) ∧ H tp = some (.tup pvs) ∧ Paired (PieceAt CP H) st.ps pvs ∧ H te = some (.tup (st.ex.map V.str)) ∧
  H ta = some (.tup avs) ∧ Paired (AliAt H) st.al avs ∧ Rd H nd (.dK kvs) ∧ NamedOk kvs (st.ps.map (·.name) ++ st.al.map (·.1)) ∧ nd ≠ dp
theorem ModD.r {CM CP dp : Addr} {H : Hp} {st : ST} {v : V} (h : ModD CM CP H dp st v) : ModR CM CP H st v := by
  obtain ⟨m, dx, tp, te, ta, nd, pvs, avs, kvs, h0, h1, h2, h3, h4, h5, h6, h7, h8, _⟩ := h
  exact ⟨m, dx, tp, te, ta, nd, pvs, avs, kvs, h0, h1, h2, h3, h4, h5, h6, h7, h8⟩
theorem ModD.of {CM CP dp : Addr} {H0 H : Hp} {st : ST} {m : Addr} {o : HO} (h : ModAtN CM CP H0 H m st) (e : H0 dp = some o) : ModD CM CP H dp st (.ref m) := by
  obtain ⟨dx, tp, te, ta, nd, pvs, avs, kvs, h1, h2, h3, h4, h5, h6, h7, h8, h9⟩ := h
  exact ⟨m, dx, tp, te, ta, nd, pvs, avs, kvs, rfl, h1, h2, h3, h4, h5, h6, .inl h7, h8, (ne_of_none e h9).symm⟩
theorem ModD.same {CM CP dp : Addr} {H H' : Hp} (s : Same H H') {st : ST} {v : V} (h : ModD CM CP H dp st v) : ModD CM CP H' dp st v := by
  obtain ⟨m, dx, tp, te, ta, nd, pvs, avs, kvs, h0, h1, h2, h3, h4, h5, h6, h7, h8, h9⟩ := h
  have k := Ke.of s
  exact ⟨m, dx, tp, te, ta, nd, pvs, avs, kvs, h0, k.ins _ _ _ _ h1, k.tup _ _ h2, pair_mono (fun _ _ h => h.mono k.fix) h3, k.tup _ _ h4, k.tup _ _ h5, pair_mono (fun _ _ h => h.mono (CP := CP) k.fix) h6, k.dk _ _ h7, h8, h9⟩
theorem ModD.put {CM CP dp : Addr} {H : Hp} {kv0 kv1 : List (Key × V)} (e : H dp = some (.dK kv0)) {st : ST} {v : V} (h : ModD CM CP H dp st v) : ModD CM CP (upd H dp (.dK kv1)) dp st v := by
  obtain ⟨m, dx, tp, te, ta, nd, pvs, avs, kvs, h0, h1, h2, h3, h4, h5, h6, h7, h8, h9⟩ := h
  have f : Fix CP H (upd H dp (.dK kv1)) := Fix.dK e
  have t : ∀ {q : Addr} {xs : List V}, H q = some (.tup xs) → upd H dp (.dK kv1) q = some (.tup xs) := fun {q xs} h => f.1 _ _ h
  refine ⟨m, dx, tp, te, ta, nd, pvs, avs, kvs, h0, ?_, t h2, pair_mono (fun _ _ h => h.mono f) h3, t h4, t h5, pair_mono (fun _ _ h => h.mono (CP := CP) f) h6, ?_, h8, h9⟩
  · rw [upd_ne (ne_of h1 e (by intro z; cases z))]
    exact h1
  · rcases h7 with h7 | ⟨o, h7⟩
    · exact .inl (by rw [upd_ne h9]; exact h7)
    · exact .inr ⟨o, by rw [upd_ne h9]; exact h7⟩
theorem ModR.mono {CM CP : Addr} {H H' : Hp} (k : Ke H H') {st : ST} {v : V} (h : ModR CM CP H st v) : ModR CM CP H' st v := by
  obtain ⟨m, dx, tp, te, ta, nd, pvs, avs, kvs, h0, h1, h2, h3, h4, h5, h6, h7, h8⟩ := h
  exact ⟨m, dx, tp, te, ta, nd, pvs, avs, kvs, h0, k.ins _ _ _ _ h1, k.tup _ _ h2, pair_mono (fun _ _ h => h.mono k.fix) h3, k.tup _ _ h4, k.tup _ _ h5, pair_mono (fun _ _ h => h.mono (CP := CP) k.fix) h6, k.dk _ _ h7, h8⟩
def ParR (CM CP : Addr) (H : Hp) (d : Addr) (ms : MS) : Prop := ∃ kvs, Rd H d (.dK kvs) ∧ DR kS (ModR CM CP H) ms kvs
def AliR (H : Hp) (d : Addr) (l : List ((Str × Str) × Str)) : Prop := ∃ kvs, Rd H d (.dT kvs) ∧ DR kT (fun z v => v = .str z) l kvs
def LstAt (H : Hp) (zs : List Str) (v : V) : Prop := ∃ l, v = .ref l ∧ H l = some (.lst (zs.map V.str))
def ExpR (H : Hp) (d : Addr) (l : List (Str × List Str)) : Prop := ∃ kvs, Rd H d (.dK kvs) ∧ DR kS (LstAt H) l kvs
def PcR (CP : Addr) (H : Hp) (d : Addr) (l : List (Str × MP)) : Prop := ∃ kvs, Rd H d (.dK kvs) ∧ DR kS (PieceAt CP H) l kvs
section
variable {CM CP : Addr} {H H' : Hp} {d : Addr}
theorem ParR.mono {ms : MS} (k : Ke H H') (h : ParR CM CP H d ms) : ParR CM CP H' d ms := by
  obtain ⟨kvs, h1, h2⟩ := h
  exact ⟨kvs, k.dk _ _ h1, h2.mono fun _ _ h => h.mono k⟩
theorem AliR.mono {l : List ((Str × Str) × Str)} (k : Ke H H') (h : AliR H d l) : AliR H' d l := by
  obtain ⟨kvs, h1, h2⟩ := h
  exact ⟨kvs, k.dt _ _ h1, h2⟩
theorem LstAt.mono {zs : List Str} {v : V} (k : Ke H H') (h : LstAt H zs v) : LstAt H' zs v := by
  obtain ⟨l, h1, h2⟩ := h
  exact ⟨l, h1, k.lst _ _ h2⟩
theorem ExpR.mono {l : List (Str × List Str)} (k : Ke H H') (h : ExpR H d l) : ExpR H' d l := by
  obtain ⟨kvs, h1, h2⟩ := h
  exact ⟨kvs, k.dk _ _ h1, h2.mono fun _ _ h => h.mono k⟩
theorem PcR.mono {l : List (Str × MP)} (k : Ke H H') (h : PcR CP H d l) : PcR CP H' d l := by
  obtain ⟨kvs, h1, h2⟩ := h
  exact ⟨kvs, k.dk _ _ h1, h2.mono fun _ _ h => h.mono k.fix⟩
end
def sflds (a b c d : V) : List (Str × V) := [("parsed", a), ("aliases", b), ("exporters", c), ("pieces", d)]
def ScAt (CS CM CP : Addr) (H : Hp) (a dp : Addr) (ms : MS) (s : Sc) : Prop := ∃ dx da de dc, H a = some (.ins CS dx (sflds (.ref dp) (.ref da) (.ref de) (.ref dc))) ∧ ParR CM CP H dp ms ∧ AliR H da s.al ∧ ExpR H de s.ex ∧ PcR CP H dc s.pc
theorem ScAt.mono {CS CM CP : Addr} {H H' : Hp} {a dp : Addr} {ms : MS} {s : Sc} (k : Ke H H') (h : ScAt CS CM CP H a dp ms s) : ScAt CS CM CP H' a dp ms s := by
  obtain ⟨dx, da, de, dc, h1, h2, h3, h4, h5⟩ := h
  exact ⟨dx, da, de, dc, k.ins _ _ _ _ h1, h2.mono k, h3.mono k, h4.mono k, h5.mono k⟩
end PG

set_option Elab.async false
set_option linter.all false
set_option maxRecDepth 100000
set_option maxHeartbeats 4000000
/-! x in o, x not in o, len(o) by an own __contains__, __len__. -/
namespace FS
open PySem PySem.Spec PyProof.Rows L2
section
variable {X : Cx} {C f : Addr} {fd : FuncData} {ps : List Str} {sp : Sp} {k : Nat}
/-- an own special method is called -/
theorem run_own {A : Around} {pins : List (Addr × Obj)} {σ : L2.St} {H : Hp} {s : Shared} {Q : VK} {vs : List V} {us : List Value} (F : FnOk X.prog X.w X.K X.mg X.base CX0 k f fd ps sp) (b : Binds X.K fd ps []) (hr : Room k A) (hf : A.frames = X.A.frames) (hx : Passes CX0 X (fun _ _ _ => False))
    (I : Inv X pins σ H s) (r : Vals vs us) (h : sp vs H Q (fun _ _ _ => False)) : wpAny (model X.prog X.w) A (call (.ref f) us) (EP X pins σ Q) X.xe s := by
  have hl := F.len _ _ _ _ h
  have e0 : Env0 X.prog X.w X.K X.mg X.base A X.stack s H := by
    have e := I.env0
    exact ⟨by rw [hf]; exact e.frames, e.mod, e.bs, e.bsz, e.funs, e.frf, e.hok, e.bare⟩
  refine wpAny_call (codeAny_mono (F.run A X.stack s H ⟨us, []⟩ us vs Q _ hr e0 (by
    have := b s us I.kIn (by rw [List.append_nil, ← r.length]; exact hl)
    rw [List.append_nil] at this
    exact this) r h) fun r s' hq => ?_)
  cases r with
  | error e => exact hx pins σ H s e s' I hq
  | ok fl =>
    cases fl with
    | ret u => exact I.after hq
    | next => exact False.elim hq
    | brk => exact False.elim hq
    | cont => exact False.elim hq
def rInOwn (C : Addr) (sp : Sp) (neg : Bool) : R2 := fun x y H Q => ∃ m dx fs, y = .ref m ∧ H m = some (.ins C dx fs) ∧ sp [.ref m, x] H (fun v H2 => ∃ b, v = .bl b ∧ Q (.bl (if neg then !b else b)) H2) (fun _ _ _ => False)
theorem op_in_own (hs : PySem.W.findIn X.K (.ref C) "__contains__" = some (some (.ref f))) (hif : PySem.W.isFn X.K (.ref f) = true) (F : FnOk X.prog X.w X.K X.mg X.base CX0 k f fd ps sp) (b : Binds X.K fd ps []) (hr : Room k X.A) (hx : Passes CX0 X (fun _ _ _ => False)) :
    OpR X (compareOp .In) (rInOwn C sp false) := by
  intro pins s σ H x y v u Q I rx ry ⟨m, dx, fs, ey, hm, hsp⟩
  subst ey
  cases ry
  obtain ⟨mA, J, _⟩ := ins_get I.hok hm
  obtain ⟨od, J, _⟩ := J.look
  obtain ⟨m0, hF⟩ := I.fr
  refine PySem.W.in_K hF I.ok.mod.kin J hs hif (wpAny_mono (run_own F b hr rfl hx I (.cons (show RelV (V.ref m) (Value.ref m) from rfl) (.cons rx .nil)) hsp) (fun r s' hq => ?_) fun _ _ z => z)
  obtain ⟨z, H', I', rz, c, ez, q⟩ := hq
  subst ez
  cases rz
  exact wpAny_truthy_bool ⟨.bl c, H', I', rfl, q⟩
theorem op_notIn_own (hs : PySem.W.findIn X.K (.ref C) "__contains__" = some (some (.ref f))) (hif : PySem.W.isFn X.K (.ref f) = true) (F : FnOk X.prog X.w X.K X.mg X.base CX0 k f fd ps sp) (b : Binds X.K fd ps []) (hr : Room k X.A) (hx : Passes CX0 X (fun _ _ _ => False)) :
    OpR X (compareOp .NotIn) (rInOwn C sp true) := by
  intro pins s σ H x y v u Q I rx ry ⟨m, dx, fs, ey, hm, hsp⟩
  subst ey
  cases ry
  obtain ⟨mA, J, _⟩ := ins_get I.hok hm
  obtain ⟨od, J, _⟩ := J.look
  obtain ⟨m0, hF⟩ := I.fr
  refine PySem.W.notIn_K hF I.ok.mod.kin J hs hif (wpAny_mono (run_own F b hr rfl hx I (.cons (show RelV (V.ref m) (Value.ref m) from rfl) (.cons rx .nil)) hsp) (fun r s' hq => ?_) fun _ _ z => z)
  obtain ⟨z, H', I', rz, c, ez, q⟩ := hq
  subst ez
  cases rz
  exact wpAny_truthy_bool ⟨.bl (!c), H', I', rfl, q⟩
def rLenOwn (C : Addr) (sp : Sp) : List V → Hp → VK → Prop := fun xs H Q => ∃ m dx fs, xs = [.ref m] ∧ H m = some (.ins C dx fs) ∧ sp [.ref m] H (fun v H2 => ∃ n : Nat, v = .int n ∧ n ≤ sizeLine ∧ Q (.int n) H2) (fun _ _ _ => False)
theorem call_len_own (hs : PySem.W.findIn X.K (.ref C) "__len__" = some (some (.ref f))) (hif : PySem.W.isFn X.K (.ref f) = true) (F : FnOk X.prog X.w X.K X.mg X.base CX0 k f fd ps sp) (b : Binds X.K fd ps []) (hr : Room (k + 1) X.A) (hx : Passes CX0 X (fun _ _ _ => False)) :
    CallR X (.builtin "len") (rLenOwn C sp) := by
  intro pins s σ H xs us Q I r ⟨m, dx, fs, ex, hm, hsp⟩
  subst ex
  obtain ⟨u, rfl, ru⟩ := vals1 r
  cases ru
  obtain ⟨mA, J, _⟩ := ins_get I.hok hm
  obtain ⟨od, J, _⟩ := J.look
  obtain ⟨m0, hF⟩ := I.fr
  refine PySem.W.len_K hF I.ok.mod.kin J hs hif (wpAny_mono (run_own (A := X.A.in1) F b hr.in1 rfl hx I (.cons (show RelV (V.ref m) (Value.ref m) from rfl) .nil) hsp) (fun r s' hq => ?_) fun _ _ z => z)
  obtain ⟨z, H', I', rz, n, ez, hn, q⟩ := hq
  subst ez
  obtain ⟨t, rfl⟩ := rz
  refine ⟨⟨Int.natCast_nonneg _, ?_⟩, ⟨.int n, H', I'.tok _, ⟨_, rfl⟩, q⟩⟩
  rw [sizeLine_eq] at hn
  omega
end
end FS

set_option Elab.async false
set_option linter.all false
set_option maxRecDepth 100000
set_option maxHeartbeats 4000000
/-! Modules and pieces asked; what a row names. -/
namespace PG
open PySem PySem.Spec PyProof.Rows L2 L2.FK FS TX
abbrev sModC : Stmt := inClass (top (TX.o + 11)) 1
abbrev sModIt : Stmt := inClass (top (TX.o + 11)) 3
abbrev sPieceL : Stmt := inClass (top (TX.o + 10)) 1
abbrev sPlace : Stmt := top (TX.o + 17)
abbrev sRight : Stmt := top (TX.o + 18)
abbrev sTaken : Stmt := top (TX.o + 19)
theorem b_set : bootBuiltins "set" = some (.type "set") := by decide +kernel
theorem b_iter : bootBuiltins "iter" = some (.builtin "iter") := by decide +kernel
/-! ### the mirror -/
/-- a row of an instruction -/
def InsOk (xs : List V) : Prop := ∃ (w : Str) (rest : List V) (form : List Str), xs = V.str w :: rest ∧ formOf w = some form ∧ rest.length = form.length ∧ (∀ i : Nat, form[i]? = some ("name" : Str) → ∃ z, rest[i]? = some (V.str z)) ∧ (∀ i : Nat, form[i]? = some ("integer" : Str) → ∃ n, rest[i]? = some (V.int n)) ∧ ∀ v ∈ rest, flatV v = true
def RowOk (k : Str) : MR → Prop
  | .ins xs => k = "func" ∧ InsOk xs
  | .dat v => k = "data" ∧ ((∃ z, v = .str z) ∨ ∃ i, v = .int i)
def place (form : List Str) : Option Nat := (form.findIdx? fun z => z == ("name" : Str)).map (· + 1)
def nplace : List V → Option Nat
  | .str w :: _ => (formOf w).bind place
  | _ => none
def optN : Option Nat → V
  | some n => .int n
  | none => .non
def meansRight (row : List V) (k : Str) (n : Nat) : Bool := match row with
  | .str w :: rest => if w = "call" then k == "func" else if w = "read" then k == "data" && (match rest[2]? with | some (V.int i) => decide (i < (n : Int)) | _ => false) else true
  | _ => true
def nameAt (xs : List V) (i : Nat) : Option Str := match xs[i]? with
  | some (.str z) => some z
  | _ => none
theorem InsOk.two {xs : List V} (h : InsOk xs) {i : Nat} (e : nplace xs = some i) : 1 ≤ i ∧ i < xs.length ∧ i ≤ 3 ∧ ∃ z, xs[i]? = some (V.str z) ∧ nameAt xs i = some z := by
  obtain ⟨w, rest, form, rfl, hf, hl, hn, _⟩ := h
  have e2 : place form = some i := by
    have : nplace (V.str w :: rest) = (formOf w).bind place := rfl
    rw [this, hf] at e
    exact e
  unfold place at e2
  obtain ⟨j, hj, rfl⟩ := Option.map_eq_some_iff.mp e2
  obtain ⟨hj1, hj2, _⟩ := List.findIdx?_eq_some_iff_getElem.mp hj
  have hz : form[j]? = some ("name" : Str) := by rw [List.getElem?_eq_getElem hj1]; exact congrArg some (by simpa using hj2)
  obtain ⟨z, ez⟩ := hn j hz
  have hf3 := form3 hf
  refine ⟨by omega, by rw [List.length_cons]; omega, by omega, z, by simpa using ez, ?_⟩
  unfold nameAt
  rw [show (V.str w :: rest)[j + 1]? = rest[j]? from by simp, ez]
section
variable {P : Program} {w : World} {K : PySem.W.Frag} {mg : Str → Option Value} {base : Heap} {aO aR dF CD CP CM : Addr} {es : Array DictEntry} {nF : Nat} {tF : Str → Addr}
/-! ### Module.__contains__, __iter__; Piece.__len__ -/
def spHas (CM CP : Addr) (K : PySem.W.Frag) : Sp := fun vs H Q _ => ∃ m v st, vs = [.ref m, v] ∧ ModR CM CP H st (.ref m) ∧ ((∃ z, v = .str z ∧ ∀ H', Same H H' → Q (.bl (hasN st z)) H') ∨ (NoStr K H v ∧ Q (.bl false) H))
theorem scMC : FnScope ["self", "name"] ["self", "name"] (defScope sModC) := ⟨rfl, rfl, rfl, by decide +kernel, rfl, by decide +kernel, by decide +kernel⟩
theorem ok_has {f : Addr} {fd : FuncData} (F : Fun K "__contains__" "Module.__contains__" sModC f fd) (T : TT K w mg aO aR dF es nF tF) (M : TMd K CM) : FnOk P w K mg base CX0 1 f fd ["self", "name"] (spHas CM CP K) := by
  refine F.ok scMC (fun vs H Q E h => ?_) (fun cdv A outer s H vs Q E hr h => ?_)
  · obtain ⟨m, v, st, rfl, _⟩ := h
    rfl
  · obtain ⟨m, v, st, rfl, hm, q⟩ := h
    have hu := hu_of hr
    obtain ⟨m', dx, tp, te, ta, nd, pvs, avs, kvs, e0, h1, h2, h3, h4, h5, h6, h7, h8⟩ := hm
    cases e0
    refine ⟨_, pss_one (ps_ret (pe_and (pe_callB call_isi (by rfl) T.zi b_isi (pa_cons (pv 1) (pa_cons (pe_bltn rfl T.zs b_str (v := .ty "str") rfl) pa_nil))) (pe_one (pe_cmp (pc_din hu (pv 1) (pe_fld (pv 0) rfl)) rfl)))), ?_⟩
    have ks : PySem.W.kitOne K (.type "str") (.type "str") = some true := kit_ty (by decide +kernel)
    rcases q with ⟨z, rfl, q⟩ | ⟨⟨t, ty, kt⟩, q⟩
    · refine ⟨.str z, rfl, .str z, .ty "str", .type "str", .type "str", true, rfl, .ty "str", .base (.str z), ks, true, rfl, iteT ?_⟩
      refine ⟨.str z, rfl, .ref m, rfl, m, CM, dx, _, .ref nd, rfl, h1, M.cM, M.nNamed, rfl, nd, valV kvs (kS z), rfl, .inl ⟨kvs, kS z, h7, rfl, rfl⟩, ?_⟩
      rw [show (valV kvs (kS z)).isSome = hasN st z from h8 z]
      exact q H (Same.refl H)
    · exact ⟨v, rfl, v, .ty "str", t, .type "str", false, rfl, .ty "str", ty, kt, false, rfl, iteF q⟩
theorem scMI : FnScope ["self"] ["self"] (defScope sModIt) := ⟨rfl, rfl, rfl, by decide +kernel, rfl, by decide +kernel, by decide +kernel⟩
theorem ok_iter {f : Addr} {fd : FuncData} (F : Fun K "__iter__" "Module.__iter__" sModIt f fd) (zi : mg "iter" = none) (M : TMd K CM) : FnN P w K mg base 1 f fd ["self"] (spIt K CM "pieces") := by
  refine okN F scMI (fun n vs H Q E h => ?_) (fun cdv A outer s H vs Q E hr h => ?_)
  · obtain ⟨m, dx, fs, l, zs, rfl, _⟩ := h
    rfl
  · obtain ⟨m, dx, fs, l, zs, rfl, hm, hf, hz, q⟩ := h
    refine ⟨_, pss_one (ps_ret (pe_callB call_iterT (by rfl) zi b_iter (pa_cons (pe_fld (pv 0) rfl) pa_nil))), ?_⟩
    exact ⟨.ref m, rfl, m, CM, dx, fs, .ref l, rfl, hm, M.cM, M.nPieces, hf, l, zs, rfl, hz, fun it n1 n2 => q it n1 n2⟩
def spPLen (K : PySem.W.Frag) (CP : Addr) : Sp := fun vs H Q _ => ∃ m p, vs = [.ref m] ∧ PieceAt CP H p (.ref m) ∧ p.rows.length ≤ 1000 ∧ Q (.int (p.rows.length : Nat)) H
theorem scPL : FnScope ["self"] ["self"] (defScope sPieceL) := ⟨rfl, rfl, rfl, by decide +kernel, rfl, by decide +kernel, by decide +kernel⟩
theorem ok_plen {f : Addr} {fd : FuncData} (F : Fun K "__len__" "Piece.__len__" sPieceL f fd) (zl : mg "len" = none) (T : TC K CD CP) : FnOk P w K mg base CX0 1 f fd ["self"] (spPLen K CP) := by
  refine F.ok scPL (fun vs H Q E h => ?_) (fun cdv A outer s H vs Q E hr h => ?_)
  · obtain ⟨m, p, rfl, _⟩ := h
    rfl
  · obtain ⟨m, p, rfl, ⟨q0, dx, t, ts, e0, h1, h2, h3⟩, hl, q⟩ := h
    cases e0
    refine ⟨_, pss_one (ps_ret (pe_callB call_len_seq (by rfl) zl PySem.boot_len (pa_cons (pe_fld (pv 0) rfl) pa_nil))), ?_⟩
    refine ⟨.ref m, rfl, m, CP, dx, _, .ref t, rfl, h1, T.cP, T.pRows, rfl, t, ts, rfl, .inr (SqT.of h2), ?_⟩
    rw [← h3.length]
    exact q
/-! ### name_place -/
/-- a written tuple, as its methods ask it -/
def TyT (K : PySem.W.Frag) (p : Addr) : Prop := ∃ o, K.lookup p = some o ∧ o.cls = .type "tuple" ∧ o.dict = none
def spPlace (K : PySem.W.Frag) : Sp := fun vs H Q _ => ∃ a xs, vs = [.ref a] ∧ SqT K H a xs ∧ InsOk xs ∧ Q (optN (nplace xs)) H
theorem scNP : FnScope ["row", "form"] ["row"] (defScope sPlace) := ⟨rfl, rfl, rfl, by decide +kernel, rfl, by decide +kernel, by decide +kernel⟩
theorem ok_place {f : Addr} {fd : FuncData} (F : Fun K "name_place" "name_place" sPlace f fd) (T : TT K w mg aO aR dF es nF tF) (ty : ∀ z ws, formOf z = some ws → TyT K (tF z)) : FnOk P w K mg base CX0 1 f fd ["row"] (spPlace K) := by
  refine F.ok scNP (fun vs H Q E h => ?_) (fun cdv A outer s H vs Q E hr h => ?_)
  · obtain ⟨a, xs, rfl, _⟩ := h
    rfl
  · obtain ⟨a, xs, rfl, hS, ⟨w1, rest, form, rfl, hf, hl, hn, hi⟩, q⟩ := h
    refine ⟨_, pss_cons (ps_set (i := 1) scNP.nd rfl (.inl rfl) (pe_ix ix_kdict (pe_glob rfl T.gF (v := .ref dF) rfl) (pe_ix ix_tup (pv 0) pe_int (fun _ _ => rfl)) (fun _ _ => rfl)))
      (pss_one (ps_ret (pe_ifExp (pt_cmpR op_in_seq pe_str (pv 1) (by rfl)) (pe_op op_add (pe_bm PySem.F.plainAttrs_tuple PySem.F.slot_tuple_index PySem.F.type_tuple_index mt_tup_index (pv 1) (pa_cons pe_str pa_nil)) pe_int) pe_non))), ?_⟩
    have lf := T.lF w1
    rw [hf] at lf
    have kt := T.tF w1 form hf
    have eq : nplace (V.str w1 :: rest) = place form := by
      show (formOf w1).bind place = _
      rw [hf]
      rfl
    rw [eq] at q
    refine ⟨.ref a, rfl, a, _, 0, .str w1, rfl, rfl, hS, atI_nat (j := 0) rfl, dF, w1, .ref (tF w1), rfl, rfl, ⟨es, nF, .ref (tF w1), T.kF.at_, T.kF.lit, lf, rfl⟩, ?_⟩
    refine ⟨.ref (tF w1), rfl, tF w1, form.map V.str, rfl, .inr (kt.sq H), rfl, by simp [flatV], _, rfl, ?_⟩
    rw [show (if false = true then !inV (V.str "name") (form.map V.str) else inV (V.str "name") (form.map V.str)) = form.contains "name" from inV_strs "name" form]
    refine ite2 (fun h => ?_) (fun h => ?_)
    · have hm : ("name" : Str) ∈ form := by simpa using h
      obtain ⟨j, hj⟩ : ∃ j, form.findIdx? (fun z => z == ("name" : Str)) = some j := by
        have := List.findIdx?_isSome (xs := form) (p := fun z => z == ("name" : Str))
        have h2 : (form.any fun z => z == ("name" : Str)) = true := List.any_eq_true.mpr ⟨_, hm, by simp⟩
        rw [h2] at this
        exact Option.isSome_iff_exists.mp this
      obtain ⟨hj1, hj2, hj3⟩ := List.findIdx?_eq_some_iff_getElem.mp hj
      refine ⟨.ref (tF w1), rfl, .inr (.inl ⟨rfl, ty w1 form hf⟩), tF w1, form, "name", j, rfl, rfl, kt.sq H, ?_, fun m hm e => ?_, _, _, rfl, rfl, ?_⟩
      · rw [List.getElem?_eq_getElem hj1]
        exact congrArg some (by simpa using hj2)
      · have hmf : m < form.length := by omega
        have h3 := hj3 m hm
        rw [List.getElem?_eq_getElem hmf] at e
        rw [Option.some.inj e] at h3
        exact h3 (by simp)
      · unfold place at q
        rw [hj] at q
        exact q
    · have hj : form.findIdx? (fun z => z == ("name" : Str)) = none := by
        rw [List.findIdx?_eq_none_iff]
        intro x hx
        refine beq_eq_false_iff_ne.mpr fun e => h ?_
        subst e
        simpa using hx
      unfold place at q
      rw [hj] at q
      exact q
/-! ### means_right -/
def spMeans (K : PySem.W.Frag) : Sp := fun vs H Q _ => ∃ a xs k n, vs = [.ref a, .str k, .int (n : Nat)] ∧ SqT K H a xs ∧ InsOk xs ∧ Q (.bl (meansRight xs k n)) H
theorem scMR : FnScope ["row", "kind", "length"] ["row", "kind", "length"] (defScope sRight) := ⟨rfl, rfl, rfl, by decide +kernel, rfl, by decide +kernel, by decide +kernel⟩
theorem str_eq2 (a b : Str) : decide ((V.str a) = (V.str b)) = (a == b) := by
  rw [str_eq]
  by_cases h : a = b
  · subst h
    simp
  · rw [decide_eq_false h]
    exact (beq_eq_false_iff_ne.mpr h).symm
theorem ok_means {f : Addr} {fd : FuncData} (F : Fun K "means_right" "means_right" sRight f fd) : FnOk P w K mg base CX0 1 f fd ["row", "kind", "length"] (spMeans K) := by
  refine F.ok scMR (fun vs H Q E h => ?_) (fun cdv A outer s H vs Q E hr h => ?_)
  · obtain ⟨a, xs, k, n, rfl, _⟩ := h
    rfl
  · obtain ⟨a, xs, k, n, rfl, hS, ⟨w1, rest, form, rfl, hf, hl, hn, hi, hfl⟩, q⟩ := h
    refine ⟨_, pss_cons (ps_if (pt_cmpR op_eq (pe_ix ix_tup (pv 0) pe_int (fun _ _ => rfl)) pe_str (nomark _)) (pss_one (ps_ret (pe_cmpR op_eq (pv 1) pe_str (nomark _)))) pss_nil)
      (pss_cons (ps_if (pt_cmpR op_eq (pe_ix ix_tup (pv 0) pe_int (fun _ _ => rfl)) pe_str (nomark _)) (pss_one (ps_ret (pe_and (pe_cmpR op_eq (pv 1) pe_str (nomark _)) (pe_one (pe_cmpR op_lt (pe_ix ix_tup (pv 0) pe_int (fun _ _ => rfl)) (pv 2) (nomark _)))))) pss_nil)
      (pss_one (ps_ret pe_bl))), ?_⟩
    refine ⟨.ref a, rfl, a, _, 0, .str w1, rfl, rfl, hS, atI_nat (j := 0) rfl, rfl, _, rfl, ?_⟩
    rw [str_eq]
    have eq : meansRight (V.str w1 :: rest) k n = if w1 = "call" then k == "func" else if w1 = "read" then k == "data" && (match rest[2]? with | some (V.int i) => decide (i < (n : Int)) | _ => false) else true := rfl
    rw [eq] at q
    refine ite2 (fun h1 => ?_) (fun h1 => ?_)
    · have e1 := of_decide_eq_true h1
      rw [if_pos e1] at q
      refine ⟨.str k, rfl, rfl, ?_⟩
      rw [str_eq2]
      exact q
    · have e1 : ¬ w1 = "call" := fun e => h1 (decide_eq_true e)
      rw [if_neg e1] at q
      refine ⟨.ref a, rfl, a, _, 0, .str w1, rfl, rfl, hS, atI_nat (j := 0) rfl, rfl, _, rfl, ?_⟩
      rw [str_eq]
      refine ite2 (fun h2 => ?_) (fun h2 => ?_)
      · have e2 := of_decide_eq_true h2
        rw [if_pos e2] at q
        subst e2
        have ef : form = (["reg", "name", "integer"] : List Str) := by
          have : formOf "read" = some (["reg", "name", "integer"] : List Str) := by decide +kernel
          rw [this] at hf
          exact (Option.some.inj hf).symm
        obtain ⟨i, ei⟩ := hi 2 (by rw [ef]; rfl)
        rw [ei] at q
        refine ⟨.str k, rfl, rfl, _, rfl, ?_⟩
        rw [str_eq2]
        refine ite2 (fun h3 => ?_) (fun h3 => ?_)
        · rw [h3] at q
          refine ⟨.ref a, rfl, a, _, 3, .int i, rfl, rfl, hS, ?_, .int n, rfl, i, n, rfl, rfl, ?_⟩
          · exact atI_nat (j := 3) (by simpa using ei)
          · exact q
        · have h3' : (k == "data") = false := by simpa using h3
          rw [h3'] at q
          exact q
      · have e2 : ¬ w1 = "read" := fun e => h2 (decide_eq_true e)
        rw [if_neg e2] at q
        exact q
end
end PG

set_option Elab.async false
set_option linter.all false
set_option maxRecDepth 100000
set_option maxHeartbeats 4000000
/-! Sorted texts; what a partition written in the one way is. -/
namespace MP
open PySem PySem.Spec PyProof.Rows L2
theorem str_ext {a b : Str} (h : a.cps.toList = b.cps.toList) : a = b := by
  obtain ⟨⟨x⟩⟩ := a
  obtain ⟨⟨y⟩⟩ := b
  have e : x = y := h
  rw [e]
/-- not behind -/
def Le (a b : Str) : Prop := ¬ b.cps.toList < a.cps.toList
theorem le_anti (a b : Str) (h1 : Le a b) (h2 : Le b a) : a = b := str_ext (List.le_antisymm h1 h2)
theorem le_trans' {a b c : Str} (h1 : Le a b) (h2 : Le b c) : Le a c := List.le_trans h1 h2
theorem lt_of_ne {a b : Str} (h : Le a b) (n : a ≠ b) : a.cps.toList < b.cps.toList := Classical.byContradiction fun k => n (le_anti a b h k)
theorem rising_pw : ∀ (p : Str) (l : List Str), risingS p l = true → (p :: l).Pairwise Le
  | p, [], _ => List.pairwise_cons.mpr ⟨fun _ h => (nomatch h), .nil⟩
  | p, x :: r, h => by
    have h : (!ltCps x.cps.toList p.cps.toList && risingS x r) = true := h
    obtain ⟨h1, h2⟩ := Bool.and_eq_true_iff.mp h
    have px : Le p x := fun k => by
      rw [ltCps_eq, decide_eq_true k] at h1
      cases h1
    have ih := rising_pw x r h2
    refine List.pairwise_cons.mpr ⟨fun y hy => ?_, ih⟩
    rcases List.mem_cons.mp hy with rfl | hy
    · exact px
    · exact le_trans' px ((List.pairwise_cons.mp ih).1 y hy)
theorem sorted_pw : ∀ {l : List Str}, sortedS l = true → l.Pairwise Le
  | [], _ => .nil
  | x :: r, h => rising_pw x r h
theorem pw_sorted {l : List Str} (h : l.Pairwise Le) : sortedS l = true := sortedS_of_pairwise l (h.imp fun {a b} k => by rw [ltCps_eq]; exact decide_eq_false k)
theorem pw_unique {α : Type} {r : α → α → Prop} (anti : ∀ a b, r a b → r b a → a = b) : ∀ {l1 l2 : List α}, l1.Perm l2 → l1.Pairwise r → l2.Pairwise r → l1 = l2
  | [], l2, p, _, _ => (List.nil_perm.mp p).symm
  | a :: l1, [], p, _, _ => absurd p.length_eq (by simp)
  | a :: l1, b :: l2, p, h1, h2 => by
    have ab : a = b := by
      have ha : a ∈ b :: l2 := p.mem_iff.mp (by simp)
      have hb : b ∈ a :: l1 := p.mem_iff.mpr (by simp)
      rcases List.mem_cons.mp ha with e | ha
      · exact e
      · rcases List.mem_cons.mp hb with e | hb
        · exact e.symm
        · exact anti a b ((List.pairwise_cons.mp h1).1 b hb) ((List.pairwise_cons.mp h2).1 a ha)
    subst ab
    rw [pw_unique anti (List.Perm.cons_inv p) (List.pairwise_cons.mp h1).2 (List.pairwise_cons.mp h2).2]
theorem sort_unique {a b : List Str} (p : a.Perm b) (h1 : sortedS a = true) (h2 : sortedS b = true) : a = b := pw_unique le_anti p (sorted_pw h1) (sorted_pw h2)
/-- the sorted one is the list itself just if that is sorted -/
theorem sort_self {ys xs : List Str} (p : ys.Perm xs) (h : sortedS ys = true) : decide (ys = xs) = sortedS xs := by
  cases e : sortedS xs with
  | true => exact decide_eq_true (sort_unique p h e)
  | false => exact decide_eq_false fun k => by rw [k, e] at h; cases h
/-- the sorted one is a sorted list just if it has the same -/
theorem sort_other {ys xs N : List Str} (p : ys.Perm xs) (h : sortedS ys = true) (hN : sortedS N = true) : decide (ys = N) = xs.isPerm N := by
  cases e : xs.isPerm N with
  | true => exact decide_eq_true (sort_unique (p.trans (List.isPerm_iff.mp e)) h hN)
  | false =>
    refine decide_eq_false fun k => ?_
    have t : xs.isPerm N = true := List.isPerm_iff.mpr (by rw [← k]; exact p.symm)
    rw [e] at t
    cases t
/-! ### partitions -/
def shp : Option (List V) → Bool
  | some its => decide (0 < its.length)
  | none => false
def isStr : V → Bool
  | .str _ => true
  | _ => false
def strOf : V → Option Str
  | .str z => some z
  | _ => none
def txs (l : List V) : List Str := l.filterMap strOf
def first (g : List Str) : Str := g.headD ""
def isG (N : List Str) (gs : List (List Str)) : Bool := gs.flatten.isPerm N && sortedS (gs.map first) && gs.all sortedS
def isP (N : List Str) (es : List (Option (List V))) : Bool := es.all shp && ((es.map fun e => e.getD []).flatten).all isStr && isG N (es.map fun e => txs (e.getD []))
def goR (last : Str) : List (List Str) → Bool
  | [] => true
  | [] :: _ => false
  | (x :: g) :: r => decide (last.cps.toList < x.cps.toList) && sortedS (x :: g) && goR x r
def isR (N : List Str) (gs : List (List Str)) : Bool := goR "" gs && gs.flatten.isPerm N
def chain (last : Str) : List Str → Bool
  | [] => true
  | x :: r => decide (last.cps.toList < x.cps.toList) && chain x r
def ofG (gs : List (List Str)) : List (Option (List V)) := gs.map fun g => some (g.map V.str)
theorem txs_map (g : List Str) : txs (g.map V.str) = g := by
  induction g with
  | nil => rfl
  | cons x r ih =>
    show x :: txs (r.map V.str) = _
    rw [ih]
theorem all_str (g : List Str) : (g.map V.str).all isStr = true := by
  induction g with
  | nil => rfl
  | cons x r ih => exact ih
theorem ofG_txs (gs : List (List Str)) : ((ofG gs).map fun e => txs (e.getD [])) = gs := by
  induction gs with
  | nil => rfl
  | cons g r ih =>
    show txs (g.map V.str) :: ((ofG r).map fun e => txs (e.getD [])) = _
    rw [ih, txs_map]
theorem ofG_all (gs : List (List Str)) : (((ofG gs).map fun e => e.getD []).flatten).all isStr = true := by
  induction gs with
  | nil => rfl
  | cons g r ih =>
    show ((g.map V.str) ++ ((ofG r).map fun e => e.getD []).flatten).all isStr = true
    rw [List.all_append, all_str, ih]
    rfl
theorem ofG_shp (gs : List (List Str)) : (ofG gs).all shp = gs.all fun g => !g.isEmpty := by
  induction gs with
  | nil => rfl
  | cons g r ih =>
    show (shp (some (g.map V.str)) && (ofG r).all shp) = _
    rw [ih, List.all_cons]
    cases g with
    | nil => rfl
    | cons x g => rfl
theorem goR_eq : ∀ (last : Str) (gs : List (List Str)), (gs.all fun g => !g.isEmpty) = true → goR last gs = (chain last (gs.map first) && gs.all sortedS)
  | _, [], _ => rfl
  | last, [] :: _, h => by cases h
  | last, (x :: g) :: r, h => by
    have ih := goR_eq x r h
    show (decide (last.cps.toList < x.cps.toList) && sortedS (x :: g) && goR x r) = ((decide (last.cps.toList < x.cps.toList) && chain x (r.map first)) && (sortedS (x :: g) && r.all sortedS))
    rw [ih]
    cases decide (last.cps.toList < x.cps.toList) <;> cases sortedS (x :: g) <;> cases chain x (r.map first) <;> rfl
theorem goR_ne : ∀ (last : Str) (gs : List (List Str)), (gs.all fun g => !g.isEmpty) = false → goR last gs = false
  | _, [], h => by cases h
  | last, [] :: _, h => rfl
  | last, (x :: g) :: r, h => by
    have ih := goR_ne x r h
    show (decide (last.cps.toList < x.cps.toList) && sortedS (x :: g) && goR x r) = false
    rw [ih, Bool.and_false]
theorem chain_rising : ∀ (p : Str) (l : List Str), (p :: l).Nodup → chain p l = risingS p l
  | p, [], _ => rfl
  | p, x :: r, h => by
    have h1 := List.nodup_cons.mp h
    have ih := chain_rising x r h1.2
    have ne : p ≠ x := fun e => h1.1 (by rw [e]; exact List.mem_cons_self ..)
    show (decide (p.cps.toList < x.cps.toList) && chain x r) = (!ltCps x.cps.toList p.cps.toList && risingS x r)
    rw [ih, ltCps_eq]
    congr 1
    by_cases k : x.cps.toList < p.cps.toList
    · rw [decide_eq_true k, decide_eq_false (List.lt_asymm k)]
      rfl
    · rw [decide_eq_false k, decide_eq_true (lt_of_ne k ne)]
      rfl
theorem firsts_sub : ∀ (gs : List (List Str)), (gs.all fun g => !g.isEmpty) = true → (gs.map first).Sublist gs.flatten
  | [], _ => .slnil
  | [] :: _, h => by cases h
  | (x :: g) :: r, h => by
    have ih := firsts_sub r h
    show (x :: r.map first).Sublist (x :: (g ++ r.flatten))
    exact (ih.trans (List.sublist_append_right ..)).cons₂ x
theorem right_eq {N : List Str} (nd : N.Nodup) (ne : ∀ z ∈ N, z ≠ ("" : Str)) (gs : List (List Str)) : isP N (ofG gs) = isR N gs := by
  unfold isP isR
  rw [ofG_txs, ofG_all, ofG_shp, Bool.and_true]
  cases h : gs.all fun g => !g.isEmpty with
  | false => rw [goR_ne _ _ h, Bool.false_and, Bool.false_and]
  | true =>
    rw [goR_eq _ _ h, Bool.true_and]
    unfold isG
    cases hp : gs.flatten.isPerm N with
    | false => rw [Bool.and_false, Bool.false_and, Bool.false_and]
    | true =>
      rw [Bool.and_true, Bool.true_and]
      congr 1
      have per := List.isPerm_iff.mp hp
      have sub := firsts_sub gs h
      have fn : (gs.map first).Nodup := sub.nodup (per.nodup_iff.mpr nd)
      have mem : ∀ f ∈ gs.map first, f ≠ ("" : Str) := fun f hf => ne f (per.mem_iff.mp (sub.subset hf))
      generalize gs.map first = fs at fn mem
      cases fs with
      | nil => rfl
      | cons f r =>
        show risingS f r = (decide (("" : Str).cps.toList < f.cps.toList) && chain f r)
        rw [chain_rising f r fn]
        have : ("" : Str).cps.toList < f.cps.toList := by
          have hf := mem f (List.mem_cons_self ..)
          cases hc : f.cps.toList with
          | nil => exact absurd (str_ext (b := ("" : Str)) (by rw [hc]; rfl)) hf
          | cons c l => exact List.Lex.nil
        rw [decide_eq_true this, Bool.true_and]
end MP

set_option Elab.async false
set_option linter.all false
set_option maxRecDepth 100000
set_option maxHeartbeats 4000000
/-! What a piece takes; modules read. -/
namespace PG
open PySem PySem.Spec PyProof.Rows L2 L2.FK FS TX
/-! ### taken_names -/
def tookD : MR → Option Str
  | .dat (.str z) => some z
  | _ => none
def tookI : MR → Option Str
  | .ins xs => match xs with
    | .str w :: _ => if w = "addr" then nameAt xs 2 else none
    | _ => none
  | _ => none
def takenOf (k : Str) (rows : List MR) : List Str := if k = "data" then rows.filterMap tookD else rows.filterMap tookI
theorem fm_take {α β : Type} (f : α → Option β) {xs : List α} {i : Nat} {x : α} (h : xs[i]? = some x) : (xs.take (i + 1)).filterMap f = (xs.take i).filterMap f ++ (f x).toList := by
  rw [List.take_add_one, h, List.filterMap_append]
  cases e : f x with
  | none => simp [e]
  | some b => simp [e]
section
variable {P : Program} {w : World} {K : PySem.W.Frag} {mg : Str → Option Value} {base : Heap} {aO aR dF CD CP CM : Addr} {es : Array DictEntry} {nF : Nat} {tF : Str → Addr}
def spTaken (K : PySem.W.Frag) : Sp := fun vs H Q _ => ∃ k t ts rows, vs = [.str k, .ref t] ∧ (k = "func" ∨ k = "data") ∧ H t = some (.tup ts) ∧ Paired (RowAt H) rows ts ∧ (∀ r ∈ rows, RowOk k r) ∧ rows.length ≤ 100 ∧ ∀ H' p, Same H H' → H p = none → H' p = some (.lst ((takenOf k rows).map V.str)) → Q (.ref p) H'
theorem scTN : FnScope ["kind", "rows", "word", "row"] ["kind", "rows"] (defScope sTaken) := ⟨rfl, rfl, rfl, by decide +kernel, rfl, by decide +kernel, by decide +kernel⟩
theorem ok_taken {f : Addr} {fd : FuncData} (F : Fun K "taken_names" "taken_names" sTaken f fd) (T : TT K w mg aO aR dF es nF tF) : FnOk P w K mg base CX0 1 f fd ["kind", "rows"] (spTaken K) := by
  refine F.ok scTN (fun vs H Q E h => ?_) (fun cdv A outer s H vs Q E hr h => ?_)
  · obtain ⟨k, t, ts, rows, rfl, _⟩ := h
    rfl
  · obtain ⟨k, t, ts, rows, rfl, hk, ht, hp, hok, hl, q⟩ := h
    refine ⟨_, pss_cons (ps_if (pt_cmpR op_eq (pv 0) pe_str (nomark _)) (pss_one (ps_ret (pe_lc (own := [("word", 2)]) (g := gName 2) rfl scTN.nd (pi_tup (pv 1)) (blkOk_by (N := ["kind", "rows", "word", "row"]) (sc := defScope sTaken) (by decide +kernel)) (fun _ _ _ _ _ => pg_name (i := 2) scTN.nd rfl (Or.inl rfl))
          (fun _ _ _ _ _ => pts_one (pt_val (pe_callB (r := rIsi K) call_isi (by rfl) T.zi b_isi (pa_cons (pv 2) (pa_cons (pe_bltn rfl T.zs b_str (v := .ty "str") rfl) pa_nil))))) (fun _ _ _ _ _ => pv 2)))) pss_nil)
      (pss_one (ps_ret (pe_lc (own := [("row", 3)]) (g := gName 3) rfl scTN.nd (pi_tup (pv 1)) (blkOk_by (N := ["kind", "rows", "word", "row"]) (sc := defScope sTaken) (by decide +kernel)) (fun _ _ _ _ _ => pg_name (i := 3) scTN.nd rfl (Or.inl rfl))
          (fun _ _ _ _ _ => pts_one (pt_cmpR op_eq (pe_ix (r := rIxT K) ix_tup (pv 3) pe_int (fun _ _ => rfl)) pe_str (nomark _))) (fun _ _ _ _ _ => pe_ix (r := rIxT K) ix_tup (pv 3) pe_int (fun _ _ => rfl))))), ?_⟩
    refine ⟨.str k, rfl, rfl, _, rfl, ?_⟩
    rw [str_eq]
    have hlen : ts.length = rows.length := hp.length.symm
    refine ite2 (fun h1 => ?_) (fun h1 => ?_)
    · have e1 := of_decide_eq_true h1
      subst e1
      refine ⟨.ref t, rfl, t, rfl, ⟨_, SqT.of ht⟩, fun D hD => ?_⟩
      refine lc_tup (xs := ts) (fun i H' => Same H H' ∧ H' D = some (.lst (((rows.take i).filterMap tookD).map V.str))) ⟨same_new hD, upd_same⟩ (fun _ _ _ h => SqT.of (h.1 _ _ ht)) (fun i x H' hx ⟨s1, e1⟩ => ?_) (fun H' ⟨s1, e1⟩ => ?_)
      · obtain ⟨r, hr1, hr2⟩ := pair_get hp hx
        have hok1 := hok r (List.mem_of_getElem? hr1)
        have ef := fm_take tookD hr1
        cases r with
        | ins xs => exact absurd hok1.1 (by decide)
        | dat d =>
          have ex : x = d := hr2
          subst ex
          refine ⟨rfl, ?_⟩
          rcases hok1.2 with ⟨z, rfl⟩ | ⟨i0, rfl⟩
          · refine ⟨.str z, rfl, .str z, .ty "str", .type "str", .type "str", true, rfl, .ty "str", .base (.str z), kit_ty (by decide +kernel), true, rfl, iteT ⟨.str z, rfl, _, e1, ?_, fun a o e => ?_, ?_⟩⟩
            · rw [List.length_map]
              have := List.length_filterMap_le tookD (rows.take i)
              rw [List.length_take] at this
              exact small1000 (by omega)
            · rw [upd_ne (ne_of_none e hD)]
              exact s1 _ _ e
            · rw [upd_same, ef, List.map_append]
              rfl
          · refine ⟨.int i0, rfl, .int i0, .ty "str", .type "int", .type "str", false, rfl, .ty "str", .base (.int i0), kit_ty (by decide +kernel), false, rfl, iteF ⟨s1, ?_⟩⟩
            rw [e1, ef, List.map_append]
            show _ = some (HO.lst (_ ++ []))
            rw [List.append_nil]
      · refine q H' D s1 hD ?_
        rw [e1, hlen, List.take_length]
        rfl
    · have e1 : ¬ k = "data" := fun e => h1 (decide_eq_true e)
      refine ⟨.ref t, rfl, t, rfl, ⟨_, SqT.of ht⟩, fun D hD => ?_⟩
      refine lc_tup (xs := ts) (fun i H' => Same H H' ∧ H' D = some (.lst (((rows.take i).filterMap tookI).map V.str))) ⟨same_new hD, upd_same⟩ (fun _ _ _ h => SqT.of (h.1 _ _ ht)) (fun i x H' hx ⟨s1, e2⟩ => ?_) (fun H' ⟨s1, e2⟩ => ?_)
      · obtain ⟨r, hr1, hr2⟩ := pair_get hp hx
        have hok1 := hok r (List.mem_of_getElem? hr1)
        have ef := fm_take tookI hr1
        cases r with
        | dat d => exact absurd hok1.1 e1
        | ins xs =>
          obtain ⟨p, rfl, hxs⟩ := hr2
          obtain ⟨w1, rest, form, rfl, hf, hl1, hn, _⟩ := hok1.2
          have hS := SqT.of (K := K) (s1 _ _ hxs)
          refine ⟨rfl, ?_⟩
          refine ⟨.ref p, rfl, p, _, 0, .str w1, rfl, rfl, hS, atI_nat (j := 0) rfl, rfl, _, rfl, ?_⟩
          rw [str_eq]
          have et : tookI (.ins (V.str w1 :: rest)) = if w1 = "addr" then nameAt (V.str w1 :: rest) 2 else none := rfl
          refine ite2 (fun h2 => ?_) (fun h2 => ?_)
          · have e3 := of_decide_eq_true h2
            subst e3
            have ef2 : form = (["reg", "name"] : List Str) := by
              have : formOf "addr" = some (["reg", "name"] : List Str) := by decide +kernel
              rw [this] at hf
              exact (Option.some.inj hf).symm
            obtain ⟨z, ez⟩ := hn 1 (by rw [ef2]; rfl)
            have en : nameAt (V.str "addr" :: rest) 2 = some z := by
              unfold nameAt
              rw [show (V.str "addr" :: rest)[2]? = rest[1]? from by simp, ez]
            rw [if_pos rfl, en] at et
            rw [et] at ef
            refine ⟨.ref p, rfl, p, _, 2, .str z, rfl, rfl, hS, atI_nat (j := 2) (by simpa using ez), _, e2, ?_, fun a o e => ?_, ?_⟩
            · rw [List.length_map]
              have := List.length_filterMap_le tookI (rows.take i)
              rw [List.length_take] at this
              exact small1000 (by omega)
            · rw [upd_ne (ne_of_none e hD)]
              exact s1 _ _ e
            · rw [upd_same, ef, List.map_append]
              rfl
          · rw [if_neg (fun e => h2 (decide_eq_true e))] at et
            rw [et] at ef
            refine ⟨s1, ?_⟩
            rw [e2, ef, List.map_append]
            show _ = some (HO.lst (_ ++ []))
            rw [List.append_nil]
      · refine q H' D s1 hD ?_
        rw [e2, hlen, List.take_length]
        unfold takenOf
        rw [if_neg e1]
end
end PG

set_option Elab.async false
set_option linter.all false
set_option maxRecDepth 100000
set_option maxHeartbeats 4000000
/-! Modules read: all of them right. -/
namespace PG
open PySem PySem.Spec PyProof.Rows L2 L2.FK FS TX
abbrev sMods : Stmt := top (TX.o + 20)
theorem pass_f {X : Cx} : Passes (L2.CX X.prog X.w) X (fun _ _ _ => False) := fun pins σ H s e s' I h => by
  obtain ⟨a, B, H', cls, d, rfl, fl, hok, ub, na, os, ag, hE⟩ := h
  exact hE.elim
section
variable {κ β : Type} [DecidableEq κ]
theorem look_mem {l : List (κ × β)} {k : κ} : (look l k).isSome = true ↔ k ∈ keys l := by
  induction l with
  | nil => simp [look, keys]
  | cons p r ih =>
    unfold look
    by_cases q : p.1 = k
    · rw [if_pos q]
      exact ⟨fun _ => by rw [← q]; exact List.mem_cons_self .., fun _ => rfl⟩
    · rw [if_neg q, ih]
      show k ∈ keys r ↔ k ∈ p.1 :: keys r
      rw [List.mem_cons]
      exact ⟨.inr, fun h => h.elim (fun e => absurd e.symm q) id⟩
theorem look_none {l : List (κ × β)} {k : κ} (h : k ∉ keys l) : look l k = none := by
  cases e : look l k with
  | none => rfl
  | some b => exact absurd (look_mem.mp (by rw [e]; rfl)) h
theorem put_new {l : List (κ × β)} {k : κ} {v : β} (h : k ∉ keys l) : PG.put l k v = l ++ [(k, v)] := by
  induction l with
  | nil => rfl
  | cons p r ih =>
    unfold PG.put
    rw [if_neg (fun q => h (by rw [← q]; exact List.mem_cons_self ..)), ih (fun m => h (List.mem_cons_of_mem _ m))]
    rfl
theorem keys_take (l : List (κ × β)) (i : Nat) : keys (l.take i) = (keys l).take i := by
  unfold keys
  rw [List.map_take]
theorem take_new {l : List (κ × β)} (nd : (keys l).Nodup) {i : Nat} {p : κ × β} (h : l[i]? = some p) : p.1 ∉ keys (l.take i) := by
  intro m
  rw [keys_take] at m
  obtain ⟨j, hj, e⟩ := List.mem_take_iff_getElem.mp m
  have hi : i < l.length := (List.getElem?_eq_some_iff.mp h).1
  have hk : (keys l)[i]? = some p.1 := by unfold keys; rw [List.getElem?_map, h]; rfl
  have hj2 : j < (keys l).length := by omega
  have hi2 : i < (keys l).length := (List.getElem?_eq_some_iff.mp hk).1
  have e2 : (keys l)[j] = (keys l)[i] := by rw [e, (List.getElem?_eq_some_iff.mp hk).2]
  have := (List.getElem_inj nd).mp e2
  omega
theorem look_at {l : List (κ × β)} (nd : (keys l).Nodup) {p : κ × β} (h : p ∈ l) : look l p.1 = some p.2 := by
  induction l with
  | nil => cases h
  | cons q r ih =>
    have nd' : q.1 ∉ keys r ∧ (keys r).Nodup := List.nodup_cons.mp nd
    unfold look
    rcases List.mem_cons.mp h with e | h
    · rw [if_pos (by rw [e]), e]
    · rw [if_neg (fun e => nd'.1 (by rw [e]; exact List.mem_map_of_mem h))]
      exact ih nd'.2 h
end
/-- modules that are read without a fault: by name -/
structure ModsOk (mods : List (Str × Str)) (ms : MS) : Prop where
  name : ∀ p ∈ mods, isName p.1 = true
  fit : ∀ p ∈ mods, FitT p.2
  nd : (keys mods).Nodup
  few : mods.length < 64
  srt : sortedS (keys ms) = true
  perm : (keys ms).Perm (keys mods)
  read : ∀ q ∈ ms, ∃ t, look mods q.1 = some t ∧ parseT t = .ok q.2
theorem ModsOk.nd2 {mods : List (Str × Str)} {ms : MS} (h : ModsOk mods ms) : (keys ms).Nodup := h.perm.nodup_iff.mpr h.nd
def txK (mods : List (Str × Str)) : List (Key × V) := mods.map fun p => (kS p.1, V.str p.2)
theorem tx_dr (mods : List (Str × Str)) : DR kS (fun t v => v = V.str t) mods (txK mods) := by
  unfold DR txK
  induction mods with
  | nil => exact .nil
  | cons p r ih => exact .cons ⟨rfl, rfl⟩ ih
theorem tx_look {mods : List (Str × Str)} {z t : Str} (h : look mods z = some t) : valV (txK mods) (kS z) = some (V.str t) := by
  obtain ⟨v, h1, h2⟩ := (tx_dr mods).get kS_in h
  rw [h1, h2]
def ParN (CM CP : Addr) (H : Hp) (d : Addr) (ms : MS) : Prop := ∃ kvs, H d = some (.dK kvs) ∧ DR kS (ModR CM CP H) ms kvs
theorem ParN.r {CM CP : Addr} {H : Hp} {d : Addr} {ms : MS} (h : ParN CM CP H d ms) : ParR CM CP H d ms := let ⟨k, a, b⟩ := h; ⟨k, .inl a, b⟩
section
variable {P : Program} {w : World} {K : PySem.W.Frag} {mg : Str → Option Value} {base : Heap} {aO aR dF CD CP CM CB : Addr} {es : Array DictEntry} {nF : Nat} {tF : Str → Addr}
def spMods (CM CP : Addr) : Sp := fun vs H Q _ => ∃ d mods ms, vs = [.ref d] ∧ H d = some (.dK (txK mods)) ∧ ModsOk mods ms ∧ ∀ H' p, Same H H' → H p = none → ParN CM CP H' p ms → Q (.ref p) H'
theorem scPMs : FnScope ["modules", "key", "parsed", "name", "error"] ["modules"] (defScope sMods) := ⟨rfl, rfl, rfl, by decide +kernel, rfl, by decide +kernel, by decide +kernel⟩
theorem ok_mods {f fN fP : Addr} {fd fdN fdP : FuncData} (F : Fun K "parse_modules" "parse_modules" sMods f fd) (zs : mg "sorted" = none)
    (GN : FnOk P w K mg base CX0 1 fN fdN ["value"] (spIsName K)) (bN : Binds K fdN ["value"] []) (gN : mg "is_name" = some (.ref fN)) (kN : PySem.W.keepIn K (.ref fN) = true)
    (GP : FnOk P w K mg base (L2.CX P w) 7 fP fdP ["text"] (spParse K CB CM CP)) (bP : Binds K fdP ["text"] []) (gP : mg "parse_module" = some (.ref fP)) (kP : PySem.W.keepIn K (.ref fP) = true) : FnOk P w K mg base CX0 8 f fd ["modules"] (spMods CM CP) := by
  refine F.ok scPMs (fun vs H Q E h => ?_) (fun cdv A outer s H vs Q E hr h => ?_)
  · obtain ⟨d, mods, ms, rfl, _⟩ := h
    rfl
  · obtain ⟨d, mods, ms, rfl, hd, ok, q⟩ := h
    have hu := hu_of hr
    have hr1 : Room 1 _ := hr.mono (by decide)
    refine ⟨_, pss_cons (ps_lock (ps_for PassesOwn.never rfl (pi_keys (pv 0)) (pg_name (i := 1) scPMs.nd rfl (.inl rfl))
        (pss_one (ps_if (pt_not (pt_val (pe_call GN hr1 rfl gN kN bN .nil pass0 (pa_cons (pv 1) pa_nil)))) (pss_one ps_never) pss_nil))))
      (pss_cons (ps_set (i := 2) scPMs.nd rfl (.inl rfl) pe_dictS)
      (pss_cons (ps_for PassesOwn.never rfl (pi_list (pe_callB (call_sortedD rfl) (by rfl) zs (by decide +kernel) (pa_cons (pv 0) pa_nil))) (pg_name (i := 3) scPMs.nd rfl (.inl rfl))
        (pss_one (ps_try_thru0 (pss_one (ps_dput hu (pv 2) (pv 3) (pe_call GP hr rfl gP kP bP .nil pass_f (pa_cons (pe_dget hu (pv 0) (pv 3) (fun _ _ => rfl)) pa_nil)) rfl)))))
      (pss_one (ps_ret (pv 2))))), ?_⟩
    have hlen : (txK mods).length = mods.length := List.length_map ..
    refine ⟨d, .dK (txK mods), hd, trivial, fun od => ?_⟩
    refine ⟨.ref d, rfl, d, od, rfl, .inl ⟨txK mods, upd_same, ?_⟩⟩
    refine for_it walk_keys (fun i σ H' => ∃ v, σ = [some (.ref d), v, none, none, none] ∧ Same (upd H d (.frz od (.dK (txK mods)))) H') ⟨none, rfl, Same.refl _⟩ (fun i σ H' _ ⟨_, _, h⟩ => h _ _ upd_same) (fun i x σ H1 H2 hi ⟨v, hσ, s1⟩ ⟨eH, k, v0, hk, ex⟩ => ?_) (fun σ H1 ⟨v, hσ, s1⟩ => ?_)
    · subst eH hσ
      obtain ⟨p, hp1, hp2⟩ : ∃ p ∈ mods, k = kS p.1 := by
        unfold txK at hk
        rw [List.getElem?_map] at hk
        obtain ⟨p, h1, h2⟩ := Option.map_eq_some_iff.mp hk
        cases h2
        exact ⟨p, List.mem_of_getElem? h1, rfl⟩
      subst hp2
      subst ex
      have hn := ok.name p hp1
      have hz : p.1.length ≤ sizeLine := by
        have : p.1.length ≤ 8 := by
          unfold isName at hn
          simp only [Bool.and_eq_true, decide_eq_true_eq] at hn
          exact hn.1.1.1.1.2
        rw [sizeLine_eq]
        omega
      refine ⟨.str p.1, rfl, .str p.1, rfl, .inl ⟨p.1, rfl, hz, fun H' s' => ⟨_, rfl, ?_⟩⟩⟩
      rw [hn]
      exact iteF ⟨_, rfl, s1.trans s'⟩
    · subst hσ
      have s2 : Same H (upd H1 d (.dK (txK mods))) := unlock hd s1
      refine ⟨s1 _ _ upd_same, ?_⟩
      generalize hH2 : upd H1 d (.dK (txK mods)) = H2 at s2 ⊢
      have hd2 : H2 d = some (.dK (txK mods)) := s2 _ _ hd
      refine fun dp H3 s3 n3 e3 => ?_
      have hd3 := s3 _ _ hd2
      have nd0 : H dp = none := same_none s2 n3
      have edp : dp ≠ d := (ne_of_none hd2 n3).symm
      refine ⟨.ref d, rfl, d, txK mods, keys mods, rfl, .inl hd3, ?_, by rw [show (keys mods).length = mods.length from List.length_map ..]; exact ok.few, fun ys p perm sor np => ?_⟩
      · unfold txK keys
        rw [List.map_map, List.map_map]
        rfl
      have eys : ys = keys ms := _root_.MP.sort_unique (perm.trans ok.perm.symm) sor ok.srt
      subst eys
      have sp : Same H3 (upd H3 p (.lst ((keys ms).map V.str))) := same_new np
      refine ⟨p, rfl, ⟨_, SqL.of upd_same⟩, ?_⟩
      refine for_list (xs := (keys ms).map V.str) (fun i σ H' => ∃ v v3 kvs, σ = [some (.ref d), v, some (.ref dp), v3, none] ∧ Same H H' ∧ H' d = some (.dK (txK mods)) ∧ H' p = some (.lst ((keys ms).map V.str)) ∧ H' dp = some (.dK kvs) ∧ DR kS (ModD CM CP H' dp) (ms.take i) kvs)
        ⟨v, none, [], rfl, (s2.trans s3).trans sp, sp _ _ hd3, upd_same, sp _ _ e3, .nil⟩ (fun i σ H' _ ⟨_, _, _, _, _, _, h, _⟩ => SqL.of h) (fun i x σ H4 hx ⟨v, v3, kvs, hσ, s4, hd4, hp4, hdp4, hdr⟩ => ?_) (fun σ H4 ⟨v, v3, kvs, hσ, s4, hd4, hp4, hdp4, hdr⟩ => ?_)
      · subst hσ
        rw [List.getElem?_map] at hx
        obtain ⟨z, hz1, hz2⟩ := Option.map_eq_some_iff.mp hx
        subst hz2
        unfold keys at hz1
        rw [List.getElem?_map] at hz1
        obtain ⟨⟨z', st⟩, hq1, hq2⟩ := Option.map_eq_some_iff.mp hz1
        have hq2 : z' = z := hq2
        subst hq2
        have hi : i < ms.length := (List.getElem?_eq_some_iff.mp hq1).1
        obtain ⟨t, ht1, ht2⟩ := ok.read _ (List.mem_of_getElem? hq1)
        have ft : FitT t := by
          have key : ∀ l : List (Str × Str), look l z' = some t → (z', t) ∈ l := by
            intro l
            induction l with
            | nil => intro e; cases e
            | cons a r ih =>
              intro e
              unfold look at e
              by_cases q : a.1 = z'
              · rw [if_pos q] at e
                have : a = (z', t) := Prod.ext q (Option.some.inj e)
                rw [this]
                exact List.mem_cons_self ..
              · rw [if_neg q] at e
                exact List.mem_cons_of_mem _ (ih e)
          exact ok.fit _ (key mods ht1)
        refine ⟨.ref d, rfl, .str z', rfl, d, .str t, rfl, .inl ⟨txK mods, kS z', .inl hd4, rfl, (tx_look ht1).symm⟩, .str t, rfl, .inr ⟨t, rfl, ft, fun j ej => ?_, fun st' est H5 m s5 nm hm => ?_⟩⟩
        · rw [ht2] at ej
          cases ej
        · have : st' = st := by
            rw [ht2] at est
            cases est
            rfl
          subst this
          have hdp5 := s5 _ _ hdp4
          have hdr5 : DR kS (ModD CM CP H5 dp) (ms.take i) kvs := hdr.mono fun _ _ h => h.same s5
          have hm5 : ModD CM CP H5 dp st' (.ref m) := ModD.of hm hdp4
          have new := take_new ok.nd2 hq1
          have hl : kvs.length < sizeLine := by
            rw [← hdr5.len, List.length_take]
            have := ok.perm.length_eq
            rw [show (keys ms).length = ms.length from List.length_map .., show (keys mods).length = mods.length from List.length_map ..] at this
            have := ok.few
            exact small1000 (by omega)
          refine ⟨.ref dp, rfl, .str z', rfl, dp, _, rfl, DPut.k (k := kS z') hdp5 hl, ?_⟩
          refine ⟨v, some (.str z'), putK kvs (kS z') (.ref m), rfl, ?_, ?_, ?_, upd_same, ?_⟩
          · intro b o e
            rw [upd_ne (ne_of_none e nd0)]
            exact s5 _ _ (s4 _ _ e)
          · rw [upd_ne edp.symm]
            exact s5 _ _ hd4
          · rw [upd_ne (ne_of (s5 _ _ hp4) hdp5 (by intro z; cases z))]
            exact s5 _ _ hp4
          · have h2 : DR kS (ModD CM CP (upd H5 dp (.dK (putK kvs (kS z') (.ref m)))) dp) (ms.take i) kvs := hdr5.mono fun _ _ h => h.put hdp5
            have h3 := h2.put kS_in (by rw [keys_take]; exact (List.take_sublist _ _).nodup ok.nd2) (k := z') (hm5.put (kv1 := putK kvs (kS z') (.ref m)) hdp5)
            rw [put_new new] at h3
            rw [List.take_add_one, hq1]
            exact h3
      · subst hσ
        refine ⟨.ref dp, rfl, q H4 dp s4 nd0 ⟨kvs, hdp4, ?_⟩⟩
        have hl : ((keys ms).map V.str).length = ms.length := by rw [List.length_map, show (keys ms).length = ms.length from List.length_map ..]
        rw [hl, List.take_length] at hdr
        exact hdr.mono fun _ _ h => h.r
end
end PG

set_option Elab.async false
set_option linter.all false
set_option maxRecDepth 100000
set_option maxHeartbeats 4000000
/-! A scope, while modules enter it. -/
namespace PG
open PySem PySem.Spec PyProof.Rows L2 L2.FK FS TX
abbrev sScope (j : Nat) : Stmt := inClass (top (TX.o + 21)) j
structure TS (K : PySem.W.Frag) (CS CP CM : Addr) : Prop where
  cS : Cls K CS
  nPar : NoAttr K CS "parsed"
  nAli : NoAttr K CS "aliases"
  nExp : NoAttr K CS "exporters"
  nPie : NoAttr K CS "pieces"
  neP : CP ≠ CS
  neM : CM ≠ CS
section
variable {κ κ' β : Type} [DecidableEq κ] [DecidableEq κ'] {ke : κ → κ'} {R R' : β → V → Prop}
theorem look_in {l : List (κ × β)} {j : κ} {c : β} (e : look l j = some c) : j ∈ keys l := look_mem.mp (by rw [e]; rfl)
theorem DR.upg (inj : ∀ a b, ke a = ke b → a = b) {l : List (κ × β)} {kvs : List (κ' × V)} (h : DR ke R l kvs) (nd : (keys l).Nodup) (f : ∀ j c u, look l j = some c → valV kvs (ke j) = some u → R c u → R' c u) : DR ke R' l kvs := by
  unfold DR at h ⊢
  induction h with
  | nil => exact .nil
  | @cons p kv l kvs h t ih =>
    have nd' : p.1 ∉ keys l ∧ (keys l).Nodup := List.nodup_cons.mp nd
    refine .cons ⟨h.1, f p.1 p.2 kv.2 ?_ (valV_pos h.1) h.2⟩ (ih nd'.2 fun j c u e1 e2 r => f j c u ?_ ?_ r)
    · unfold look
      rw [if_pos rfl]
    · have ne : ¬ p.1 = j := fun q => nd'.1 (by rw [q]; exact look_in e1)
      unfold look
      rw [if_neg ne]
      exact e1
    · have ne : ¬ p.1 = j := fun q => nd'.1 (by rw [q]; exact look_in e1)
      rw [valV_neg (fun z => ne (inj _ _ (h.1.symm.trans z)))]
      exact e2
/-- the value at k changes in its place -/
theorem DR.at (inj : ∀ a b, ke a = ke b → a = b) {l : List (κ × β)} {kvs : List (κ' × V)} (h : DR ke R l kvs) (nd : (keys l).Nodup) {k : κ} {b b' : β} {v : V} (hk : look l k = some b) (hv : valV kvs (ke k) = some v) (new : R' b' v)
    (f : ∀ j c u, j ≠ k → look l j = some c → valV kvs (ke j) = some u → R c u → R' c u) : DR ke R' (PG.put l k b') kvs := by
  unfold DR at h
  induction h with
  | nil => cases hk
  | @cons p kv l kvs h t ih =>
    have nd' : p.1 ∉ keys l ∧ (keys l).Nodup := List.nodup_cons.mp nd
    unfold PG.put
    by_cases q : p.1 = k
    · rw [if_pos q]
      have ev : kv.2 = v := by
        rw [valV_pos (by rw [h.1, q])] at hv
        exact Option.some.inj hv
      refine .cons ⟨h.1, by rw [ev]; exact new⟩ (DR.upg (R := R) inj t nd'.2 fun j c u e1 e2 r => f j c u (fun e => nd'.1 (by rw [q, ← e]; exact look_in e1)) ?_ ?_ r)
      · have ne : ¬ p.1 = j := fun e => nd'.1 (by rw [e]; exact look_in e1)
        unfold look
        rw [if_neg ne]
        exact e1
      · have ne : ¬ p.1 = j := fun e => nd'.1 (by rw [e]; exact look_in e1)
        rw [valV_neg (fun z => ne (inj _ _ (h.1.symm.trans z)))]
        exact e2
    · rw [if_neg q]
      have hk2 : look l k = some b := by
        unfold look at hk
        rw [if_neg q] at hk
        exact hk
      have hv2 : valV kvs (ke k) = some v := by
        rw [valV_neg (fun z => q (inj _ _ (h.1.symm.trans z)))] at hv
        exact hv
      refine .cons ⟨h.1, f p.1 p.2 kv.2 q ?_ (valV_pos h.1) h.2⟩ (ih nd'.2 hk2 hv2 fun j c u nj e1 e2 r => f j c u nj ?_ ?_ r)
      · unfold look
        rw [if_pos rfl]
      · have ne : ¬ p.1 = j := fun e => nd'.1 (by rw [e]; exact look_in e1)
        unfold look
        rw [if_neg ne]
        exact e1
      · have ne : ¬ p.1 = j := fun e => nd'.1 (by rw [e]; exact look_in e1)
        rw [valV_neg (fun z => ne (inj _ _ (h.1.symm.trans z)))]
        exact e2
end
/-- a list of texts that is new -/
def ExL (H0 H : Hp) (zs : List Str) (v : V) : Prop := ∃ l, v = .ref l ∧ H l = some (.lst (zs.map V.str)) ∧ H0 l = none
structure ScB (CS CP a : Addr) (H0 H : Hp) (P : V) (da de dc : Addr) (s : Sc) (c : Nat) : Prop where
  off : Off a H0 H
  ob : ∃ dx, H a = some (.ins CS dx (sflds P (.ref da) (.ref de) (.ref dc)))
  na : H0 da = none
  ne : H0 de = none
  nc : H0 dc = none
  dne : de ≠ dc
  alD : ∃ kvs, H da = some (.dT kvs) ∧ DR kT (fun z v => v = .str z) s.al kvs
  exD : ∃ kvs, H de = some (.dK kvs) ∧ DR kS (ExL H0 H) s.ex kvs ∧ ∀ k1 k2 l, valV kvs k1 = some (.ref l) → valV kvs k2 = some (.ref l) → k1 = k2
  pcD : ∃ kvs, H dc = some (.dK kvs) ∧ DR kS (PieceAt CP H0) s.pc kvs
  nd1 : (keys s.al).Nodup
  nd2 : (keys s.ex).Nodup
  nd3 : (keys s.pc).Nodup
  few : ∀ z zs, look s.ex z = some zs → zs.length ≤ c
section
variable {CS CP a : Addr} {H0 H H' : Hp} {P : V} {da de dc : Addr} {s : Sc} {c : Nat}
theorem ScB.same (h : ScB CS CP a H0 H P da de dc s c) (k : Same H H') : ScB CS CP a H0 H' P da de dc s c := by
  obtain ⟨dx, e1⟩ := h.ob
  obtain ⟨k1, e2, e3⟩ := h.alD
  obtain ⟨k2, e4, e5, e6⟩ := h.exD
  obtain ⟨k3, e7, e8⟩ := h.pcD
  exact ⟨fun b o n e => k _ _ (h.off b o n e), ⟨dx, k _ _ e1⟩, h.na, h.ne, h.nc, h.dne, ⟨k1, k _ _ e2, e3⟩, ⟨k2, k _ _ e4, e5.mono fun _ _ ⟨l, x1, x2, x3⟩ => ⟨l, x1, k _ _ x2, x3⟩, e6⟩, ⟨k3, k _ _ e7, e8⟩, h.nd1, h.nd2, h.nd3, h.few⟩
theorem ScB.putAl (h : ScB CS CP a H0 H P da de dc s c) {kvs : List (List Key × V)} (e : H da = some (.dT kvs)) (r : DR kT (fun z v => v = .str z) s.al kvs) (p : Str × Str) (o : Str) :
    ScB CS CP a H0 (upd H da (.dT (putK kvs (kT p) (.str o)))) P da de dc { s with al := put s.al p o } c := by
  obtain ⟨dx, e1⟩ := h.ob
  obtain ⟨k2, e4, e5, e6⟩ := h.exD
  obtain ⟨k3, e7, e8⟩ := h.pcD
  refine ⟨fun b x n eb => ?_, ⟨dx, ?_⟩, h.na, h.ne, h.nc, h.dne, ⟨_, upd_same, r.put kT_in h.nd1 rfl⟩, ⟨k2, ?_, e5.mono fun _ _ ⟨l, x1, x2, x3⟩ => ⟨l, x1, by rw [upd_ne (ne_of x2 e (by intro z; cases z))]; exact x2, x3⟩, e6⟩, ⟨k3, ?_, e8⟩, put_nodup h.nd1, h.nd2, h.nd3, h.few⟩
  · rw [upd_ne (ne_of_none eb h.na)]; exact h.off b x n eb
  · rw [upd_ne (ne_of e1 e (by intro z; cases z))]; exact e1
  · rw [upd_ne (ne_of e4 e (by intro z; cases z))]; exact e4
  · rw [upd_ne (ne_of e7 e (by intro z; cases z))]; exact e7
theorem ScB.putPc (h : ScB CS CP a H0 H P da de dc s c) {kvs : List (Key × V)} (e : H dc = some (.dK kvs)) (r : DR kS (PieceAt CP H0) s.pc kvs) (z : Str) {p : MP} {v : V} (hp : PieceAt CP H0 p v) :
    ScB CS CP a H0 (upd H dc (.dK (putK kvs (kS z) v))) P da de dc { s with pc := put s.pc z p } c := by
  obtain ⟨dx, e1⟩ := h.ob
  obtain ⟨k1, e2, e3⟩ := h.alD
  obtain ⟨k2, e4, e5, e6⟩ := h.exD
  refine ⟨fun b x n eb => ?_, ⟨dx, ?_⟩, h.na, h.ne, h.nc, h.dne, ⟨k1, ?_, e3⟩, ⟨k2, ?_, e5.mono fun _ _ ⟨l, x1, x2, x3⟩ => ⟨l, x1, by rw [upd_ne (ne_of x2 e (by intro z; cases z))]; exact x2, x3⟩, e6⟩, ⟨_, upd_same, r.put kS_in h.nd3 hp⟩, h.nd1, h.nd2, put_nodup h.nd3, h.few⟩
  · rw [upd_ne (ne_of_none eb h.nc)]; exact h.off b x n eb
  · rw [upd_ne (ne_of e1 e (by intro z; cases z))]; exact e1
  · rw [upd_ne (ne_of e2 e (by intro z; cases z))]; exact e2
  · rw [upd_ne h.dne]; exact e4
theorem few_put {l : List (Str × List Str)} {c : Nat} {z n : Str} (h : ∀ y ys, look l y = some ys → ys.length ≤ c) : ∀ y ys, look (put l z ((look l z).getD [] ++ [n])) y = some ys → ys.length ≤ c + 1 := by
  intro y ys e
  rw [look_put] at e
  by_cases q : y = z
  · rw [if_pos q] at e
    cases e
    rw [List.length_append, List.length_singleton]
    cases e2 : look l z with
    | none => simp
    | some zs =>
      have := h z zs e2
      show zs.length + 1 ≤ c + 1
      omega
  · rw [if_neg q] at e
    exact Nat.le_succ_of_le (h y ys e)
/-- a module more for a name that some export -/
theorem ScB.putExO (h : ScB CS CP a H0 H P da de dc s c) {kvs : List (Key × V)} (e : H de = some (.dK kvs)) (r : DR kS (ExL H0 H) s.ex kvs) (ij : ∀ k1 k2 l, valV kvs k1 = some (.ref l) → valV kvs k2 = some (.ref l) → k1 = k2) {z n : Str} {zs : List Str} {l : Addr}
    (hz : look s.ex z = some zs) (hv : valV kvs (kS z) = some (.ref l)) (hl : H l = some (.lst (zs.map V.str))) (hn : H0 l = none) :
    ScB CS CP a H0 (upd H l (.lst (zs.map V.str ++ [.str n]))) P da de dc { s with ex := enterEx n s.ex z } (c + 1) := by
  obtain ⟨dx, e1⟩ := h.ob
  obtain ⟨k1, e2, e3⟩ := h.alD
  obtain ⟨k3, e7, e8⟩ := h.pcD
  have eE : enterEx n s.ex z = put s.ex z (zs ++ [n]) := by
    unfold enterEx
    rw [hz]
    rfl
  refine ⟨fun b x n eb => ?_, ⟨dx, ?_⟩, h.na, h.ne, h.nc, h.dne, ⟨k1, ?_, e3⟩, ⟨kvs, ?_, ?_, ij⟩, ⟨k3, ?_, e8⟩, h.nd1, put_nodup h.nd2, h.nd3, few_put h.few⟩
  · rw [upd_ne (ne_of_none eb hn)]; exact h.off b x n eb
  · rw [upd_ne (ne_of e1 hl (by intro z; cases z))]; exact e1
  · rw [upd_ne (ne_of e2 hl (by intro z; cases z))]; exact e2
  · rw [upd_ne (ne_of e hl (by intro z; cases z))]; exact e
  · show DR kS _ (enterEx n s.ex z) kvs
    rw [eE]
    refine r.at kS_in h.nd2 hz hv ⟨l, rfl, by rw [upd_same, List.map_append]; rfl, hn⟩ fun j d u nj e9 e10 ⟨l2, x1, x2, x3⟩ => ⟨l2, x1, by rw [upd_ne (fun q => nj (kS_in _ _ (ij _ _ l (by rw [← q, ← x1]; exact e10) hv)))]; exact x2, x3⟩
  · rw [upd_ne (ne_of e7 hl (by intro z; cases z))]; exact e7
/-- .. that nobody exported yet: the list at p is new -/
theorem ScB.putExN (h : ScB CS CP a H0 H P da de dc s c) {kvs : List (Key × V)} (e : H de = some (.dK kvs)) (r : DR kS (ExL H0 H) s.ex kvs) (ij : ∀ k1 k2 l, valV kvs k1 = some (.ref l) → valV kvs k2 = some (.ref l) → k1 = k2) {z n : Str} {p : Addr}
    (hz : look s.ex z = none) (hp : H p = none) :
    ScB CS CP a H0 (upd (upd (upd H p (.lst [])) de (.dK (putK kvs (kS z) (.ref p)))) p (.lst [.str n])) P da de dc { s with ex := enterEx n s.ex z } (c + 1) := by
  obtain ⟨dx, e1⟩ := h.ob
  obtain ⟨k1, e2, e3⟩ := h.alD
  obtain ⟨k3, e7, e8⟩ := h.pcD
  have eE : enterEx n s.ex z = put s.ex z [n] := by
    unfold enterEx
    rw [hz]
    rfl
  have pa : ∀ {b : Addr} {o : HO}, H b = some o → b ≠ p := fun h => ne_of_none h hp
  have np0 : H0 p = none := by
    cases q : H0 p with
    | none => rfl
    | some o =>
      by_cases ep : p = a
      · rw [ep, e1] at hp; cases hp
      · rw [h.off p o ep q] at hp; cases hp
  have ndep : de ≠ p := pa e
  have hv0 := r.non kS_in hz
  have new : ∀ {k : Key} {l : Addr}, valV kvs k = some (.ref l) → (∃ zs, look s.ex (match k with | .inr y => y | .inl _ => "") = some zs) → True := fun _ _ => trivial
  have old : ∀ {k : Key} {u : V}, valV kvs k = some u → ∃ l zs, u = .ref l ∧ H l = some (.lst (zs)) := by
    intro k u hu
    have : ∀ {l : List (Str × List Str)} {kvs : List (Key × V)}, DR kS (ExL H0 H) l kvs → valV kvs k = some u → ∃ l zs, u = .ref l ∧ H l = some (.lst zs) := by
      intro l kvs hd
      unfold DR at hd
      induction hd with
      | nil => intro e; cases e
      | @cons p kv l kvs hh t ih =>
        intro e
        by_cases q : kv.1 = k
        · rw [valV_pos q] at e
          obtain ⟨l, x1, x2, _⟩ := hh.2
          exact ⟨l, _, (Option.some.inj e).symm.trans x1, x2⟩
        · rw [valV_neg q] at e
          exact ih e
    exact this r hu
  refine ⟨fun b x nb eb => ?_, ⟨dx, ?_⟩, h.na, h.ne, h.nc, h.dne, ⟨k1, ?_, e3⟩, ⟨putK kvs (kS z) (.ref p), ?_, ?_, ?_⟩, ⟨k3, ?_, e8⟩, h.nd1, put_nodup h.nd2, h.nd3, few_put h.few⟩
  · rw [upd_ne (ne_of_none eb np0), upd_ne (ne_of_none eb h.ne), upd_ne (ne_of_none eb np0)]; exact h.off b x nb eb
  · rw [upd_ne (pa e1), upd_ne (ne_of e1 e (by intro z; cases z)), upd_ne (pa e1)]; exact e1
  · rw [upd_ne (pa e2), upd_ne (ne_of e2 e (by intro z; cases z)), upd_ne (pa e2)]; exact e2
  · rw [upd_ne ndep]; exact upd_same
  · show DR kS _ (enterEx n s.ex z) _
    rw [eE]
    refine DR.put kS_in (DR.mono (fun _ _ ⟨l2, x1, x2, x3⟩ => ⟨l2, x1, by rw [upd_ne (pa x2), upd_ne (ne_of x2 e (by intro z; cases z)), upd_ne (pa x2)]; exact x2, x3⟩) r) h.nd2 ⟨p, rfl, upd_same, np0⟩
  · intro k1 k2 l h1 h2
    rw [valV_put] at h1 h2
    by_cases q1 : k1 = kS z
    · by_cases q2 : k2 = kS z
      · rw [q1, q2]
      · rw [if_pos q1] at h1
        rw [if_neg q2] at h2
        cases h1
        obtain ⟨l, zs, x1, x2⟩ := old h2
        cases x1
        rw [hp] at x2
        cases x2
    · rw [if_neg q1] at h1
      by_cases q2 : k2 = kS z
      · rw [if_pos q2] at h2
        cases h2
        obtain ⟨l, zs, x1, x2⟩ := old h1
        cases x1
        rw [hp] at x2
        cases x2
      · rw [if_neg q2] at h2
        exact ij _ _ _ h1 h2
  · rw [upd_ne (pa e7), upd_ne h.dne.symm, upd_ne (pa e7)]; exact e7
end
end PG

set_option Elab.async false
set_option linter.all false
set_option maxRecDepth 100000
set_option maxHeartbeats 4000000
/-! A module enters a scope; a scope is made. -/
namespace PG
open PySem PySem.Spec PyProof.Rows L2 L2.FK FS TX
theorem fold_take {α β : Type} (f : β → α → β) (b : β) {xs : List α} {i : Nat} {x : α} (h : xs[i]? = some x) : (xs.take (i + 1)).foldl f b = f ((xs.take i).foldl f b) x := by
  rw [List.take_add_one, h, List.foldl_append]
  rfl
section
variable {P : Program} {w : World} {K : PySem.W.Frag} {mg : Str → Option Value} {base : Heap} {aO aR dF CD CP CM CB CS : Addr} {es : Array DictEntry} {nF : Nat} {tF : Str → Addr}
def spEnter (CS CM CP : Addr) : Sp := fun vs H Q _ => ∃ a n m P0 da de dc s c H0 st, vs = [.ref a, .str n, .ref m] ∧ ScB CS CP a H0 H P0 da de dc s c ∧ (∃ dxa fsa, H0 a = some (.ins CS dxa fsa)) ∧ ModR CM CP H0 st (.ref m) ∧
  s.al.length + st.al.length ≤ 900 ∧ s.ex.length + st.ex.length ≤ 900 ∧ s.pc.length + st.ps.length ≤ 900 ∧ c + st.ex.length ≤ 900 ∧ n.length ≤ 1000 ∧ (∀ p ∈ st.ps, p.name.length ≤ 1000) ∧
  ∀ H', ScB CS CP a H0 H' P0 da de dc (enter s n st) (c + st.ex.length) → (enter s n st).al.length ≤ s.al.length + st.al.length → (enter s n st).ex.length ≤ s.ex.length + st.ex.length → (enter s n st).pc.length ≤ s.pc.length + st.ps.length → Q .non H'
theorem scEn : FnScope ["self", "name", "module", "alias", "other", "export", "piece"] ["self", "name", "module"] (defScope (sScope 1)) := ⟨rfl, rfl, rfl, by decide +kernel, rfl, by decide +kernel, by decide +kernel⟩
theorem ok_enter {f : Addr} {fd : FuncData} (F : Fun K "enter" "Scope.enter" (sScope 1) f fd) (T : TC K CD CP) (M : TMd K CM) (S : TS K CS CP CM) : FnOk P w K mg base CX0 1 f fd ["self", "name", "module"] (spEnter CS CM CP) := by
  refine F.ok scEn (fun vs H Q E h => ?_) (fun cdv A outer s H vs Q E hr h => ?_)
  · obtain ⟨a, n, m, P0, da, de, dc, s, c, H0, st, rfl, _⟩ := h
    rfl
  · obtain ⟨a, n, m, P0, da, de, dc, s, c, H0, st, rfl, B, ⟨dxa, fsa, ha0⟩, hm, l1, l2, l3, l4, ln, lp, q⟩ := h
    have hu := hu_of hr
    obtain ⟨m', dxm, tp, te, ta, nd, pvs, avs, kvn, e0, h1, h2, h3, h4, h5, h6, h7, h8⟩ := hm
    cases e0
    refine ⟨_, pss_cons (ps_for PassesOwn.never rfl (pi_tup (pe_fld (pv 2) rfl)) (pg_tup rfl (pgs_cons (pg_name (i := 3) scEn.nd rfl (Or.inl rfl)) (pgs_cons (pg_name (i := 4) scEn.nd rfl (Or.inl rfl)) pgs_nil)))
        (pss_one (ps_dput hu (pe_fld (pv 0) rfl) (pe_tupS (pa_cons (pv 1) (pa_cons (pv 3) pa_nil))) (pv 4) rfl)))
      (pss_cons (ps_for PassesOwn.never rfl (pi_tup (pe_fld (pv 2) rfl)) (pg_name (i := 5) scEn.nd rfl (Or.inl rfl))
        (pss_one (ps_expr (pe_bm PySem.F.plainAttrs_list PySem.F.slot_list_append PySem.F.type_list_append mt_append (pe_dsetd (pe_fld (pv 0) rfl) (pv 5) (pe_lst pa_nil) ⟨by rfl, by rfl, by rfl, by rfl⟩) (pa_cons (pv 1) pa_nil)))))
      (pss_one (ps_for PassesOwn.never rfl (pi_tup (pe_fld (pv 2) rfl)) (pg_name (i := 6) scEn.nd rfl (Or.inl rfl))
        (pss_one (ps_dput hu (pe_fld (pv 0) rfl) (pe_op op_add_str (pe_op op_add_str (pv 1) pe_str) (pe_fld (pv 6) rfl)) (pv 6) rfl))))), ?_⟩
    -- what stood in H0 still stands
    have tupOf : ∀ {H' : Hp} {q : Addr} {xs : List V}, Off a H0 H' → H0 q = some (.tup xs) → H' q = some (.tup xs) := fun {H' q xs} o e => o _ _ (ne_of e ha0 (by intro z; cases z)) e
    have modOf : ∀ {H' : Hp}, Off a H0 H' → H' m = some (.ins CM dxm (mflds (.ref tp) (.ref te) (.ref ta) (.ref nd))) := fun {H'} o => o _ _ (ne_of h1 ha0 (by intro z; cases z; exact S.neM rfl)) h1
    have hm0 := modOf B.off
    refine ⟨.ref m, rfl, m, CM, dxm, _, .ref ta, rfl, hm0, M.cM, M.nAliases, rfl, ta, rfl, ⟨_, SqT.of (tupOf B.off h5)⟩, ?_⟩
    have lav : avs.length = st.al.length := h6.length.symm
    refine for_tup (xs := avs) (fun i σ H' => ∃ v3 v4, σ = [some (.ref a), some (.str n), some (.ref m), v3, v4, none, none] ∧ ScB CS CP a H0 H' P0 da de dc { s with al := (st.al.take i).foldl (enterAl n) s.al } c ∧ ((st.al.take i).foldl (enterAl n) s.al).length ≤ s.al.length + i)
      ⟨none, none, rfl, B, Nat.le_refl _⟩ (fun i σ H' _ ⟨_, _, _, h, _⟩ => SqT.of (tupOf h.off h5)) (fun i x σ H1 hx ⟨v3, v4, hσ, B1, z1⟩ => ?_) (fun σ H1 ⟨v3, v4, hσ, B1, z1⟩ => ?_)
    · subst hσ
      obtain ⟨p, hp1, qa, rfl, hqa⟩ := pair_get h6 hx
      obtain ⟨dx, ob⟩ := B1.ob
      obtain ⟨kvs, e1, e2⟩ := B1.alD
      have hlt : i < st.al.length := (List.getElem?_eq_some_iff.mp hp1).1
      refine ⟨qa, _, rfl, SqT.of (tupOf B1.off hqa), rfl, _, _, rfl, _, _, rfl, rfl, ?_⟩
      refine ⟨.str p.2, rfl, .ref a, rfl, a, CS, dx, _, .ref da, rfl, ob, S.cS, S.nAli, rfl, .str n, rfl, .str p.1, rfl, (by show 2 ≤ 1000; decide), fun b H2 s2 nb eb => ?_⟩
      have e3 := s2 _ _ e1
      refine ⟨da, _, rfl, DPut.t (k := kT (n, p.1)) e3 eb ?_, ?_⟩
      · have : ((st.al.take i).foldl (enterAl n) s.al).length = kvs.length := e2.len
        exact small1000 (by omega)
      · have B2 := (B1.same s2).putAl e3 e2 (n, p.1) p.2
        refine ⟨_, _, rfl, ?_, ?_⟩
        · rw [fold_take _ _ hp1]
          exact B2
        · rw [fold_take _ _ hp1]
          have : (enterAl n ((st.al.take i).foldl (enterAl n) s.al) p).length ≤ ((st.al.take i).foldl (enterAl n) s.al).length + 1 := put_len
          omega
    · subst hσ
      rw [lav, List.take_length] at B1 z1
      have hm1 := modOf B1.off
      refine ⟨.ref m, rfl, m, CM, dxm, _, .ref te, rfl, hm1, M.cM, M.nExports, rfl, te, rfl, ⟨_, SqT.of (tupOf B1.off h4)⟩, ?_⟩
      refine for_tup (xs := st.ex.map V.str) (fun i σ H' => ∃ v5, σ = [some (.ref a), some (.str n), some (.ref m), v3, v4, v5, none] ∧ ScB CS CP a H0 H' P0 da de dc ⟨st.al.foldl (enterAl n) s.al, (st.ex.take i).foldl (enterEx n) s.ex, s.pc⟩ (c + i) ∧ ((st.ex.take i).foldl (enterEx n) s.ex).length ≤ s.ex.length + i)
        ⟨none, rfl, B1, Nat.le_refl _⟩ (fun i σ H' _ ⟨_, _, h, _⟩ => SqT.of (tupOf h.off h4)) (fun i x σ H2 hx ⟨v5, hσ, B2, z2⟩ => ?_) (fun σ H2 ⟨v5, hσ, B2, z2⟩ => ?_)
      · subst hσ
        rw [List.getElem?_map] at hx
        obtain ⟨z, hz1, hz2⟩ := Option.map_eq_some_iff.mp hx
        subst hz2
        have hlt : i < st.ex.length := (List.getElem?_eq_some_iff.mp hz1).1
        obtain ⟨dx, ob⟩ := B2.ob
        obtain ⟨kvs, e1, e2, ij⟩ := B2.exD
        have hlen : kvs.length < sizeLine := by
          have : ((st.ex.take i).foldl (enterEx n) s.ex).length = kvs.length := e2.len
          exact small1000 (by omega)
        have zz : ((st.ex.take (i + 1)).foldl (enterEx n) s.ex).length ≤ s.ex.length + (i + 1) := by
          rw [fold_take _ _ hz1]
          have : (enterEx n ((st.ex.take i).foldl (enterEx n) s.ex) z).length ≤ ((st.ex.take i).foldl (enterEx n) s.ex).length + 1 := put_len
          omega
        refine ⟨.ref a, rfl, a, CS, dx, _, .ref de, rfl, ob, S.cS, S.nExp, rfl, de, rfl, .inl ⟨kvs, .inl e1⟩, .str z, rfl, (by show 0 ≤ sizeLine; exact Nat.zero_le _), fun p np => ?_⟩
        have ndp : de ≠ p := ne_of_none e1 np
        refine ⟨kvs, kS z, by rw [upd_ne ndp]; exact e1, rfl, hlen, fun v hv => ?_, fun hn => ?_⟩
        · -- somebody exports it
          obtain ⟨zs, hzs⟩ : ∃ zs, look ((st.ex.take i).foldl (enterEx n) s.ex) z = some zs := by
            have := e2.isSome kS_in z
            rw [hv] at this
            exact Option.isSome_iff_exists.mp this.symm
          obtain ⟨v', hv', l, ev, hl, hl0⟩ := e2.get kS_in hzs
          rw [hv] at hv'
          cases hv'
          subst ev
          have sp : Same H2 (upd H2 p (.lst [])) := same_new np
          have B3 := B2.same sp
          have hl2 := sp _ _ hl
          refine ⟨.inl ⟨rfl, _, SqL.of hl2⟩, .str n, rfl, l, zs.map V.str, .str n, rfl, rfl, hl2, ?_, ?_⟩
          · rw [List.length_map]
            have := B2.few z zs hzs
            exact small1000 (by omega)
          · refine ⟨_, rfl, ?_, zz⟩
            rw [fold_take _ _ hz1]
            exact B3.putExO (sp _ _ e1) (e2.mono fun _ _ ⟨l, x1, x2, x3⟩ => ⟨l, x1, sp _ _ x2, x3⟩) ij hzs hv hl2 hl0
        · have hz0 : look ((st.ex.take i).foldl (enterEx n) s.ex) z = none := by
            have := e2.isSome kS_in z
            rw [hn] at this
            cases q : look ((st.ex.take i).foldl (enterEx n) s.ex) z with
            | none => rfl
            | some _ => rw [q] at this; cases this
          have hp : (upd (upd H2 p (.lst [])) de (.dK (putK kvs (kS z) (.ref p)))) p = some (.lst []) := by
            rw [upd_ne ndp.symm]
            exact upd_same
          refine ⟨.inl ⟨rfl, _, SqL.of hp⟩, .str n, rfl, p, [], .str n, rfl, rfl, hp, (by show 0 < sizeLine; exact small1000 (by decide)), ?_⟩
          refine ⟨_, rfl, ?_, zz⟩
          rw [fold_take _ _ hz1]
          exact B2.putExN e1 e2 ij hz0 np
      · subst hσ
        rw [List.length_map, List.take_length] at B2 z2
        have hm2 := modOf B2.off
        refine ⟨.ref m, rfl, m, CM, dxm, _, .ref tp, rfl, hm2, M.cM, M.nPieces, rfl, tp, rfl, ⟨_, SqT.of (tupOf B2.off h2)⟩, ?_⟩
        have lpv : pvs.length = st.ps.length := h3.length.symm
        refine for_tup (xs := pvs) (fun i σ H' => ∃ v6, σ = [some (.ref a), some (.str n), some (.ref m), v3, v4, v5, v6] ∧ ScB CS CP a H0 H' P0 da de dc ⟨st.al.foldl (enterAl n) s.al, st.ex.foldl (enterEx n) s.ex, (st.ps.take i).foldl (enterPc n) s.pc⟩ (c + st.ex.length) ∧ ((st.ps.take i).foldl (enterPc n) s.pc).length ≤ s.pc.length + i)
          ⟨none, rfl, B2, Nat.le_refl _⟩ (fun i σ H' _ ⟨_, _, h, _⟩ => SqT.of (tupOf h.off h2)) (fun i x σ H3 hx ⟨v6, hσ, B3, z3⟩ => ?_) (fun σ H3 ⟨v6, hσ, B3, z3⟩ => ?_)
        · subst hσ
          obtain ⟨p, hp1, hp2⟩ := pair_get h3 hx
          have hp3 := hp2
          obtain ⟨qp, dxp, tr, vr, rfl, g1, g2, g3⟩ := hp2
          have hlt : i < st.ps.length := (List.getElem?_eq_some_iff.mp hp1).1
          obtain ⟨dx, ob⟩ := B3.ob
          obtain ⟨kvs, e1, e2⟩ := B3.pcD
          have g4 := B3.off _ _ (ne_of g1 ha0 (by intro z; cases z; exact S.neP rfl)) g1
          have lpn := lp p (List.mem_of_getElem? hp1)
          refine ⟨.ref qp, rfl, .ref a, rfl, a, CS, dx, _, .ref dc, rfl, ob, S.cS, S.nPie, rfl, .str n, rfl, _, _, rfl, rfl, ?_, .ref qp, rfl, qp, CP, dxp, _, .str p.name, rfl, g4, T.cP, T.pName, rfl, _, _, rfl, rfl, ?_, ?_⟩
          · have : (Str.ofString ".").length = 1 := by decide
            rw [sizeLine_eq]
            omega
          · have : (Str.ofString ".").length = 1 := by decide
            rw [strLen_append, sizeLine_eq]
            omega
          · refine ⟨dc, _, rfl, DPut.k (k := kS (full n p.name)) e1 ?_, ?_⟩
            · have : ((st.ps.take i).foldl (enterPc n) s.pc).length = kvs.length := e2.len
              exact small1000 (by omega)
            · refine ⟨_, rfl, ?_, ?_⟩
              · rw [fold_take _ _ hp1]
                exact B3.putPc e1 e2 (full n p.name) hp3
              · rw [fold_take _ _ hp1]
                have : (enterPc n ((st.ps.take i).foldl (enterPc n) s.pc) p).length ≤ ((st.ps.take i).foldl (enterPc n) s.pc).length + 1 := put_len
                omega
        · subst hσ
          rw [lpv, List.take_length] at B3 z3
          exact q H3 B3 z1 z2 z3
end
end PG

set_option Elab.async false
set_option linter.all false
set_option maxRecDepth 100000
set_option maxHeartbeats 4000000
/-! A scope is made. -/
namespace PG
open PySem PySem.Spec PyProof.Rows L2 L2.FK FS TX
def tot (ms : MS) : Nat := (ms.map fun m => m.2.al.length + m.2.ex.length + m.2.ps.length).sum
structure Small (ms : MS) : Prop where
  tot : tot ms ≤ 900
  few : ms.length ≤ 64
  nm : ∀ m ∈ ms, m.1.length ≤ 1000 ∧ ∀ p ∈ m.2.ps, p.name.length ≤ 1000
theorem tot_take (ms : MS) {i : Nat} {m : Str × ST} (h : ms[i]? = some m) : tot (ms.take (i + 1)) = tot (ms.take i) + (m.2.al.length + m.2.ex.length + m.2.ps.length) := by
  unfold tot
  rw [List.take_add_one, h, List.map_append, List.sum_append]
  simp
theorem tot_le (ms : MS) (i : Nat) : tot (ms.take i) ≤ tot ms := by
  unfold tot
  have : ms.map (fun m => m.2.al.length + m.2.ex.length + m.2.ps.length) = (ms.take i).map (fun m => m.2.al.length + m.2.ex.length + m.2.ps.length) ++ (ms.drop i).map (fun m => m.2.al.length + m.2.ex.length + m.2.ps.length) := by
    rw [← List.map_append, List.take_append_drop]
  rw [this, List.sum_append]
  exact Nat.le_add_right _ _
theorem dr_at {κ κ' β : Type} {ke : κ → κ'} {R : β → V → Prop} : ∀ {l : List (κ × β)} {kvs : List (κ' × V)} {i : Nat} {kv : κ' × V}, DR ke R l kvs → kvs[i]? = some kv → ∃ p, l[i]? = some p ∧ kv.1 = ke p.1 ∧ R p.2 kv.2
  | _, _, _, _, .nil, e => by simp at e
  | _, _, 0, _, .cons h t, e => by
    simp at e
    subst e
    exact ⟨_, rfl, h.1, h.2⟩
  | _, _, i + 1, _, .cons h t, e => by
    simp at e
    obtain ⟨p, h1, h2⟩ := dr_at (ke := ke) t e
    exact ⟨p, by simpa using h1, h2⟩
theorem ModR.off {CM CP CS a dxa : Addr} {fsa : List (Str × V)} {H H' : Hp} (o : Off a H H') (ha : H a = some (.ins CS dxa fsa)) (neP : CP ≠ CS) (neM : CM ≠ CS) {st : ST} {v : V} (h : ModR CM CP H st v) : ModR CM CP H' st v := by
  obtain ⟨m, dx, tp, te, ta, nd, pvs, avs, kvs, h0, h1, h2, h3, h4, h5, h6, h7, h8⟩ := h
  have t : ∀ {q : Addr} {xs : List V}, H q = some (.tup xs) → H' q = some (.tup xs) := fun {q xs} e => o _ _ (ne_of e ha (by intro z; cases z)) e
  have f : Fix CP H H' := ⟨fun q xs e => t e, fun q dx fs e => o _ _ (ne_of e ha (by intro z; cases z; exact neP rfl)) e⟩
  refine ⟨m, dx, tp, te, ta, nd, pvs, avs, kvs, h0, o _ _ (ne_of h1 ha (by intro z; cases z; exact neM rfl)) h1, t h2, pair_mono (fun _ _ h => h.mono f) h3, t h4, t h5, pair_mono (fun _ _ h => h.mono (CP := CP) f) h6, ?_, h8⟩
  rcases h7 with h7 | ⟨ob, h7⟩
  · exact .inl (o _ _ (ne_of h7 ha (by intro z; cases z)) h7)
  · exact .inr ⟨ob, o _ _ (ne_of h7 ha (by intro z; cases z)) h7⟩
section
variable {P : Program} {w : World} {K : PySem.W.Frag} {mg : Str → Option Value} {base : Heap} {aO aR dF CD CP CM CB CS : Addr} {es : Array DictEntry} {nF : Nat} {tF : Str → Addr}
def spScI (CS CM CP : Addr) : Sp := fun vs H Q _ => ∃ a dx dp kvs ms, vs = [.ref a, .ref dp] ∧ H a = some (.ins CS dx []) ∧ H dp = some (.dK kvs) ∧ DR kS (ModR CM CP H) ms kvs ∧ (keys ms).Nodup ∧ Small ms ∧ ∀ H', Off a H H' → ScAt CS CM CP H' a dp ms (scOf ms) → Q .non H'
theorem scSI : FnScope ["self", "modules", "module"] ["self", "modules"] (defScope (sScope 0)) := ⟨rfl, rfl, rfl, by decide +kernel, rfl, by decide +kernel, by decide +kernel⟩
theorem ok_scI {f fE : Addr} {fd fdE : FuncData} (F : Fun K "__init__" "Scope.__init__" (sScope 0) f fd) (S : TS K CS CP CM) (GE : FnOk P w K mg base CX0 1 fE fdE ["self", "name", "module"] (spEnter CS CM CP)) (bE : Binds K fdE ["self", "name", "module"] []) (mE : Meth K CS "enter" fE) :
    FnOk P w K mg base CX0 2 f fd ["self", "modules"] (spScI CS CM CP) := by
  refine F.ok scSI (fun vs H Q E h => ?_) (fun cdv A outer s H vs Q E hr h => ?_)
  · obtain ⟨a, dx, dp, kvs, ms, rfl, _⟩ := h
    rfl
  · obtain ⟨a, dx, dp, kvs, ms, rfl, ha, hd, hr0, nd, sm, q⟩ := h
    have hu := hu_of hr
    refine ⟨_, pss_cons (ps_fld (pv 0) (pv 1) rfl) (pss_cons (ps_fld (pv 0) pe_dnewT rfl) (pss_cons (ps_fld (pv 0) pe_dnewK rfl) (pss_cons (ps_fld (pv 0) pe_dnewK rfl)
      (pss_one (ps_lock (ps_for PassesOwn.never rfl (pi_keys (pv 1)) (pg_name (i := 2) scSI.nd rfl (.inl rfl))
        (pss_one (ps_expr (pe_meth (pv 0) S.cS mE GE hr bE .nil pass0 (pa_cons (pv 2) (pa_cons (pe_dget hu (pv 1) (pv 2) (fun _ _ => rfl)) pa_nil))))))))))), ?_⟩
    refine ⟨.ref dp, rfl, _, rfl, a, CS, dx, [], rfl, ha, S.cS, S.nPar, (by show 0 < 1000; decide), ?_⟩
    refine fun da nda => ⟨_, rfl, a, CS, dx, [("parsed", .ref dp)], rfl, ?_, S.cS, S.nAli, (by show 1 < 1000; decide), ?_⟩
    · have : a ≠ da := ne_of_none (show upd H a _ a = some _ from upd_same) nda
      rw [upd_ne this]
      exact upd_same
    have naa : a ≠ da := ne_of_none (show upd H a _ a = some _ from upd_same) nda
    refine fun de nde => ⟨_, rfl, a, CS, dx, [("parsed", .ref dp), ("aliases", .ref da)], rfl, ?_, S.cS, S.nExp, (by show 2 < 1000; decide), ?_⟩
    · have : a ≠ de := ne_of_none (show upd (upd (upd H a _) da _) a _ a = some _ from upd_same) nde
      rw [upd_ne this]
      exact upd_same
    have nae : a ≠ de := ne_of_none (show upd (upd (upd H a _) da _) a _ a = some _ from upd_same) nde
    refine fun dc ndc => ⟨_, rfl, a, CS, dx, [("parsed", .ref dp), ("aliases", .ref da), ("exporters", .ref de)], rfl, ?_, S.cS, S.nPie, (by show 3 < 1000; decide), ?_⟩
    · have : a ≠ dc := ne_of_none (show upd (upd (upd (upd (upd H a _) da _) a _) de _) a _ a = some _ from upd_same) ndc
      rw [upd_ne this]
      exact upd_same
    have nac : a ≠ dc := ne_of_none (show upd (upd (upd (upd (upd H a _) da _) a _) de _) a _ a = some _ from upd_same) ndc
    have h_da : H da = none := by rw [upd_ne naa.symm] at nda; exact nda
    have nde' : da ≠ de := ne_of_none (show upd (upd (upd H a _) da _) a _ da = some _ from by rw [upd_ne naa.symm]; exact upd_same) nde
    have h_de : H de = none := by rw [upd_ne nae.symm, upd_ne nde'.symm, upd_ne nae.symm] at nde; exact nde
    have ndc1 : de ≠ dc := ne_of_none (show upd (upd (upd (upd (upd H a _) da _) a _) de _) a _ de = some _ from by rw [upd_ne nae.symm]; exact upd_same) ndc
    have ndc2 : da ≠ dc := ne_of_none (show upd (upd (upd (upd (upd H a _) da _) a _) de _) a _ da = some _ from by rw [upd_ne naa.symm, upd_ne nde', upd_ne naa.symm]; exact upd_same) ndc
    have h_dc : H dc = none := by rw [upd_ne nac.symm, upd_ne ndc1.symm, upd_ne nac.symm, upd_ne ndc2.symm, upd_ne nac.symm] at ndc; exact ndc
    generalize hG : upd (upd (upd (upd (upd (upd (upd H a _) da _) a _) de _) a _) dc _) a _ = G
    have gA : G a = some (.ins CS dx (sflds (.ref dp) (.ref da) (.ref de) (.ref dc))) := by rw [← hG]; exact upd_same
    have gda : G da = some (.dT []) := by rw [← hG, upd_ne naa.symm, upd_ne ndc2, upd_ne naa.symm, upd_ne nde', upd_ne naa.symm]; exact upd_same
    have gde : G de = some (.dK []) := by rw [← hG, upd_ne nae.symm, upd_ne ndc1, upd_ne nae.symm]; exact upd_same
    have gdc : G dc = some (.dK []) := by rw [← hG, upd_ne nac.symm]; exact upd_same
    have gof : Off a H G := fun b o nb e => by
      rw [← hG, upd_ne nb, upd_ne (ne_of_none e h_dc), upd_ne nb, upd_ne (ne_of_none e h_de), upd_ne nb, upd_ne (ne_of_none e h_da), upd_ne nb]
      exact e
    clear hG
    have nadp : a ≠ dp := ne_of ha hd (by intro z; cases z)
    have gdp : G dp = some (.dK kvs) := gof _ _ nadp.symm hd
    refine ⟨dp, .dK kvs, gdp, trivial, fun od => ?_⟩
    have nda1 : da ≠ dp := (ne_of_none hd h_da).symm
    have nde1 : de ≠ dp := (ne_of_none hd h_de).symm
    have ndc3 : dc ≠ dp := (ne_of_none hd h_dc).symm
    generalize hH0 : upd H dp (.frz od (.dK kvs)) = H0
    have k0 : Ke H H0 := by rw [← hH0]; exact Ke.lock hd
    have h0n : ∀ {b : Addr}, H b = none → b ≠ dp → H0 b = none := fun {b} e n => by rw [← hH0, upd_ne n]; exact e
    have B0 : ScB CS CP a H0 (upd G dp (.frz od (.dK kvs))) (.ref dp) da de dc sc0 0 := by
      refine ⟨fun b o nb e => ?_, ⟨dx, by rw [upd_ne nadp]; exact gA⟩, h0n h_da nda1, h0n h_de nde1, h0n h_dc ndc3, ndc1, ⟨[], by rw [upd_ne nda1]; exact gda, .nil⟩, ⟨[], by rw [upd_ne nde1]; exact gde, .nil, fun k1 k2 l e => nomatch e⟩, ⟨[], by rw [upd_ne ndc3]; exact gdc, .nil⟩, .nil, .nil, .nil, fun z zs e => nomatch e⟩
      rw [← hH0] at e
      by_cases hb : b = dp
      · subst hb
        rw [upd_same] at e ⊢
        exact e
      · rw [upd_ne hb] at e ⊢
        exact gof _ _ nb e
    have hfr : H0 dp = some (.frz od (.dK kvs)) := by rw [← hH0]; exact upd_same
    refine ⟨.ref dp, rfl, dp, od, rfl, .inl ⟨kvs, upd_same, ?_⟩⟩
    have hlen : kvs.length = ms.length := hr0.len.symm
    refine for_it walk_keys (fun i σ H' => ∃ v, σ = [some (.ref a), some (.ref dp), v] ∧ ∃ c, ScB CS CP a H0 H' (.ref dp) da de dc (scOf (ms.take i)) c ∧ c ≤ tot (ms.take i) ∧ (scOf (ms.take i)).al.length ≤ tot (ms.take i) ∧ (scOf (ms.take i)).ex.length ≤ tot (ms.take i) ∧ (scOf (ms.take i)).pc.length ≤ tot (ms.take i))
      ⟨none, rfl, 0, B0, Nat.zero_le _, Nat.zero_le _, Nat.zero_le _, Nat.zero_le _⟩ (fun i σ H' _ ⟨_, _, _, h, _⟩ => h.off _ _ nadp.symm hfr) (fun i x σ H1 H2 hi ⟨v, hσ, c, B1, z0, z1, z2, z3⟩ ⟨eH, k, v0, hk, ex⟩ => ?_) (fun σ H1 ⟨v, hσ, c, B1, _⟩ => ?_)
    · subst eH hσ
      obtain ⟨⟨n, st⟩, hp1, hp2, hp3⟩ := dr_at hr0 hk
      have hp2 : k = kS n := hp2
      subst hp2
      subst ex
      have hmem := List.mem_of_getElem? hp1
      have hm : ModR CM CP H0 st v0 := hp3.mono k0
      obtain ⟨v1, hv1, hv2⟩ := hr0.get kS_in (look_at nd hmem)
      have hm1 : ModR CM CP H0 st v1 := ModR.mono k0 hv2
      obtain ⟨m, hmr⟩ : ∃ m, v1 = .ref m := ⟨_, hm1.choose_spec.choose_spec.choose_spec.choose_spec.choose_spec.choose_spec.choose_spec.choose_spec.choose_spec.1⟩
      subst hmr
      obtain ⟨dx1, ob1⟩ := B1.ob
      have hl := sm.tot
      have ht1 := tot_take ms hp1
      have ht2 := tot_le ms (i + 1)
      rw [ht1] at ht2
      dsimp only at ht1 ht2
      refine ⟨.ref a, rfl, a, dx1, _, rfl, ob1, rfl, .str n, rfl, .ref dp, rfl, .str n, rfl, dp, .ref m, rfl, .inl ⟨kvs, kS n, .inr ⟨od, B1.off _ _ nadp.symm hfr⟩, rfl, hv1.symm⟩, ?_⟩
      refine ⟨a, n, m, .ref dp, da, de, dc, _, c, H0, st, rfl, B1, ⟨dx, [], by rw [← hH0, upd_ne nadp]; exact ha⟩, hm1, by omega, by omega, by omega, by omega, (sm.nm _ hmem).1, (sm.nm _ hmem).2, fun H2 B2 y1 y2 y3 => ?_⟩
      have eS : scOf (ms.take (i + 1)) = enter (scOf (ms.take i)) n st := by
        unfold scOf
        rw [fold_take _ _ hp1]
      refine ⟨_, rfl, _, by rw [eS]; exact B2, ?_, ?_, ?_, ?_⟩
      · rw [ht1]; omega
      · rw [eS, ht1]; omega
      · rw [eS, ht1]; omega
      · rw [eS, ht1]; omega
    · subst hσ
      rw [hlen, List.take_length] at B1
      have f1 := B1.off _ _ nadp.symm hfr
      refine ⟨f1, ?_⟩
      obtain ⟨dx1, ob1⟩ := B1.ob
      have ofF : Off a H (upd H1 dp (.dK kvs)) := fun b o nb e => by
        by_cases hb : b = dp
        · subst hb
          rw [hd] at e
          rw [upd_same]
          exact e
        · rw [upd_ne hb]
          exact B1.off b o nb (by rw [← hH0, upd_ne hb]; exact e)
      obtain ⟨k1, e2, e3⟩ := B1.alD
      obtain ⟨k2, e4, e5, e6⟩ := B1.exD
      obtain ⟨k3, e7, e8⟩ := B1.pcD
      have nf : ∀ {b : Addr} {o : HO}, H1 b = some o → (∀ od u, o ≠ .frz od u) → upd H1 dp (.dK kvs) b = some o := fun {b o} e n => by
        rw [upd_ne (ne_of e f1 (n _ _))]
        exact e
      have f0 : Fix CP H0 (upd H1 dp (.dK kvs)) := ⟨fun q xs e => nf (B1.off _ _ (ne_of e (show H0 a = some (.ins CS dx []) from by rw [← hH0, upd_ne nadp]; exact ha) (by intro z; cases z)) e) (fun _ _ z => nomatch z),
        fun q dx' fs e => nf (B1.off _ _ (ne_of e (show H0 a = some (.ins CS dx []) from by rw [← hH0, upd_ne nadp]; exact ha) (by intro z; cases z; exact S.neP rfl)) e) (fun _ _ z => nomatch z)⟩
      refine q _ ofF ⟨dx1, da, de, dc, nf ob1 (fun _ _ z => nomatch z), ⟨kvs, .inl upd_same, hr0.mono fun _ _ h => h.off ofF ha S.neP S.neM⟩, ⟨k1, .inl (nf e2 (fun _ _ z => nomatch z)), e3⟩, ⟨k2, .inl (nf e4 (fun _ _ z => nomatch z)), e5.mono fun _ _ ⟨l, x1, x2, _⟩ => ⟨l, x1, nf x2 (fun _ _ z => nomatch z)⟩⟩, ⟨k3, .inl (nf e7 (fun _ _ z => nomatch z)), e8.mono fun _ _ h => h.mono f0⟩⟩
end
end PG

set_option Elab.async false
set_option linter.all false
set_option maxRecDepth 100000
set_option maxHeartbeats 4000000
/-! What a name means: homes. -/
namespace PG
open PySem PySem.Spec PyProof.Rows L2 L2.FK FS TX
def optS : Option Str → V
  | some z => .str z
  | none => .non
/-- what holds of a scope that modules have made -/
structure ScOk (ms : MS) (s : Sc) : Prop where
  exm : ∀ z zs, look s.ex z = some zs → ∀ o ∈ zs, o ∈ keys ms
  exl : ∀ z zs, look s.ex z = some zs → zs.length ≤ 900
  all : s.al.length ≤ 900
  alm : ∀ m st x, (m, st) ∈ ms → x ∈ st.al → (look s.al (m, x.1)).isSome = true
  pcm : ∀ m st p, (m, st) ∈ ms → p ∈ st.ps → (look s.pc (full m p.name)).isSome = true
  nl : ∀ m ∈ keys ms, m.length ≤ 1000
  ol : ∀ p ∈ s.al, p.2.length ≤ 1000
theorem has_of {ms : MS} {m z : Str} {st : ST} (h : look ms m = some st) : has ms m z = hasN st z := by
  unfold has
  rw [h]
theorem mem_look {κ β : Type} [DecidableEq κ] {l : List (κ × β)} {k : κ} {b : β} (h : look l k = some b) : (k, b) ∈ l := by
  induction l with
  | nil => cases h
  | cons p r ih =>
    unfold look at h
    by_cases q : p.1 = k
    · rw [if_pos q] at h
      have : p = (k, b) := Prod.ext q (Option.some.inj h)
      rw [this]
      exact List.mem_cons_self ..
    · rw [if_neg q] at h
      exact List.mem_cons_of_mem _ (ih h)
theorem home_has {ms : MS} {s : Sc} {m z h : Str} (e : homeOf ms s m z = some h) : has ms h z = true := by
  unfold homeOf at e
  by_cases q : has ms m z = true
  · rw [if_pos q] at e
    cases e
    exact q
  · rw [if_neg q] at e
    have := List.find?_some e
    simpa using this
theorem has_key {ms : MS} {m z : Str} (e : has ms m z = true) : ∃ st, look ms m = some st ∧ hasN st z = true := by
  unfold has at e
  cases h : look ms m with
  | none => rw [h] at e; cases e
  | some st =>
    rw [h] at e
    exact ⟨st, rfl, e⟩
/-- a home that has no alias of the name has a piece of it -/
theorem home_piece {ms : MS} {s : Sc} (ok : ScOk ms s) {h z : Str} (e : has ms h z = true) (na : look s.al (h, z) = none) : (look s.pc (full h z)).isSome = true := by
  obtain ⟨st, h1, h2⟩ := has_key e
  have hm := mem_look h1
  unfold hasN at h2
  rw [List.contains_iff_mem, List.mem_append] at h2
  rcases h2 with h2 | h2
  · obtain ⟨p, hp, rfl⟩ := List.mem_map.mp h2
    exact ok.pcm _ _ _ hm hp
  · obtain ⟨x, hx, rfl⟩ := List.mem_map.mp h2
    have := ok.alm _ _ _ hm hx
    rw [na] at this
    cases this
theorem mean_piece {ms : MS} {s : Sc} (ok : ScOk ms s) : ∀ {n : Nat} {seen : List (Str × Str)} {m z f : Str}, meanGo ms s n seen m z = some f → (look s.pc f).isSome = true
  | 0, _, _, _, _, e => nomatch e
  | n + 1, seen, m, z, f, e => by
    unfold meanGo at e
    by_cases q : seen.contains (m, z) = true
    · rw [if_pos q] at e
      cases e
    · rw [if_neg q] at e
      cases eh : homeOf ms s m z with
      | none => rw [eh] at e; cases e
      | some h =>
        rw [eh] at e
        dsimp only at e
        cases ea : look s.al (h, z) with
        | none =>
          rw [ea] at e
          cases e
          exact home_piece ok (home_has eh) ea
        | some o =>
          rw [ea] at e
          exact mean_piece ok e
section
variable {P : Program} {w : World} {K : PySem.W.Frag} {mg : Str → Option Value} {base : Heap} {aO aR dF CD CP CM CB CS : Addr} {es : Array DictEntry} {nF : Nat} {tF : Str → Addr}
def spHome (CS CM CP : Addr) : Sp := fun vs H Q _ => ∃ a dp ms s m z, vs = [.ref a, .str m, .str z] ∧ ScAt CS CM CP H a dp ms s ∧ ScOk ms s ∧ m ∈ keys ms ∧ ∀ H', Same H H' → Q (optS (homeOf ms s m z)) H'
theorem scHo : FnScope ["self", "module", "name", "other"] ["self", "module", "name"] (defScope (sScope 2)) := ⟨rfl, rfl, rfl, by decide +kernel, rfl, by decide +kernel, by decide +kernel⟩
theorem ok_home {f fH : Addr} {fd fdH : FuncData} (F : Fun K "home_of" "Scope.home_of" (sScope 2) f fd) (S : TS K CS CP CM) (GH : FnOk P w K mg base CX0 1 fH fdH ["self", "name"] (spHas CM CP K)) (bH : Binds K fdH ["self", "name"] []) (mH : Meth K CM "__contains__" fH) :
    FnOk P w K mg base CX0 2 f fd ["self", "module", "name"] (spHome CS CM CP) := by
  refine F.ok scHo (fun vs H Q E h => ?_) (fun cdv A outer s H vs Q E hr h => ?_)
  · obtain ⟨a, dp, ms, s, m, z, rfl, _⟩ := h
    rfl
  · obtain ⟨a, dp, ms, s, m, z, rfl, hsc, ok, hmk, q⟩ := h
    have hu := hu_of hr
    have inO := fun (X : Cx) => @op_in_own X
    refine ⟨_, pss_cons (ps_if (pt_cmpR (op_in_own mH.at_ mH.fn GH bH hr pass0) (pv 2) (pe_dget hu (pe_fld (pv 0) rfl) (pv 1) (fun _ _ => rfl)) (by rfl)) (pss_one (ps_ret (pv 1))) pss_nil)
      (pss_cons (ps_for PassesOwn.never rfl (pi_list (pe_dget2 hu (pe_fld (pv 0) rfl) (pv 2) (pe_lstS pa_nil) ⟨by rfl, by rfl, by rfl, by rfl⟩)) (pg_name (i := 3) scHo.nd rfl (.inl rfl))
          (pss_one (ps_if (pt_cmpR (op_in_own mH.at_ mH.fn GH bH hr pass0) (pv 2) (pe_dget hu (pe_fld (pv 0) rfl) (pv 3) (fun _ _ => rfl)) (by rfl)) (pss_one (ps_ret (pv 3))) pss_nil)))
      (pss_one (ps_ret pe_non))), ?_⟩
    -- the question, for any module that is there
    have ask : ∀ {H' : Hp} {o : Str} {st : ST}, Same H H' → look ms o = some st → ∃ dx da de dc kvs m0, H' a = some (.ins CS dx (sflds (.ref dp) (.ref da) (.ref de) (.ref dc))) ∧ Rd H' dp (.dK kvs) ∧ valV kvs (kS o) = some (.ref m0) ∧ ModR CM CP H' st (.ref m0) := by
      intro H' o st s' eo
      obtain ⟨dx, da, de, dc, h1, ⟨kvs, h2, h3⟩, _⟩ := hsc.mono (Ke.of s')
      obtain ⟨v, h4, h5⟩ := h3.get kS_in eo
      obtain ⟨m0, hm0⟩ : ∃ m0, v = .ref m0 := ⟨_, h5.choose_spec.choose_spec.choose_spec.choose_spec.choose_spec.choose_spec.choose_spec.choose_spec.choose_spec.1⟩
      subst hm0
      exact ⟨dx, da, de, dc, kvs, m0, h1, h2, h4, h5⟩
    obtain ⟨st, est⟩ := Option.isSome_iff_exists.mp (look_mem.mpr hmk)
    obtain ⟨dx, da, de, dc, kvs, m0, g1, g2, g3, g4⟩ := ask (Same.refl H) est
    have g5 := g4
    obtain ⟨m0', dxm, tp, te, ta, nd, pvs, avs, kvn, e0, i1, _⟩ := g5
    cases e0
    refine ⟨.str z, rfl, .ref a, rfl, a, CS, dx, _, .ref dp, rfl, g1, S.cS, S.nPar, rfl, .str m, rfl, dp, .ref m0, rfl, .inl ⟨kvs, kS m, g2, rfl, g3.symm⟩, ?_⟩
    refine ⟨m0, dxm, _, rfl, i1, m0, .str z, st, rfl, g4, .inl ⟨z, rfl, fun H1 s1 => ⟨_, rfl, _, rfl, ?_⟩⟩⟩
    have eh := has_of (z := z) est
    refine ite2 (fun h => ?_) (fun h => ?_)
    · have h : hasN st z = true := h
      refine ⟨.str m, rfl, ?_⟩
      have : homeOf ms s m z = some m := by
        unfold homeOf
        rw [eh, if_pos h]
      have q1 := q H1 s1
      rw [this] at q1
      exact q1
    · have h : ¬ hasN st z = true := h
      have eho : homeOf ms s m z = (exps s z).find? fun o => has ms o z := by
        unfold homeOf
        rw [eh, if_neg h]
      obtain ⟨dx1, da1, de1, dc1, f1, f2, f3, ⟨kve, f4, f5⟩, f6⟩ := hsc.mono (Ke.of s1)
      refine ⟨.ref a, rfl, a, CS, dx1, _, .ref de1, rfl, f1, S.cS, S.nExp, rfl, de1, rfl, .inl ⟨kve, f4⟩, .str z, rfl, (by show 0 ≤ 1000; decide), fun p H2 s2 np ep => ?_⟩
      have f7 : Rd H2 de1 (.dK kve) := (Ke.of s2).dk _ _ f4
      refine ⟨valV kve (kS z), .inl ⟨kve, kS z, f7, rfl, rfl⟩, ?_⟩
      obtain ⟨l, hl1, hl2⟩ : ∃ l, (valV kve (kS z)).getD (.ref p) = .ref l ∧ H2 l = some (.lst ((exps s z).map V.str)) := by
        unfold exps
        cases ez : look s.ex z with
        | none =>
          rw [f5.non kS_in ez]
          exact ⟨p, rfl, ep⟩
        | some zs =>
          obtain ⟨v, h1, l, h2, h3⟩ := f5.get kS_in ez
          rw [h1, h2]
          exact ⟨l, rfl, s2 _ _ h3⟩
      rw [hl1]
      refine ⟨l, rfl, ⟨_, SqL.of hl2⟩, ?_⟩
      have mem : ∀ o ∈ exps s z, o ∈ keys ms := by
        intro o ho
        unfold exps at ho
        cases ez : look s.ex z with
        | none => rw [ez] at ho; cases ho
        | some zs => rw [ez] at ho; exact ok.exm z zs ez o ho
      have st12 := s1.trans s2
      refine for_list (xs := (exps s z).map V.str) (fun i σ H' => ∃ v, σ = [some (.ref a), some (.str m), some (.str z), v] ∧ Same H H' ∧ H' l = some (.lst ((exps s z).map V.str)) ∧ ((exps s z).take i).find? (fun o => has ms o z) = none)
        ⟨none, rfl, st12, hl2, rfl⟩ (fun i σ H' _ ⟨_, _, _, h, _⟩ => SqL.of h) (fun i x σ H3 hx ⟨v, hσ, s3, hl3, hn⟩ => ?_) (fun σ H3 ⟨v, hσ, s3, hl3, hn⟩ => ?_)
      · subst hσ
        rw [List.getElem?_map] at hx
        obtain ⟨o, ho1, ho2⟩ := Option.map_eq_some_iff.mp hx
        subst ho2
        obtain ⟨st2, est2⟩ := Option.isSome_iff_exists.mp (look_mem.mpr (mem o (List.mem_of_getElem? ho1)))
        obtain ⟨dx3, da3, de3, dc3, kv3, m3, j1, j2, j3, j4⟩ := ask s3 est2
        have j5 := j4
        obtain ⟨m3', dxm3, tp3, te3, ta3, nd3, pvs3, avs3, kvn3, e3, i3, _⟩ := j5
        cases e3
        refine ⟨.str z, rfl, .ref a, rfl, a, CS, dx3, _, .ref dp, rfl, j1, S.cS, S.nPar, rfl, .str o, rfl, dp, .ref m3, rfl, .inl ⟨kv3, kS o, j2, rfl, j3.symm⟩, ?_⟩
        refine ⟨m3, dxm3, _, rfl, i3, m3, .str z, st2, rfl, j4, .inl ⟨z, rfl, fun H4 s4 => ⟨_, rfl, _, rfl, ?_⟩⟩⟩
        have eo := has_of (z := z) est2
        refine ite2 (fun h => ?_) (fun h => ?_)
        · have h : hasN st2 z = true := h
          refine ⟨.str o, rfl, ?_⟩
          have : (exps s z).find? (fun o => has ms o z) = some o := by
            rw [← List.take_append_drop i (exps s z), List.find?_append, hn, List.drop_eq_getElem_cons (List.getElem?_eq_some_iff.mp ho1).1, (List.getElem?_eq_some_iff.mp ho1).2, List.find?_cons, eo, h]
            rfl
          have q1 := q H4 (s3.trans s4)
          rw [eho, this] at q1
          exact q1
        · have h : hasN st2 z = false := by simpa using h
          refine ⟨_, rfl, s3.trans s4, s4 _ _ hl3, ?_⟩
          rw [List.take_add_one, ho1, List.find?_append, hn]
          simp [eo, h]
      · subst hσ
        rw [List.length_map, List.take_length] at hn
        have q1 := q H3 s3
        rw [eho, hn] at q1
        exact q1
end
end PG

set_option Elab.async false
set_option linter.all false
set_option maxRecDepth 100000
set_option maxHeartbeats 4000000
/-! What a name means. -/
namespace PG
open PySem PySem.Spec PyProof.Rows L2 L2.FK FS TX
theorem nodup_sub {α : Type} [DecidableEq α] : ∀ {l m : List α}, l.Nodup → (∀ x ∈ l, x ∈ m) → l.length ≤ m.length
  | [], _, _, _ => Nat.zero_le _
  | x :: l, m, nd, h => by
    have nd' := List.nodup_cons.mp nd
    have hx : x ∈ m := h x (List.mem_cons_self ..)
    have ih := nodup_sub (l := l) (m := m.erase x) nd'.2 fun y hy => (List.mem_erase_of_ne (fun e => nd'.1 (by rw [← e]; exact hy))).mpr (h y (List.mem_cons_of_mem _ hy))
    rw [List.length_erase_of_mem hx] at ih
    have : 0 < m.length := List.length_pos_of_mem hx
    rw [List.length_cons]
    omega
/-- where a name may lead -/
def goals (s : Sc) : List (Str × Str) := s.al.map fun p => (p.1.1, p.2)
def seenK (l : List (Str × Str)) : List (List Key × V) := l.map fun p => (kT p, V.bl true)
theorem seen_is (l : List (Str × Str)) (p : Str × Str) : (valV (seenK l) (kT p)).isSome = l.contains p := by
  induction l with
  | nil => rfl
  | cons q r ih =>
    by_cases e : q = p
    · subst e
      rw [show seenK (q :: r) = (kT q, V.bl true) :: seenK r from rfl, valV_pos rfl]
      simp
    · rw [show seenK (q :: r) = (kT q, V.bl true) :: seenK r from rfl, valV_neg (fun z => e (kT_in _ _ z)), ih, List.contains_cons]
      have : (p == q) = false := beq_eq_false_iff_ne.mpr fun z => e z.symm
      rw [this, Bool.false_or]
theorem seen_put {l : List (Str × Str)} {p : Str × Str} (h : l.contains p = false) : putK (seenK l) (kT p) (.bl true) = seenK (l ++ [p]) := by
  have e : valV (seenK l) (kT p) = none := by
    have := seen_is l p
    rw [h] at this
    cases q : valV (seenK l) (kT p) with
    | none => rfl
    | some v => rw [q] at this; cases this
  rw [putK_new _ e]
  unfold seenK
  rw [List.map_append]
  rfl
theorem mono_notin {hu : Prop} {ty td : TE} (h1 : ∀ σ H (Q Q' : VK), (∀ v H, Q v H → Q' v H) → ty σ H Q → ty σ H Q') (h2 : ∀ σ H (Q Q' : VK), (∀ v H, Q v H → Q' v H) → td σ H Q → td σ H Q') : True := trivial
section
variable {P : Program} {w : World} {K : PySem.W.Frag} {mg : Str → Option Value} {base : Heap} {aO aR dF CD CP CM CB CS : Addr} {es : Array DictEntry} {nF : Nat} {tF : Str → Addr}
def spMean (CS CM CP : Addr) : Sp := fun vs H Q _ => ∃ a dp ms s m z, vs = [.ref a, .str m, .str z] ∧ ScAt CS CM CP H a dp ms s ∧ ScOk ms s ∧ m ∈ keys ms ∧ z.length ≤ 1000 ∧ ∀ H', Same H H' → Q (optS (meaning ms s m z)) H'
theorem scMe : FnScope ["self", "module", "name", "seen", "home"] ["self", "module", "name"] (defScope (sScope 3)) := ⟨rfl, rfl, rfl, by decide +kernel, rfl, by decide +kernel, by decide +kernel⟩
theorem ok_mean {f fH : Addr} {fd fdH : FuncData} (F : Fun K "meaning" "Scope.meaning" (sScope 3) f fd) (S : TS K CS CP CM) (GH : FnOk P w K mg base CX0 2 fH fdH ["self", "module", "name"] (spHome CS CM CP)) (bH : Binds K fdH ["self", "module", "name"] []) (mH : Meth K CS "home_of" fH) :
    FnOk P w K mg base CX0 3 f fd ["self", "module", "name"] (spMean CS CM CP) := by
  refine F.ok scMe (fun vs H Q E h => ?_) (fun cdv A outer sh H vs Q E hr h => ?_)
  · obtain ⟨a, dp, ms, s, m, z, rfl, _⟩ := h
    rfl
  · obtain ⟨a, dp, ms, s, m, z, rfl, hsc, ok, hmk, hz, q⟩ := h
    have hu := hu_of hr
    refine ⟨_, pss_cons (ps_set (i := 3) scMe.nd rfl (.inl rfl) pe_dnewT)
      (pss_cons (ps_while PassesOwn.never (pt_cmp (pc_dnotin hu (pe_tupS (pa_cons (pv 1) (pa_cons (pv 2) pa_nil))) (pv 3)))
        (pss_cons (ps_dput hu (pv 3) (pe_tupS (pa_cons (pv 1) (pa_cons (pv 2) pa_nil))) pe_bl rfl)
        (pss_cons (ps_set (i := 4) scMe.nd rfl (.inl rfl) (pe_meth (pv 0) S.cS mH GH hr bH .nil pass0 (pa_cons (pv 1) (pa_cons (pv 2) pa_nil))))
        (pss_cons (ps_if (pt_cmp (pc_isN (pv 4))) (pss_one (ps_ret pe_non)) pss_nil)
        (pss_cons (ps_if (pt_cmp (pc_dnotin hu (pe_tupS (pa_cons (pv 4) (pa_cons (pv 2) pa_nil))) (pe_fld (pv 0) rfl))) (pss_one (ps_ret (pe_op op_add_str (pe_op op_add_str (pv 4) pe_str) (pv 2)))) pss_nil)
        (pss_one (ps_par (i := 1) (j := 2) rfl scMe.nd rfl rfl (by decide) rfl rfl (pa_cons (pv 4) (pa_cons (pe_dget hu (pe_fld (pv 0) rfl) (pe_tupS (pa_cons (pv 4) (pa_cons (pv 2) pa_nil))) (fun _ _ => rfl)) pa_nil)) (by rfl))))))))
      (pss_one (ps_ret pe_non))), ?_⟩
    refine fun sd nsd => ?_
    have s0 : Same H (upd H sd (.dT [])) := same_new nsd
    refine ⟨fun n σ H' => ∃ m' z' seen v4, σ = [some (.ref a), some (.str m'), some (.str z'), some (.ref sd), v4] ∧ Same H H' ∧ H' sd = some (.dT (seenK seen)) ∧ meanGo ms s n seen m' z' = meaning ms s m z ∧ n + seen.length = s.al.length + 2 ∧ seen.Nodup ∧ (∀ x ∈ seen, x ∈ (m, z) :: goals s) ∧ (m', z') ∈ (m, z) :: goals s ∧ m' ∈ keys ms ∧ z'.length ≤ 1000,
      ⟨s.al.length + 2, m, z, [], none, rfl, s0, upd_same, rfl, rfl, .nil, (fun _ h => nomatch h), List.mem_cons_self .., hmk, hz⟩, ?_⟩
    rintro n σ H1 ⟨m', z', seen, v4, rfl, s1, e1, em, hn, nd, sub, hin, hmk', hz'⟩
    refine ⟨.str m', rfl, .str z', rfl, (by show 2 ≤ 1000; decide), fun p H2 s2 np ep => ⟨.ref sd, rfl, sd, valV (seenK seen) (kT (m', z')), rfl, .inr ⟨seenK seen, kT (m', z'), p, .inl (s2 _ _ e1), rfl, ep, rfl⟩, _, rfl, ?_⟩⟩
    have hl1 : seen.length ≤ s.al.length + 1 := by
      have := nodup_sub nd sub
      rw [List.length_cons] at this
      unfold goals at this
      rw [List.length_map] at this
      exact this
    obtain ⟨n, rfl⟩ : ∃ k, n = k + 1 := ⟨n - 1, by omega⟩
    rw [seen_is]
    have step : meanGo ms s (n + 1) seen m' z' = if seen.contains (m', z') then none else match homeOf ms s m' z' with
        | none => none
        | some h => match look s.al (h, z') with
          | none => some (full h z')
          | some o => meanGo ms s n (seen ++ [(m', z')]) h o := rfl
    have t2 := s1.trans s2
    by_cases hc : seen.contains (m', z') = true
    · rw [hc]
      rw [step, if_pos hc] at em
      refine iteF ?_
      have q1 := q H2 t2
      rw [← em] at q1
      exact q1
    · have hc' : seen.contains (m', z') = false := by simpa using hc
      rw [hc']
      rw [step, if_neg hc] at em
      refine iteT ?_
      have hnot : (m', z') ∉ seen := fun h => hc (by simpa using h)
      have nd2 : (seen ++ [(m', z')]).Nodup := by
        rw [List.nodup_append]
        refine ⟨nd, by simp, fun x hx y hy e => ?_⟩
        rw [List.mem_singleton] at hy
        rw [e, hy] at hx
        exact hnot hx
      have sub2 : ∀ x ∈ seen ++ [(m', z')], x ∈ (m, z) :: goals s := by
        intro x hx
        rcases List.mem_append.mp hx with h | h
        · exact sub x h
        · rw [List.mem_singleton.mp h]; exact hin
      have hl2 : seen.length + 1 ≤ s.al.length + 1 := by
        have := nodup_sub nd2 sub2
        rw [List.length_append, List.length_singleton, List.length_cons] at this
        unfold goals at this
        rw [List.length_map] at this
        exact this
      have hall := ok.all
      refine ⟨fun σ' H' => ∃ h o, σ' = [some (.ref a), some (.str h), some (.str o), some (.ref sd), some (.str h)] ∧ Same H H' ∧ H' sd = some (.dT (seenK (seen ++ [(m', z')]))) ∧ meanGo ms s n (seen ++ [(m', z')]) h o = meaning ms s m z ∧ (h, o) ∈ goals s ∧ h ∈ keys ms ∧ o.length ≤ 1000,
        fun σ' H' ⟨h, o, hσ, k1, k2, k3, k4, k5, k6⟩ => ⟨n, Nat.lt_succ_self n, h, o, _, _, hσ, k1, k2, k3, by rw [List.length_append, List.length_singleton]; omega, nd2, sub2, List.mem_cons_of_mem _ k4, k5, k6⟩, ?_⟩
      refine ⟨.ref sd, rfl, .str m', rfl, .str z', rfl, (by show 2 ≤ 1000; decide), fun p2 H3 s3 np3 ep3 => ⟨sd, _, rfl, DPut.t (k := kT (m', z')) (s3 _ _ (s2 _ _ e1)) ep3 ?_, ?_⟩⟩
      · unfold seenK
        rw [List.length_map]
        exact small1000 (by omega)
      rw [seen_put hc']
      have hsd3 : H3 sd = some (.dT (seenK seen)) := s3 _ _ (s2 _ _ e1)
      have t4 : Same H (upd H3 sd (.dT (seenK (seen ++ [(m', z')])))) := fun b o e => by
        rw [upd_ne (ne_of_none e nsd)]
        exact s3 _ _ (t2 _ _ e)
      generalize hH4 : upd H3 sd (.dT (seenK (seen ++ [(m', z')]))) = H4 at t4 ⊢
      have e4 : H4 sd = some (.dT (seenK (seen ++ [(m', z')]))) := by rw [← hH4]; exact upd_same
      have hsc4 := hsc.mono (Ke.of t4)
      have hsc4' := hsc4
      obtain ⟨dx, da, de, dc, g1, _⟩ := hsc4'
      refine ⟨.ref a, rfl, a, dx, _, rfl, g1, rfl, .str m', rfl, .str z', rfl, a, dp, ms, s, m', z', rfl, hsc4, ok, hmk', fun H5 s5 => ?_⟩
      have t5 := t4.trans s5
      obtain ⟨dx5, da5, de5, dc5, f1, f2, ⟨kva, f3, f4⟩, f5⟩ := hsc.mono (Ke.of t5)
      cases eh : homeOf ms s m' z' with
      | none =>
        rw [eh] at em
        refine ⟨.non, rfl, _, rfl, iteT ?_⟩
        have q1 := q H5 t5
        rw [← em] at q1
        exact q1
      | some h =>
        rw [eh] at em
        dsimp only at em
        have hk : h ∈ keys ms := by
          obtain ⟨st, h1, _⟩ := has_key (home_has eh)
          exact look_in h1
        refine ⟨.str h, rfl, _, rfl, iteF ?_⟩
        refine ⟨.str h, rfl, .str z', rfl, (by show 2 ≤ 1000; decide), fun p3 H6 s6 np6 ep6 => ?_⟩
        have f3' : Rd H6 da5 (.dT kva) := (Ke.of s6).dt _ _ f3
        refine ⟨.ref a, rfl, a, CS, dx5, _, .ref da5, rfl, s6 _ _ f1, S.cS, S.nAli, rfl, da5, valV kva (kT (h, z')), rfl, .inr ⟨kva, kT (h, z'), p3, f3', rfl, ep6, rfl⟩, _, rfl, ?_⟩
        have t6 := t5.trans s6
        rw [f4.isSome kT_in]
        cases ea : look s.al (h, z') with
        | none =>
          rw [ea] at em
          refine iteT ?_
          have hl := ok.nl h hk
          have one : (Str.ofString ".").length = 1 := by decide
          refine ⟨.str h, rfl, _, _, rfl, rfl, ?_, .str z', rfl, _, _, rfl, rfl, ?_, ?_⟩
          · rw [sizeLine_eq]
            omega
          · rw [strLen_append, sizeLine_eq]
            omega
          · have q1 := q H6 t6
            rw [← em] at q1
            exact q1
        | some o =>
          rw [ea] at em
          refine iteF ?_
          obtain ⟨v, hv1, hv2⟩ := f4.get kT_in ea
          subst hv2
          refine ⟨.str h, rfl, .ref a, rfl, a, CS, dx5, _, .ref da5, rfl, s6 _ _ f1, S.cS, S.nAli, rfl, .str h, rfl, .str z', rfl, (by show 2 ≤ 1000; decide), fun p4 H7 s7 np7 ep7 => ?_⟩
          have t7 := t6.trans s7
          refine ⟨da5, .str o, rfl, .inr ⟨kva, kT (h, z'), p4, (Ke.of s7).dt _ _ f3', rfl, ep7, hv1.symm⟩, _, _, rfl, h, o, rfl, t7, s7 _ _ (s6 _ _ (s5 _ _ e4)), em, ?_, hk, ?_⟩
          · have := mem_look ea
            unfold goals
            exact List.mem_map.mpr ⟨_, this, rfl⟩
          · exact ok.ol _ (mem_look ea)
end
end PG

set_option Elab.async false
set_option linter.all false
set_option maxRecDepth 100000
set_option maxHeartbeats 4000000
/-! Rows with full names; whether a row is right. -/
namespace PG
open PySem PySem.Spec PyProof.Rows L2 L2.FK FS TX
def mean (ms : MS) (s : Sc) (m : Str) (xs : List V) (i : Nat) : Option Str := (nameAt xs i).bind (meaning ms s m)
def fullRow (ms : MS) (s : Sc) (m : Str) : MR → MR
  | .ins xs => match nplace xs with
    | none => .ins xs
    | some i => .ins (xs.take i ++ (optS (mean ms s m xs i) :: xs.drop (i + 1)))
  | .dat v => match v with
    | .str z => .dat (optS (meaning ms s m z))
    | v => .dat v
def insRight (ms : MS) (s : Sc) (m : Str) (xs : List V) : Bool := match nplace xs with
  | none => true
  | some i => match mean ms s m xs i with
    | none => false
    | some f => match look s.pc f with
      | none => false
      | some p => meansRight xs p.kind p.rows.length
def expRight (ms : MS) (s : Sc) (m z : Str) : Bool := has ms m z && ((exps s z).head? == some m)
/-- a row that can be asked -/
def RowIn : MR → Prop
  | .ins xs => InsOk xs ∧ ∀ z, V.str z ∈ xs → z.length ≤ 1000
  | .dat v => (∃ z, v = .str z ∧ z.length ≤ 1000) ∨ ∃ i, v = .int i
theorem name_small {xs : List V} (h : ∀ z, V.str z ∈ xs → z.length ≤ 1000) {i : Nat} {z : Str} (e : nameAt xs i = some z) : xs[i]? = some (.str z) ∧ z.length ≤ 1000 := by
  unfold nameAt at e
  cases q : xs[i]? with
  | none => rw [q] at e; cases e
  | some v =>
    rw [q] at e
    cases v <;> first | cases e | skip
    exact ⟨rfl, h _ (List.mem_of_getElem? q)⟩
section
variable {P : Program} {w : World} {K : PySem.W.Frag} {mg : Str → Option Value} {base : Heap} {aO aR dF CD CP CM CB CS : Addr} {es : Array DictEntry} {nF : Nat} {tF : Str → Addr}
def spFull (CS CM CP : Addr) : Sp := fun vs H Q _ => ∃ a dp ms s m r v, vs = [.ref a, .str m, v] ∧ ScAt CS CM CP H a dp ms s ∧ ScOk ms s ∧ m ∈ keys ms ∧ RowAt H r v ∧ RowIn r ∧ ∀ H' v', Same H H' → RowAt H' (fullRow ms s m r) v' → Q v' H'
theorem scFu : FnScope ["self", "module", "row", "place"] ["self", "module", "row"] (defScope (sScope 4)) := ⟨rfl, rfl, rfl, by decide +kernel, rfl, by decide +kernel, by decide +kernel⟩
theorem ok_full {f fM fN : Addr} {fd fdM fdN : FuncData} (F : Fun K "full_row" "Scope.full_row" (sScope 4) f fd) (T : TT K w mg aO aR dF es nF tF) (S : TS K CS CP CM) (GM : FnOk P w K mg base CX0 3 fM fdM ["self", "module", "name"] (spMean CS CM CP)) (bM : Binds K fdM ["self", "module", "name"] []) (mM : Meth K CS "meaning" fM)
    (GN : FnOk P w K mg base CX0 1 fN fdN ["row"] (spPlace K)) (bN : Binds K fdN ["row"] []) (gN : mg "name_place" = some (.ref fN)) (kN : PySem.W.keepIn K (.ref fN) = true) :
    FnOk P w K mg base CX0 4 f fd ["self", "module", "row"] (spFull CS CM CP) := by
  refine F.ok scFu (fun vs H Q E h => ?_) (fun cdv A outer sh H vs Q E hr h => ?_)
  · obtain ⟨a, dp, ms, s, m, r, v, rfl, _⟩ := h
    rfl
  · obtain ⟨a, dp, ms, s, m, r, v, rfl, hsc, ok, hmk, hrow, hin, q⟩ := h
    have hr1 : Room 1 _ := hr.mono (by decide)
    refine ⟨_, pss_cons (ps_if (pt_val (pe_callB call_isi (by rfl) T.zi b_isi (pa_cons (pv 2) (pa_cons (pe_bltn rfl T.zn b_int (v := .ty "int") rfl) pa_nil)))) (pss_one (ps_ret (pv 2))) pss_nil)
      (pss_cons (ps_if (pt_val (pe_callB call_isi (by rfl) T.zi b_isi (pa_cons (pv 2) (pa_cons (pe_bltn rfl T.zs b_str (v := .ty "str") rfl) pa_nil)))) (pss_one (ps_ret (pe_meth (pv 0) S.cS mM GM hr bM .nil pass0 (pa_cons (pv 1) (pa_cons (pv 2) pa_nil))))) pss_nil)
      (pss_cons (ps_set (i := 3) scFu.nd rfl (.inl rfl) (pe_call GN hr1 rfl gN kN bN .nil pass0 (pa_cons (pv 2) pa_nil)))
      (pss_cons (ps_if (pt_cmp (pc_isN (pv 3))) (pss_one (ps_ret (pv 2))) pss_nil)
      (pss_one (ps_ret (pe_tupS (StX.pa_star (pe_slice sl_tupB (pv 2) po_none (po_some (pv 3))) (pa_cons (pe_meth (pv 0) S.cS mM GM hr bM .nil pass0 (pa_cons (pv 1) (pa_cons (pe_ix ix_tup (pv 2) (pv 3) (fun _ _ => rfl)) pa_nil)))
        (StX.pa_star (pe_slice sl_tupB (pv 2) (po_some (pe_op op_add (pv 3) pe_int)) po_none) pa_nil))))))))), ?_⟩
    have hsc0 := hsc
    obtain ⟨dx, da, de, dc, g1, _⟩ := hsc0
    cases r with
    | dat d =>
      have ev : v = d := hrow
      subst ev
      rcases hin with ⟨z, rfl, hz⟩ | ⟨i, rfl⟩
      · refine ⟨.str z, rfl, .str z, .ty "int", .type "str", .type "int", false, rfl, .ty "int", .base (.str z), kit_ty (by decide +kernel), false, rfl, iteF ?_⟩
        refine ⟨.str z, rfl, .str z, .ty "str", .type "str", .type "str", true, rfl, .ty "str", .base (.str z), kit_ty (by decide +kernel), true, rfl, iteT ?_⟩
        exact ⟨.ref a, rfl, a, dx, _, rfl, g1, rfl, .str m, rfl, .str z, rfl, a, dp, ms, s, m, z, rfl, hsc, ok, hmk, hz, fun H1 s1 => q H1 _ s1 rfl⟩
      · exact ⟨.int i, rfl, .int i, .ty "int", .type "int", .type "int", true, rfl, .ty "int", .base (.int i), kit_ty (by decide +kernel), true, rfl, iteT ⟨.int i, rfl, q H _ (Same.refl H) rfl⟩⟩
    | ins xs =>
      obtain ⟨p, rfl, hp⟩ := hrow
      obtain ⟨hi, hsm⟩ := hin
      refine ⟨.ref p, rfl, .ref p, .ty "int", .type "tuple", .type "int", false, rfl, .ty "int", .base (.tup hp), kit_ty (by decide +kernel), false, rfl, iteF ?_⟩
      refine ⟨.ref p, rfl, .ref p, .ty "str", .type "tuple", .type "str", false, rfl, .ty "str", .base (.tup hp), kit_ty (by decide +kernel), false, rfl, iteF ?_⟩
      refine ⟨.ref p, rfl, p, xs, rfl, SqT.of hp, hi, ?_⟩
      cases hn : nplace xs with
      | none =>
        refine ⟨.non, rfl, _, rfl, iteT ⟨.ref p, rfl, q H _ (Same.refl H) ?_⟩⟩
        have : fullRow ms s m (.ins xs) = .ins xs := by
          show (match nplace xs with | none => MR.ins xs | some i => _) = _
          rw [hn]
        rw [this]
        exact ⟨p, rfl, hp⟩
      | some i =>
        obtain ⟨hi1, hi2, hi3, z, hz1, hz2⟩ := hi.two hn
        have hzl := (name_small hsm hz2).2
        have em : mean ms s m xs i = meaning ms s m z := by
          unfold mean
          rw [hz2]
          rfl
        have ef : fullRow ms s m (.ins xs) = .ins (xs.take i ++ (optS (meaning ms s m z) :: xs.drop (i + 1))) := by
          show (match nplace xs with | none => MR.ins xs | some i => _) = _
          rw [hn]
          dsimp only
          rw [em]
        have hxl : xs.length ≤ 4 := by
          obtain ⟨w1, rest, form, rfl, hf, hl, _⟩ := hi
          have := form3 hf
          rw [List.length_cons]
          omega
        refine ⟨.int i, rfl, _, rfl, iteF ?_⟩
        refine ⟨.ref p, rfl, .int i, rfl, i, rfl, p, xs, rfl, hp, fun p1 H1 s1 e1 => ?_⟩
        rw [cut_to] at e1
        have hp1 := s1 _ _ hp
        refine ⟨p1, _, rfl, .inl (SqT.of e1), ?_⟩
        refine ⟨.ref a, rfl, a, dx, _, rfl, s1 _ _ g1, rfl, .str m, rfl, .ref p, rfl, .int i, rfl, p, xs, i, .str z, rfl, rfl, SqT.of hp1, atI_nat hz1, ?_⟩
        refine ⟨a, dp, ms, s, m, z, rfl, hsc.mono (Ke.of s1), ok, hmk, hzl, fun H2 s2 => ?_⟩
        have hp2 := s2 _ _ hp1
        refine ⟨.ref p, rfl, .int i, rfl, _, _, rfl, rfl, (i : Int) + 1, rfl, p, xs, rfl, hp2, fun p3 H3 s3 e3 => ?_⟩
        have ec : cutV xs (some ((i : Int) + 1)) none = xs.drop (i + 1) := cut_from xs (i + 1)
        rw [ec] at e3
        refine ⟨p3, _, rfl, .inl (SqT.of e3), ?_, fun p4 H4 s4 n4 e4 => ?_⟩
        · simp only [List.length_append, List.length_cons, List.length_take, List.length_drop, List.length_nil]
          omega
        · refine q H4 (.ref p4) (((s1.trans s2).trans s3).trans s4) ?_
          rw [ef]
          refine ⟨p4, rfl, ?_⟩
          rw [e4, List.append_nil]
def spIRight (CS CM CP : Addr) (K : PySem.W.Frag) : Sp := fun vs H Q _ => ∃ a dp ms s m xs p, vs = [.ref a, .str m, .ref p] ∧ ScAt CS CM CP H a dp ms s ∧ ScOk ms s ∧ m ∈ keys ms ∧ SqT K H p xs ∧ (∀ H', Same H H' → SqT K H' p xs) ∧ RowIn (.ins xs) ∧ (∀ z q, look s.pc z = some q → q.rows.length ≤ 900) ∧ ∀ H', Same H H' → Q (.bl (insRight ms s m xs)) H'
theorem scIR : FnScope ["self", "module", "row", "place", "full", "piece"] ["self", "module", "row"] (defScope (sScope 6)) := ⟨rfl, rfl, rfl, by decide +kernel, rfl, by decide +kernel, by decide +kernel⟩
theorem ok_iright {f fM fN fR fL : Addr} {fd fdM fdN fdR fdL : FuncData} (F : Fun K "instruction_right" "Scope.instruction_right" (sScope 6) f fd) (T : TC K CD CP) (zl : mg "len" = none) (S : TS K CS CP CM) (GM : FnOk P w K mg base CX0 3 fM fdM ["self", "module", "name"] (spMean CS CM CP)) (bM : Binds K fdM ["self", "module", "name"] []) (mM : Meth K CS "meaning" fM)
    (GN : FnOk P w K mg base CX0 1 fN fdN ["row"] (spPlace K)) (bN : Binds K fdN ["row"] []) (gN : mg "name_place" = some (.ref fN)) (kN : PySem.W.keepIn K (.ref fN) = true)
    (GR : FnOk P w K mg base CX0 1 fR fdR ["row", "kind", "length"] (spMeans K)) (bR : Binds K fdR ["row", "kind", "length"] []) (gR : mg "means_right" = some (.ref fR)) (kR : PySem.W.keepIn K (.ref fR) = true)
    (GL : FnOk P w K mg base CX0 1 fL fdL ["self"] (spPLen K CP)) (bL : Binds K fdL ["self"] []) (mL : Meth K CP "__len__" fL) :
    FnOk P w K mg base CX0 4 f fd ["self", "module", "row"] (spIRight CS CM CP K) := by
  refine F.ok scIR (fun vs H Q E h => ?_) (fun cdv A outer sh H vs Q E hr h => ?_)
  · obtain ⟨a, dp, ms, s, m, xs, p, rfl, _⟩ := h
    rfl
  · obtain ⟨a, dp, ms, s, m, xs, p, rfl, hsc, ok, hmk, hp, hpS, ⟨hi, hsm⟩, hrl, q⟩ := h
    have hr1 : Room 1 _ := hr.mono (by decide)
    have hr2 : Room 2 _ := hr.mono (by decide)
    have hu := hu_of hr
    refine ⟨_, pss_cons (ps_set (i := 3) scIR.nd rfl (.inl rfl) (pe_call GN hr1 rfl gN kN bN .nil pass0 (pa_cons (pv 2) pa_nil)))
      (pss_cons (ps_if (pt_cmp (pc_isN (pv 3))) (pss_one (ps_ret pe_bl)) pss_nil)
      (pss_cons (ps_set (i := 4) scIR.nd rfl (.inl rfl) (pe_meth (pv 0) S.cS mM GM hr bM .nil pass0 (pa_cons (pv 1) (pa_cons (pe_ix ix_tup (pv 2) (pv 3) (fun _ _ => rfl)) pa_nil))))
      (pss_cons (ps_if (pt_cmp (pc_isN (pv 4))) (pss_one (ps_ret pe_bl)) pss_nil)
      (pss_cons (ps_set (i := 5) scIR.nd rfl (.inl rfl) (pe_dget hu (pe_fld (pv 0) rfl) (pv 4) (fun _ _ => rfl)))
      (pss_one (ps_ret (pe_call GR hr1 rfl gR kR bR .nil pass0 (pa_cons (pv 2) (pa_cons (pe_fld (pv 5) rfl) (pa_cons (pe_callB (call_len_own mL.at_ mL.fn GL bL hr2 pass0) (by rfl) zl PySem.boot_len (pa_cons (pv 5) pa_nil)) pa_nil)))))))))), ?_⟩
    have hsc0 := hsc
    obtain ⟨dx, da, de, dc, g1, _⟩ := hsc0
    have step : insRight ms s m xs = match nplace xs with
      | none => true
      | some i => match mean ms s m xs i with
        | none => false
        | some f => match look s.pc f with
          | none => false
          | some p => meansRight xs p.kind p.rows.length := rfl
    refine ⟨.ref p, rfl, p, xs, rfl, hp, hi, ?_⟩
    cases hn : nplace xs with
    | none =>
      rw [hn] at step
      refine ⟨.non, rfl, _, rfl, iteT ?_⟩
      have q1 := q H (Same.refl H)
      rw [step] at q1
      exact q1
    | some i =>
      rw [hn] at step
      dsimp only at step
      obtain ⟨hi1, hi2, hi3, z, hz1, hz2⟩ := hi.two hn
      have hzl := (name_small hsm hz2).2
      have em : mean ms s m xs i = meaning ms s m z := by
        unfold mean
        rw [hz2]
        rfl
      rw [em] at step
      refine ⟨.int i, rfl, _, rfl, iteF ?_⟩
      refine ⟨.ref a, rfl, a, dx, _, rfl, g1, rfl, .str m, rfl, .ref p, rfl, .int i, rfl, p, xs, i, .str z, rfl, rfl, hp, atI_nat hz1, ?_⟩
      refine ⟨a, dp, ms, s, m, z, rfl, hsc, ok, hmk, hzl, fun H1 s1 => ?_⟩
      cases ef : meaning ms s m z with
      | none =>
        rw [ef] at step
        refine ⟨.non, rfl, _, rfl, iteT ?_⟩
        have q1 := q H1 s1
        rw [step] at q1
        exact q1
      | some f =>
        rw [ef] at step
        dsimp only at step
        refine ⟨.str f, rfl, _, rfl, iteF ?_⟩
        obtain ⟨pc, hpc⟩ := Option.isSome_iff_exists.mp (mean_piece ok ef)
        rw [hpc] at step
        dsimp only at step
        obtain ⟨dx1, da1, de1, dc1, f1, f2, f3, f4, ⟨kvc, f5, f6⟩⟩ := hsc.mono (Ke.of s1)
        obtain ⟨v, hv1, hv2⟩ := f6.get kS_in hpc
        have hv3 := hv2
        obtain ⟨qp, dxp, tr, vr, rfl, k1, k2, k3⟩ := hv3
        refine ⟨.ref a, rfl, a, CS, dx1, _, .ref dc1, rfl, f1, S.cS, S.nPie, rfl, .str f, rfl, dc1, .ref qp, rfl, .inl ⟨kvc, kS f, f5, rfl, hv1.symm⟩, ?_⟩
        have hl := hrl f pc hpc
        refine ⟨.ref p, rfl, .ref qp, rfl, qp, CP, dxp, _, .str pc.kind, rfl, k1, T.cP, T.pKind, rfl, .ref qp, rfl, qp, dxp, _, rfl, k1, qp, pc, rfl, hv2, by omega, pc.rows.length, rfl, ?_, ?_⟩
        · rw [sizeLine_eq]
          omega
        · refine ⟨p, xs, pc.kind, pc.rows.length, rfl, hpS H1 s1, hi, ?_⟩
          have q1 := q H1 s1
          rw [step] at q1
          exact q1
def spExRight (CS CM CP : Addr) : Sp := fun vs H Q _ => ∃ a dp ms s m z, vs = [.ref a, .str m, .str z] ∧ ScAt CS CM CP H a dp ms s ∧ m ∈ keys ms ∧ (∃ y zs, look s.ex z = some (y :: zs)) ∧ ∀ H', Same H H' → Q (.bl (expRight ms s m z)) H'
theorem scER : FnScope ["self", "module", "name"] ["self", "module", "name"] (defScope (sScope 5)) := ⟨rfl, rfl, rfl, by decide +kernel, rfl, by decide +kernel, by decide +kernel⟩
theorem ok_exright {f fH : Addr} {fd fdH : FuncData} (F : Fun K "exports_right" "Scope.exports_right" (sScope 5) f fd) (S : TS K CS CP CM) (GH : FnOk P w K mg base CX0 1 fH fdH ["self", "name"] (spHas CM CP K)) (bH : Binds K fdH ["self", "name"] []) (mH : Meth K CM "__contains__" fH) :
    FnOk P w K mg base CX0 2 f fd ["self", "module", "name"] (spExRight CS CM CP) := by
  refine F.ok scER (fun vs H Q E h => ?_) (fun cdv A outer sh H vs Q E hr h => ?_)
  · obtain ⟨a, dp, ms, s, m, z, rfl, _⟩ := h
    rfl
  · obtain ⟨a, dp, ms, s, m, z, rfl, hsc, hmk, ⟨y, zs, hz⟩, q⟩ := h
    have hu := hu_of hr
    refine ⟨_, pss_one (ps_ret (pe_and (pe_cmpR (op_in_own mH.at_ mH.fn GH bH hr pass0) (pv 2) (pe_dget hu (pe_fld (pv 0) rfl) (pv 1) (fun _ _ => rfl)) (by rfl))
      (pe_one (pe_cmpR op_eq (pe_ix ix_list (pe_dget hu (pe_fld (pv 0) rfl) (pv 2) (fun _ _ => rfl)) pe_int (fun _ _ => rfl)) (pv 1) (nomark _))))), ?_⟩
    obtain ⟨st, est⟩ := Option.isSome_iff_exists.mp (look_mem.mpr hmk)
    have hsc0 := hsc
    obtain ⟨dx, da, de, dc, g1, ⟨kvs, g2, g3⟩, _⟩ := hsc0
    obtain ⟨v, g4, g5⟩ := g3.get kS_in est
    have g6 := g5
    obtain ⟨m0, dxm, tp, te, ta, nd, pvs, avs, kvn, rfl, i1, _⟩ := g6
    refine ⟨.str z, rfl, .ref a, rfl, a, CS, dx, _, .ref dp, rfl, g1, S.cS, S.nPar, rfl, .str m, rfl, dp, .ref m0, rfl, .inl ⟨kvs, kS m, g2, rfl, g4.symm⟩, ?_⟩
    refine ⟨m0, dxm, _, rfl, i1, m0, .str z, st, rfl, g5, .inl ⟨z, rfl, fun H1 s1 => ⟨_, rfl, _, rfl, ?_⟩⟩⟩
    have eh := has_of (z := z) est
    have eE : exps s z = y :: zs := by
      unfold exps
      rw [hz]
      rfl
    have step : expRight ms s m z = (hasN st z && (y == m)) := by
      unfold expRight
      rw [eh, eE]
      congr 1
    have q1 := q H1 s1
    rw [step] at q1
    refine ite2 (fun h => ?_) (fun h => ?_)
    · have h : hasN st z = true := h
      rw [h] at q1
      obtain ⟨dx1, da1, de1, dc1, f1, f2, f3, ⟨kve, f4, f5⟩, f6⟩ := hsc.mono (Ke.of s1)
      obtain ⟨v, h1, l, h2, h3⟩ := f5.get kS_in hz
      subst h2
      refine ⟨.ref a, rfl, a, CS, dx1, _, .ref de1, rfl, f1, S.cS, S.nExp, rfl, .str z, rfl, de1, .ref l, rfl, .inl ⟨kve, kS z, f4, rfl, h1.symm⟩, l, _, 0, .str y, rfl, rfl, SqL.of h3, atI_nat (j := 0) rfl, .str m, rfl, rfl, ?_⟩
      rw [str_eq2]
      exact q1
    · have h : hasN st z = false := by simpa using h
      rw [h] at q1
      exact q1
end
end PG

set_option Elab.async false
set_option linter.all false
set_option maxRecDepth 100000
set_option maxHeartbeats 4000000
/-! Whether a row of a module's text is right. -/
namespace PG
open PySem PySem.Spec PyProof.Rows L2 L2.FK FS TX
def rrAl (ms : MS) (s : Sc) (m : Str) (r : List Str) : Bool := match r with
  | [_, y] => (meaning ms s m y).isSome
  | _ => false
def rrIns (ms : MS) (s : Sc) (m : Str) (ws : List Str) : Bool := match readIns ws with
  | some xs => insRight ms s m xs
  | none => false
def rrDat (ms : MS) (s : Sc) (m : Str) (ws : List Str) : Bool := match readDat ws with
  | .str z => (meaning ms s m z).isSome
  | _ => true
def rowRight (ms : MS) (s : Sc) (m : Str) : List Str → Bool
  | [] => true
  | w :: r => if w = "export" then r.all (expRight ms s m) else if w = "alias" then rrAl ms s m r else if w = "func" ∨ w = "data" ∨ w = "end" then true
    else if (formOf w).isSome then rrIns ms s m (w :: r) else rrDat ms s m (w :: r)
theorem optS_some (o : Option Str) : o.isSome = !decide (optS o = V.non) := by
  cases o with
  | none => rfl
  | some z => rfl
/-- the words of a row of a text that was read -/
structure WOk (s : Sc) (ws : List Str) : Prop where
  ne : ws ≠ []
  wd : ∀ z ∈ ws, Wd z
  few : ws.length ≤ 900
  ex : ∀ r, ws = ("export" : Str) :: r → ∀ z ∈ r, ∃ y zs, look s.ex z = some (y :: zs)
  al : ∀ r, ws = ("alias" : Str) :: r → ∃ x y, r = [x, y] ∧ y.length ≤ 1000
  ins : ∀ w r form, ws = w :: r → formOf w = some form → ∃ xs, readIns ws = some xs ∧ RowIn (.ins xs)
  dat : ∀ w r, ws = w :: r → formOf w = none → w ≠ "export" → w ≠ "alias" → w ≠ "func" → w ≠ "data" → w ≠ "end" → (∃ z, readDat ws = .str z ∧ z.length ≤ 1000) ∨ ∃ i, readDat ws = .int i
section
variable {P : Program} {w : World} {K : PySem.W.Frag} {mg : Str → Option Value} {base : Heap} {aO aR dF CD CP CM CB CS aK : Addr} {es : Array DictEntry} {nF : Nat} {tF : Str → Addr}
def spRowRight (CS CM CP : Addr) (K : PySem.W.Frag) : Sp := fun vs H Q _ => ∃ a dp ms s m q ws, vs = [.ref a, .str m, .ref q] ∧ ScAt CS CM CP H a dp ms s ∧ ScOk ms s ∧ m ∈ keys ms ∧ H q = some (.lst (ws.map V.str)) ∧ WOk s ws ∧ (∀ z q, look s.pc z = some q → q.rows.length ≤ 900) ∧ ∀ H', Same H H' → Q (.bl (rowRight ms s m ws)) H'
theorem scRR : FnScope ["self", "module", "words", "name"] ["self", "module", "words"] (defScope (sScope 7)) := ⟨rfl, rfl, rfl, by decide +kernel, rfl, by decide +kernel, by decide +kernel⟩
theorem ok_rowright {f fE fM fI fU fRi fRd : Addr} {fd fdE fdM fdI fdU fdRi fdRd : FuncData} (F : Fun K "row_right" "Scope.row_right" (sScope 7) f fd) (T : TT K w mg aO aR dF es nF tF) (Tm : TM K mg aK) (S : TS K CS CP CM)
    (GE : FnOk P w K mg base CX0 2 fE fdE ["self", "module", "name"] (spExRight CS CM CP)) (bE : Binds K fdE ["self", "module", "name"] []) (mE : Meth K CS "exports_right" fE)
    (GM : FnOk P w K mg base CX0 3 fM fdM ["self", "module", "name"] (spMean CS CM CP)) (bM : Binds K fdM ["self", "module", "name"] []) (mM : Meth K CS "meaning" fM)
    (GI : FnOk P w K mg base CX0 4 fI fdI ["self", "module", "row"] (spIRight CS CM CP K)) (bI : Binds K fdI ["self", "module", "row"] []) (mI : Meth K CS "instruction_right" fI)
    (GU : FnOk P w K mg base CX0 4 fU fdU ["self", "module", "row"] (spFull CS CM CP)) (bU : Binds K fdU ["self", "module", "row"] []) (mU : Meth K CS "full_row" fU)
    (GRi : FnOk P w K mg base CX0 4 fRi fdRi ["words"] (spReadIns K)) (bRi : Binds K fdRi ["words"] []) (gRi : mg "read_instruction" = some (.ref fRi)) (kRi : PySem.W.keepIn K (.ref fRi) = true)
    (GRd : FnOk P w K mg base CX0 2 fRd fdRd ["words"] (spReadDat K)) (bRd : Binds K fdRd ["words"] []) (gRd : mg "read_datum" = some (.ref fRd)) (kRd : PySem.W.keepIn K (.ref fRd) = true) :
    FnOk P w K mg base CX0 5 f fd ["self", "module", "words"] (spRowRight CS CM CP K) := by
  refine F.ok scRR (fun vs H Q E h => ?_) (fun cdv A outer sh H vs Q E hr h => ?_)
  · obtain ⟨a, dp, ms, s, m, q, ws, rfl, _⟩ := h
    rfl
  · obtain ⟨a, dp, ms, s, m, p, ws, rfl, hsc, ok, hmk, hp, wok, hrl, q⟩ := h
    have hr3 : Room 3 _ := hr.mono (by decide)
    have hr2 : Room 2 _ := hr.mono (by decide)
    refine ⟨_, pss_cons (ps_if (pt_cmpR op_eq (pe_ix ix_list (pv 2) pe_int (fun _ _ => rfl)) pe_str (nomark _)) (pss_one (ps_ret (pe_callB (cr_all rfl) (by rfl) T.za b_all (pa_cons (pe_lc (own := [("name", 3)]) (g := gName 3) (tt := tYes) rfl scRR.nd (pi_list (pe_slice sl_listS (pv 2) (po_some pe_int) po_none)) (blkOk_by (N := ["self", "module", "words", "name"]) (sc := defScope (sScope 7)) (by decide +kernel))
          (fun _ _ _ _ _ => pg_name (i := 3) scRR.nd rfl (Or.inl rfl)) (fun _ _ _ _ _ => pts_nil) (fun _ _ _ _ _ => pe_meth (pv 0) S.cS mE GE hr2 bE .nil pass0 (pa_cons (pv 1) (pa_cons (pv 3) pa_nil)))) pa_nil)))) pss_nil)
      (pss_cons (ps_if (pt_cmpR op_eq (pe_ix ix_list (pv 2) pe_int (fun _ _ => rfl)) pe_str (nomark _)) (pss_one (ps_ret (pe_cmp (pc_notN (pe_meth (pv 0) S.cS mM GM hr3 bM .nil pass0 (pa_cons (pv 1) (pa_cons (pe_ix ix_list (pv 2) pe_int (fun _ _ => rfl)) pa_nil)))) rfl))) pss_nil)
      (pss_cons (ps_if (PW.pt (pw_or (pt_cmpR op_in_seq (pe_ix ix_list (pv 2) pe_int (fun _ _ => rfl)) (pe_glob rfl Tm.gK (v := .ref aK) rfl) (by rfl)) (pw_or1 (pt_cmpR op_eq (pe_ix ix_list (pv 2) pe_int (fun _ _ => rfl)) pe_str (nomark _))))) (pss_one (ps_ret pe_bl)) pss_nil)
      (pss_cons (ps_if (pt_cmpR (op_in_kd T.kF) (pe_ix ix_list (pv 2) pe_int (fun _ _ => rfl)) (pe_glob rfl T.gF (v := .ref dF) rfl) (by rfl)) (pss_one (ps_ret (pe_meth (pv 0) S.cS mI GI hr bI .nil pass0 (pa_cons (pv 1) (pa_cons (pe_call GRi hr rfl gRi kRi bRi .nil pass0 (pa_cons (pv 2) pa_nil)) pa_nil))))) pss_nil)
      (pss_one (ps_ret (pe_cmp (pc_notN (pe_meth (pv 0) S.cS mU GU hr bU .nil pass0 (pa_cons (pv 1) (pa_cons (pe_call GRd hr2 rfl gRd kRd bRd .nil pass0 (pa_cons (pv 2) pa_nil)) pa_nil)))) rfl)))))), ?_⟩
    obtain ⟨w1, rest, rfl⟩ : ∃ w1 rest, ws = w1 :: rest := by
      cases ws with
      | nil => exact absurd rfl wok.ne
      | cons w1 rest => exact ⟨w1, rest, rfl⟩
    have hsc0 := hsc
    obtain ⟨dx, da, de, dc, g1, _⟩ := hsc0
    have hS : SqL K H p ((w1 :: rest).map V.str) := SqL.of hp
    have a0 : atI ((w1 :: rest).map V.str) 0 = some (.str w1) := atI_nat (j := 0) rfl
    have hq : ∀ (H' : Hp) (b : Bool), Same H H' → rowRight ms s m (w1 :: rest) = b → Q (.bl b) H' := fun H' b s' e => by rw [← e]; exact q H' s'
    have step : rowRight ms s m (w1 :: rest) = if w1 = "export" then rest.all (expRight ms s m) else if w1 = "alias" then rrAl ms s m rest else if w1 = "func" ∨ w1 = "data" ∨ w1 = "end" then true
      else if (formOf w1).isSome then rrIns ms s m (w1 :: rest) else rrDat ms s m (w1 :: rest) := rfl
    refine ⟨.ref p, rfl, p, _, 0, .str w1, rfl, rfl, hS, a0, rfl, _, rfl, ?_⟩
    rw [str_eq]
    refine ite2 (fun h1 => ?_) (fun h1 => ?_)
    · have e1 := of_decide_eq_true h1
      subst e1
      rw [if_pos rfl] at step
      refine ⟨.ref p, rfl, 1, rfl, p, _, rfl, hS, fun p1 H1 s1 n1 e2 => ?_⟩
      have ec : cutV ((("export" : Str) :: rest).map V.str) (some 1) none = rest.map V.str := cut_rest _ _
      rw [ec] at e2
      refine ⟨p1, rfl, ⟨_, SqL.of e2⟩, fun D hD => ?_⟩
      have hlr : rest.length ≤ 900 := by
        have := wok.few
        rw [List.length_cons] at this
        omega
      refine lc_list (xs := rest.map V.str) (fun i H' => Same H1 H' ∧ H' D = some (.lst ((rest.take i).map fun z => V.bl (expRight ms s m z)))) ⟨same_new hD, upd_same⟩ (fun _ _ _ h => SqL.of (h.1 _ _ e2)) (fun i x H2 hx ⟨s2, e3⟩ => ?_) (fun H2 ⟨s2, e3⟩ => ?_)
      · rw [List.getElem?_map] at hx
        obtain ⟨z, hz1, hz2⟩ := Option.map_eq_some_iff.mp hx
        subst hz2
        have t2 := s1.trans s2
        have hsc2 := hsc.mono (Ke.of t2)
        obtain ⟨dx2, da2, de2, dc2, g2, _⟩ := id hsc2
        refine ⟨rfl, ?_⟩
        refine ⟨.ref a, rfl, a, dx2, _, rfl, g2, rfl, .str m, rfl, .str z, rfl, a, dp, ms, s, m, z, rfl, hsc2, hmk, wok.ex rest rfl z (List.mem_of_getElem? hz1), fun H3 s3 => ⟨_, s3 _ _ e3, ?_, fun b o eb => ?_, ?_⟩⟩
        · rw [List.length_map, List.length_take]
          exact small1000 (by omega)
        · rw [upd_ne (ne_of_none eb hD)]
          exact s3 _ _ (s2 _ _ eb)
        · rw [upd_same, List.take_add_one, hz1, List.map_append]
          rfl
      · rw [List.length_map, List.take_length] at e3
        refine ⟨D, rest.map (expRight ms s m), rfl, SqL.of (by rw [e3, List.map_map]; rfl), hq H2 _ (s1.trans s2) ?_⟩
        rw [step, List.all_map]
        rfl
    · have e1 : ¬ w1 = "export" := fun e => h1 (decide_eq_true e)
      rw [if_neg e1] at step
      refine ⟨.ref p, rfl, p, _, 0, .str w1, rfl, rfl, hS, a0, rfl, _, rfl, ?_⟩
      rw [str_eq]
      refine ite2 (fun h2 => ?_) (fun h2 => ?_)
      · have e2 := of_decide_eq_true h2
        subst e2
        rw [if_pos rfl] at step
        obtain ⟨x, y, rfl, hy⟩ := wok.al rest rfl
        refine ⟨.ref a, rfl, a, dx, _, rfl, g1, rfl, .str m, rfl, .ref p, rfl, p, _, 2, .str y, rfl, rfl, hS, atI_nat (j := 2) rfl, a, dp, ms, s, m, y, rfl, hsc, ok, hmk, hy, fun H1 s1 => hq H1 _ s1 ?_⟩
        rw [step]
        exact optS_some _
      · have e2 : ¬ w1 = "alias" := fun e => h2 (decide_eq_true e)
        rw [if_neg e2] at step
        refine ⟨.ref p, rfl, p, _, 0, .str w1, rfl, rfl, hS, a0, aK, _, rfl, .inr (Tm.kK.sq H), rfl, by decide, _, rfl, ?_⟩
        rw [show (if false = true then !inV (V.str w1) [V.str "func", V.str "data"] else inV (V.str w1) [V.str "func", V.str "data"]) = (["func", "data"] : List Str).contains w1 from inV_strs w1 ["func", "data"]]
        refine ite2 (fun h3 => ?_) (fun h3 => ?_)
        · refine iteT (hq H _ (Same.refl H) ?_)
          have : w1 = "func" ∨ w1 = "data" := by
            rw [List.contains_iff_mem] at h3
            simpa using h3
          rw [step, if_pos (this.elim .inl fun h => .inr (.inl h))]
        · have n3 : ¬ (w1 = "func" ∨ w1 = "data") := fun h => h3 (by rw [List.contains_iff_mem]; simpa using h)
          refine ⟨.ref p, rfl, p, _, 0, .str w1, rfl, rfl, hS, a0, rfl, _, rfl, ?_⟩
          rw [str_eq]
          refine ite2 (fun h4 => hq H _ (Same.refl H) ?_) (fun h4 => ?_)
          · rw [step, if_pos (.inr (.inr (of_decide_eq_true h4)))]
          · have n4 : ¬ w1 = "end" := fun e => h4 (decide_eq_true e)
            rw [if_neg (fun h => h.elim (fun h => n3 (.inl h)) fun h => h.elim (fun h => n3 (.inr h)) n4)] at step
            have lf := T.lF w1
            cases hf : formOf w1 with
            | some form =>
              rw [hf] at step lf
              rw [if_pos (show (some form).isSome = true from rfl)] at step
              refine ⟨.ref p, rfl, p, _, 0, .str w1, rfl, rfl, hS, a0, w1, _, rfl, rfl, lf, _, rfl, iteT ?_⟩
              obtain ⟨xs, hx1, hx2⟩ := wok.ins w1 rest form rfl hf
              unfold rrIns at step
              rw [hx1] at step
              dsimp only at step
              refine ⟨.ref a, rfl, a, dx, _, rfl, g1, rfl, .str m, rfl, .ref p, rfl, p, w1 :: rest, rfl, hS, wok.ne, wok.wd, fun en => ?_, fun xs' ex H1 p1 s1 n1 e5 => ?_⟩
              · rw [hx1] at en
                cases en
              · rw [hx1] at ex
                cases ex
                exact ⟨a, dp, ms, s, m, xs, p1, rfl, hsc.mono (Ke.of s1), ok, hmk, SqT.of e5, fun H' s' => SqT.of (s' _ _ e5), hx2, hrl, fun H2 s2 => hq H2 _ (s1.trans s2) step⟩
            | none =>
              rw [hf] at step lf
              rw [if_neg (by simp)] at step
              refine ⟨.ref p, rfl, p, _, 0, .str w1, rfl, rfl, hS, a0, w1, _, rfl, rfl, lf, _, rfl, iteF ?_⟩
              have hd := wok.dat w1 rest rfl hf e1 e2 (fun h => n3 (.inl h)) (fun h => n3 (.inr h)) n4
              refine ⟨.ref a, rfl, a, dx, _, rfl, g1, rfl, .str m, rfl, .ref p, rfl, p, w1 :: rest, rfl, hS, wok.wd, fun H1 s1 => ?_⟩
              refine ⟨a, dp, ms, s, m, .dat (readDat (w1 :: rest)), _, rfl, hsc.mono (Ke.of s1), ok, hmk, rfl, hd, fun H2 v' s2 hv => ?_⟩
              have ev : v' = (match readDat (w1 :: rest) with | .str z => optS (meaning ms s m z) | v => v) := by
                revert hv
                show RowAt H2 (fullRow ms s m (.dat (readDat (w1 :: rest)))) v' → _
                rcases hd with ⟨z, ez, _⟩ | ⟨i, ei⟩
                · rw [ez]
                  exact id
                · rw [ei]
                  exact id
              refine hq H2 _ (s1.trans s2) ?_
              rw [step, ev]
              unfold rrDat
              rcases hd with ⟨z, ez, _⟩ | ⟨i, ei⟩
              · rw [ez]
                exact optS_some _
              · rw [ei]
                rfl
end
end PG

set_option Elab.async false
set_option linter.all false
set_option maxRecDepth 100000
set_option maxHeartbeats 4000000
/-! All rows looked at; the entry. -/
namespace PG
open PySem PySem.Spec PyProof.Rows L2 L2.FK FS TX
abbrev sCheck : Stmt := top (TX.o + 22)
abbrev sEntry : Stmt := top (TX.o + 23)
abbrev sErrI (i : Nat) : Stmt := inClass (top i) 0
def badRow (ms : MS) (s : Sc) (m : Str) : List (List Str) → Nat → Option Nat
  | [], _ => none
  | ws :: r, i => if rowRight ms s m ws then badRow ms s m r (i + 1) else some i
def textOf (mods : List (Str × Str)) (m : Str) : Str := (look mods m).getD ""
def badMod (ms : MS) (s : Sc) (mods : List (Str × Str)) : MS → Option (Str × Nat)
  | [] => none
  | p :: r => match badRow ms s p.1 (rowsOf (textOf mods p.1)) 0 with
    | some i => some (p.1, i)
    | none => badMod ms s mods r
def findEntry (ms : MS) (s : Sc) (z : Str) : Option Str := if isName z then (match (exps s z).head? with
    | none => none
    | some y => (match meaning ms s y z with
      | none => none
      | some f => (match look s.pc f with
        | none => none
        | some p => if p.kind = "func" then some f else none))) else none
/-! ### errors with two values -/
def spBad2 (C : Addr) (f g : Str) : Sp := fun vs H Q _ => ∃ (a : Addr) (v u : V), vs = [.ref a, v, u] ∧ H a = some (exo a C none) ∧ ∀ H' d, H d = none → d ≠ a → Off a H H' → H' a = some (exo a C (some d)) → H' d = some (exd d [(g, u), (f, v)]) → Q .non H'
theorem bad_mk2 {C : Addr} {f g : Str} {v u : V} {H : Hp} {W : XK} (h : ∀ d H', H d = none → Same H H' → H' d = some (.xd [(g, u), (f, v)]) → W (.ref C) (some d) H') :
    [v, u].length ≤ 1000 ∧ ∀ a, H a = none → spBad2 C f g (.ref a :: ([v, u] ++ [])) (upd H a (exo a C none)) (fun v H2 => v = .non ∧ ∃ (d : Addr) (fs : List (Str × V)), H2 a = some (exo a C (some d)) ∧ H2 d = some (exd d fs) ∧ H d = none ∧ W (.ref C) (some d) (upd (L2.del H2 a) d (.xd fs))) (fun _ _ _ => False) := by
  refine ⟨by simp, fun a na => ⟨a, v, u, rfl, upd_same, fun H' d nd da off e1 e2 => ⟨rfl, d, _, e1, e2, ?_, ?_⟩⟩⟩
  · rw [upd_ne da] at nd
    exact nd
  · have nd' : H d = none := by
      rw [upd_ne da] at nd
      exact nd
    refine h d _ nd' (fun b o e => ?_) upd_same
    have b1 : b ≠ d := ne_of_none e nd'
    have b2 : b ≠ a := ne_of_none e na
    rw [upd_ne b1, del_ne b2]
    exact off b o b2 (by rw [upd_ne b2]; exact e)
section
variable {P : Program} {w : World} {K : PySem.W.Frag} {mg : Str → Option Value} {base : Heap} {aO aR dF CD CP CM CB CS aK CBM fBM CBN fBN : Addr} {es : Array DictEntry} {nF : Nat} {tF : Str → Addr}
theorem scBM : FnScope ["self", "module", "row"] ["self", "module", "row"] (defScope (sErrI 5)) := ⟨rfl, rfl, rfl, by decide +kernel, rfl, by decide +kernel, by decide +kernel⟩
theorem ok_badmod {f C : Addr} {fd : FuncData} (F : Fun K "__init__" "BadModule.__init__" (sErrI 5) f fd) (E : EC K mg "BadModule" C f) (no0 : PySem.W.findIn K (.ref C) "module" = some none) (no1 : PySem.W.findIn K (.ref C) "row" = some none) : FnOk P w K mg base CX0 1 f fd ["self", "module", "row"] (spBad2 C "module" "row") := by
  refine F.ok scBM (fun vs H Q E h => ?_) (fun cdv A outer s H vs Q E1 hr h => ?_)
  · obtain ⟨a, v, u, rfl, _⟩ := h
    rfl
  · obtain ⟨a, v, u, rfl, ha, k⟩ := h
    refine ⟨_, pss_cons (ps_ost (pv 0) (pv 1)) (pss_one (ps_ost (pv 0) (pv 2))), ?_⟩
    refine ⟨v, rfl, .ref a, rfl, a, C, rfl, E.oex, no0, .inl ⟨ha, fun dx n ne => ?_⟩⟩
    refine ⟨u, rfl, .ref a, rfl, a, C, rfl, E.oex, no1, .inr ⟨dx, [("module", v)], upd_same, (by rw [upd_ne ne, upd_same]), (by simp), ?_⟩⟩
    exact k _ dx n ne (off_second n) (by rw [upd_ne ne.symm]; exact upd_same) upd_same
theorem scBN : FnScope ["self", "value"] ["self", "value"] (defScope (sErrI 4)) := ⟨rfl, rfl, rfl, by decide +kernel, rfl, by decide +kernel, by decide +kernel⟩
theorem ok_badname {f C : Addr} {fd : FuncData} (F : Fun K "__init__" "BadName.__init__" (sErrI 4) f fd) (E : EC K mg "BadName" C f) (no0 : PySem.W.findIn K (.ref C) "value" = some none) : FnOk P w K mg base CX0 1 f fd ["self", "value"] (spBad C "value") := by
  refine F.ok scBN (fun vs H Q E h => ?_) (fun cdv A outer s H vs Q E1 hr h => ?_)
  · obtain ⟨a, v, rfl, _⟩ := h
    rfl
  · obtain ⟨a, v, rfl, ha, k⟩ := h
    refine ⟨_, pss_one (ps_ost (pv 0) (pv 1)), ?_⟩
    exact ⟨v, rfl, .ref a, rfl, a, C, rfl, E.oex, no0, .inl ⟨ha, fun dx n ne => k _ dx n ne (off_first n) upd_same (by rw [upd_ne ne, upd_same])⟩⟩
/-! ### check_modules -/
def spCheck (CS CM CP CBM : Addr) : Sp := fun vs H Q E => ∃ a dp ms s dt mods kvs, vs = [.ref a, .ref dt] ∧ ScAt CS CM CP H a dp ms s ∧ ScOk ms s ∧ H dp = some (.dK kvs) ∧ DR kS (ModR CM CP H) ms kvs ∧ H dt = some (.dK (txK mods)) ∧ dt ≠ dp ∧ (∀ z q, look s.pc z = some q → q.rows.length ≤ 900) ∧
  (∀ p ∈ ms, ∃ t, look mods p.1 = some t ∧ FitT t ∧ ∀ ws ∈ rowsOf t, WOk s ws) ∧ (badMod ms s mods ms = none → ∀ H', Same H H' → Q .non H') ∧
  ∀ m i, badMod ms s mods ms = some (m, i) → ∀ d H', Off dp H H' → H' d = some (.xd [("row", .int (i : Nat)), ("module", .str m)]) → E (.ref CBM) (some d) H'
theorem scCk : FnScope ["scope", "texts", "name", "number", "words"] ["scope", "texts"] (defScope sCheck) := ⟨rfl, rfl, rfl, by decide +kernel, rfl, by decide +kernel, by decide +kernel⟩
theorem ok_check {f fS fR : Addr} {fd fdS fdR fdB : FuncData} (F : Fun K "check_modules" "check_modules" sCheck f fd) (ze : mg "enumerate" = none) (S : TS K CS CP CM) (E1 : EC K mg "BadModule" CBM fBM)
    (GS : FnOk P w K mg base CX0 1 fS fdS ["text"] spSplit) (bS : Binds K fdS ["text"] []) (gS : mg "split_rows" = some (.ref fS)) (kS' : PySem.W.keepIn K (.ref fS) = true)
    (GR : FnOk P w K mg base CX0 5 fR fdR ["self", "module", "words"] (spRowRight CS CM CP K)) (bR : Binds K fdR ["self", "module", "words"] []) (mR : Meth K CS "row_right" fR)
    (GB : FnOk P w K mg base CX0 1 fBM fdB ["self", "module", "row"] (spBad2 CBM "module" "row")) (bB : Binds K fdB ["self", "module", "row"] []) :
    FnOk P w K mg base (L2.CX P w) 6 f fd ["scope", "texts"] (spCheck CS CM CP CBM) := by
  refine F.okX scCk (fun vs H Q E h => ?_) (fun cdv A outer sh H vs Q E hr h => ?_)
  · obtain ⟨a, dp, ms, s, dt, mods, kvs, rfl, _⟩ := h
    rfl
  · obtain ⟨a, dp, ms, s, dt, mods, kvs, rfl, hsc, ok, hd, hdr, ht, ntp, hrl, hok, q0, q1⟩ := h
    have hu := hu_of hr
    have hr1 : Room 1 _ := hr.mono (by decide)
    have hr2 : Room 2 _ := hr.mono (by decide)
    refine ⟨_, pss_one (ps_lock (ps_for (passes_of rfl) rfl (pi_keys (pe_fld (pv 0) rfl)) (pg_name (i := 2) scCk.nd rfl (.inl rfl))
      (pss_one (ps_for (passes_of rfl) rfl (pi_enum (by rfl) ze (pa_cons (pe_call GS hr1 rfl gS kS' bS .nil pass0 (pa_cons (pe_dget hu (pv 1) (pv 2) (fun _ _ => rfl)) pa_nil)) pa_nil)) (pg_tup rfl (pgs_cons (pg_name (i := 3) scCk.nd rfl (Or.inl rfl)) (pgs_cons (pg_name (i := 4) scCk.nd rfl (Or.inl rfl)) pgs_nil)))
        (pss_one (ps_if (pt_not (pt_val (pe_meth (pv 0) S.cS mR GR hr bR .nil pass0 (pa_cons (pv 2) (pa_cons (pv 4) pa_nil)))))
          (pss_one (ps_raise rfl (takes_of rfl rfl rfl rfl) (pmk_oex E1.oex E1.iC E1.tI GB hr2 bB .nil pass0 rfl E1.gC (pa_cons (pv 2) (pa_cons (pv 3) pa_nil))))) pss_nil)))))), ?_⟩
    have hsc0 := hsc
    obtain ⟨dx, da, de, dc, g1, _⟩ := hsc0
    have nda : a ≠ dp := ne_of g1 hd (by intro z; cases z)
    refine ⟨dp, .dK kvs, hd, trivial, fun od => ?_⟩
    generalize hL : upd H dp (.frz od (.dK kvs)) = L
    have kL : Ke H L := by rw [← hL]; exact Ke.lock hd
    have eL : L dp = some (.frz od (.dK kvs)) := by rw [← hL]; exact upd_same
    have tL : L dt = some (.dK (txK mods)) := by rw [← hL, upd_ne ntp]; exact ht
    have aL := kL.ins _ _ _ _ g1
    have back : ∀ {H' : Hp}, Same L H' → Same H (upd H' dp (.dK kvs)) := fun {H'} s' => unlock hd (by rw [hL]; exact s')
    have offL : ∀ {H' : Hp}, Same L H' → Off dp H H' := fun {H'} s' b o nb e => s' _ _ (by rw [← hL, upd_ne nb]; exact e)
    refine ⟨.ref a, rfl, a, CS, dx, _, .ref dp, rfl, aL, S.cS, S.nPar, rfl, dp, od, rfl, .inl ⟨kvs, eL, ?_⟩⟩
    have hlen : kvs.length = ms.length := hdr.len.symm
    refine for_it walk_keys (fun i σ H' => ∃ v2 v3 v4, σ = [some (.ref a), some (.ref dt), v2, v3, v4] ∧ Same L H' ∧ badMod ms s mods (ms.drop i) = badMod ms s mods ms) ⟨none, none, none, rfl, Same.refl L, by rw [List.drop_zero]⟩ (fun i σ H' _ ⟨_, _, _, _, s', _⟩ => s' _ _ eL)
      (fun i x σ H1 H2 hi ⟨v2, v3, v4, hσ, s1, eb⟩ ⟨eH, k, v0, hk, ex⟩ => ?_) (fun σ H1 ⟨v2, v3, v4, hσ, s1, eb⟩ => ?_)
    · subst eH hσ
      obtain ⟨⟨m, st⟩, hp1, hp2, hp3⟩ := dr_at hdr hk
      have hp2 : k = kS m := hp2
      subst hp2
      subst ex
      have hmem := List.mem_of_getElem? hp1
      obtain ⟨t, ht1, ht2, ht3⟩ := hok _ hmem
      dsimp only at ht1
      have hmk : m ∈ keys ms := List.mem_map.mpr ⟨_, hmem, rfl⟩
      have ed : ms.drop i = (m, st) :: ms.drop (i + 1) := by
        rw [List.drop_eq_getElem_cons (List.getElem?_eq_some_iff.mp hp1).1, (List.getElem?_eq_some_iff.mp hp1).2]
      have et : textOf mods m = t := by
        unfold textOf
        rw [ht1]
        rfl
      have step : badMod ms s mods (ms.drop i) = match badRow ms s m (rowsOf t) 0 with
          | some j => some (m, j)
          | none => badMod ms s mods (ms.drop (i + 1)) := by
        rw [ed, ← et]
        rfl
      rw [step] at eb
      refine ⟨.ref dt, rfl, .str m, rfl, dt, .str t, rfl, .inl ⟨txK mods, kS m, .inl (s1 _ _ tL), rfl, (tx_look ht1).symm⟩, t, rfl, ht2.fits, fun H3 r rs s3 n3 e3 hrows => ?_⟩
      have t3 := s1.trans s3
      refine ⟨r, rs, rfl, SqL.of e3, ?_⟩
      refine for_it (walk_enum (xs := rs)) (fun j σ H' => ∃ v3 v4, σ = [some (.ref a), some (.ref dt), some (.str m), v3, v4] ∧ Same H3 H' ∧ badRow ms s m ((rowsOf t).drop j) j = badRow ms s m (rowsOf t) 0) ⟨v3, v4, rfl, Same.refl _, by rw [List.drop_zero]⟩ (fun j σ H' _ ⟨_, _, _, s', _⟩ => s'.seq (SqL.of e3))
        (fun j x σ H4 H5 hj ⟨v3, v4, hσ, s4, er⟩ ⟨T1, x1, y1, hx0, nT, eH, hx, hy⟩ => ?_) (fun σ H4 ⟨v3, v4, hσ, s4, er⟩ => ?_)
      · subst hσ hx0 eH
        cases hx
        obtain ⟨ws, hws, q, rfl, hq⟩ := pair_get hrows hy
        have s5 : Same H4 (upd H4 T1 (.tup [.int (j : Nat), .ref q])) := same_new nT
        have t5 := (t3.trans s4).trans s5
        have hq5 := s5 _ _ (s4 _ _ hq)
        have ed2 : (rowsOf t).drop j = ws :: (rowsOf t).drop (j + 1) := by
          rw [List.drop_eq_getElem_cons (List.getElem?_eq_some_iff.mp hws).1, (List.getElem?_eq_some_iff.mp hws).2]
        have step2 : badRow ms s m ((rowsOf t).drop j) j = if rowRight ms s m ws then badRow ms s m ((rowsOf t).drop (j + 1)) (j + 1) else some j := by rw [ed2]; rfl
        rw [step2] at er
        refine ⟨T1, _, rfl, SqT.of upd_same, rfl, _, _, rfl, _, _, rfl, rfl, ?_⟩
        have hsc5 : ScAt CS CM CP _ a dp ms s := hsc.mono (kL.trans (Ke.of t5))
        refine ⟨.ref a, rfl, a, dx, _, rfl, t5 _ _ aL, rfl, .str m, rfl, .ref q, rfl, a, dp, ms, s, m, q, ws, rfl, hsc5, ok, hmk, hq5, ht3 ws (List.mem_of_getElem? hws), hrl, fun H6 s6 => ⟨_, rfl, ?_⟩⟩
        have t6 := t5.trans s6
        cases hb : rowRight ms s m ws with
        | true =>
          rw [hb, if_pos rfl] at er
          exact iteF ⟨_, _, rfl, (s4.trans s5).trans s6, er⟩
        | false =>
          rw [hb, if_neg (by simp)] at er
          refine iteT ⟨.str m, rfl, .int (j : Nat), rfl, bad_mk2 fun d H7 nd s7 e7 => ?_⟩
          rw [← er] at eb
          exact q1 m j eb.symm d H7 (offL (t6.trans s7)) e7
      · subst hσ
        have hrl2 : (rowsOf t).length = rs.length := hrows.length
        rw [← hrl2, List.drop_length] at er
        rw [← er] at eb
        exact ⟨_, _, _, rfl, t3.trans s4, eb⟩
    · subst hσ
      rw [hlen, List.drop_length] at eb
      exact ⟨s1 _ _ eL, q0 eb.symm _ (back s1)⟩
/-! ### find_entry -/
def spEntry (CS CM CP CBN : Addr) (K : PySem.W.Frag) : Sp := fun vs H Q E => ∃ a dp ms s z, vs = [.ref a, .str z] ∧ z.length ≤ 1000 ∧ ScAt CS CM CP H a dp ms s ∧ ScOk ms s ∧ (∀ y r, look s.ex z = some (y :: r) → (meaning ms s y z).isSome = true) ∧ (∀ zs, look s.ex z = some zs → zs ≠ []) ∧
  (∀ f, findEntry ms s z = some f → ∀ H', Same H H' → Q (.str f) H') ∧ (findEntry ms s z = none → ∀ d H', Same H H' → H' d = some (.xd [("value", .str z)]) → E (.ref CBN) (some d) H')
theorem scFE : FnScope ["scope", "entry", "full"] ["scope", "entry"] (defScope sEntry) := ⟨rfl, rfl, rfl, by decide +kernel, rfl, by decide +kernel, by decide +kernel⟩
theorem ok_entry {f fN fM : Addr} {fd fdN fdM fdB : FuncData} (F : Fun K "find_entry" "find_entry" sEntry f fd) (T : TC K CD CP) (S : TS K CS CP CM) (E1 : EC K mg "BadName" CBN fBN)
    (GN : FnOk P w K mg base CX0 1 fN fdN ["value"] (spIsName K)) (bN : Binds K fdN ["value"] []) (gN : mg "is_name" = some (.ref fN)) (kN : PySem.W.keepIn K (.ref fN) = true)
    (GM : FnOk P w K mg base CX0 3 fM fdM ["self", "module", "name"] (spMean CS CM CP)) (bM : Binds K fdM ["self", "module", "name"] []) (mM : Meth K CS "meaning" fM)
    (GB : FnOk P w K mg base CX0 1 fBN fdB ["self", "value"] (spBad CBN "value")) (bB : Binds K fdB ["self", "value"] []) :
    FnOk P w K mg base (L2.CX P w) 4 f fd ["scope", "entry"] (spEntry CS CM CP CBN K) := by
  refine F.okX scFE (fun vs H Q E h => ?_) (fun cdv A outer sh H vs Q E hr h => ?_)
  · obtain ⟨a, dp, ms, s, z, rfl, _⟩ := h
    rfl
  · obtain ⟨a, dp, ms, s, z, rfl, hz, hsc, ok, hme, hne, q0, q1⟩ := h
    have hu := hu_of hr
    have hr1 : Room 1 _ := hr.mono (by decide)
    have hr2 : Room 2 _ := hr.mono (by decide)
    refine ⟨_, pss_cons (ps_if (PW.pt (pw_or (pt_not (pt_val (pe_call GN hr1 rfl gN kN bN .nil pass0 (pa_cons (pv 1) pa_nil)))) (pw_or1 (pt_cmp (pc_dnotin hu (pv 1) (pe_fld (pv 0) rfl))))))
        (pss_one (ps_raise rfl (takes_of rfl rfl rfl rfl) (pmk_oex E1.oex E1.iC E1.tI GB hr2 bB .nil pass0 rfl E1.gC (pa_cons (pv 1) pa_nil)))) pss_nil)
      (pss_cons (ps_set (i := 2) scFE.nd rfl (.inl rfl) (pe_meth (pv 0) S.cS mM GM hr bM .nil pass0 (pa_cons (pe_ix ix_list (pe_dget hu (pe_fld (pv 0) rfl) (pv 1) (fun _ _ => rfl)) pe_int (fun _ _ => rfl)) (pa_cons (pv 1) pa_nil))))
      (pss_cons (ps_if (pt_cmpR op_ne (pe_fld (pe_dget hu (pe_fld (pv 0) rfl) (pv 2) (fun _ _ => rfl)) rfl) pe_str (nomark _))
        (pss_one (ps_raise rfl (takes_of rfl rfl rfl rfl) (pmk_oex E1.oex E1.iC E1.tI GB hr2 bB .nil pass0 rfl E1.gC (pa_cons (pv 1) pa_nil)))) pss_nil)
      (pss_one (ps_ret (pv 2))))), ?_⟩
    have bad : ∀ {H1 : Hp}, Same H H1 → findEntry ms s z = none → ∀ d H', H1 d = none → Same H1 H' → H' d = some (.xd [("value", .str z)]) → E (.ref CBN) (some d) H' := fun {H1} s1 e d H' _ s2 e2 => q1 e d H' (s1.trans s2) e2
    refine ⟨.str z, rfl, .str z, rfl, .inl ⟨z, rfl, (by rw [sizeLine_eq]; omega), fun H1 s1 => ⟨_, rfl, ?_⟩⟩⟩
    obtain ⟨dx, da, de, dc, g1, g2, g3, ⟨kve, g4, g5⟩, g6⟩ := hsc.mono (Ke.of s1)
    cases hn : isName z with
    | false =>
      refine iteT (iteT ⟨.str z, rfl, bad_mk (bad s1 ?_)⟩)
      unfold findEntry
      rw [hn]
      rfl
    | true =>
      refine iteF ?_
      have step : findEntry ms s z = (match (exps s z).head? with
          | none => none
          | some y => (match meaning ms s y z with
            | none => none
            | some f => (match look s.pc f with
              | none => none
              | some p => if p.kind = "func" then some f else none))) := by
        unfold findEntry
        rw [hn]
        rfl
      refine ⟨.str z, rfl, .ref a, rfl, a, CS, dx, _, .ref de, rfl, g1, S.cS, S.nExp, rfl, de, valV kve (kS z), rfl, .inl ⟨kve, kS z, g4, rfl, rfl⟩, _, rfl, ?_⟩
      rw [g5.isSome kS_in]
      cases ez : look s.ex z with
      | none =>
        refine iteT ⟨.str z, rfl, bad_mk (bad s1 ?_)⟩
        rw [step]
        unfold exps
        rw [ez]
        rfl
      | some zs =>
        refine iteF ?_
        obtain ⟨y, r, rfl⟩ : ∃ y r, zs = y :: r := by
          cases zs with
          | nil => exact absurd rfl (hne _ ez)
          | cons y r => exact ⟨y, r, rfl⟩
        have eE : (exps s z).head? = some y := by
          unfold exps
          rw [ez]
          rfl
        rw [eE] at step
        dsimp only at step
        have hyk : y ∈ keys ms := ok.exm z _ ez y (List.mem_cons_self ..)
        obtain ⟨v, h1, l, h2, h3⟩ := g5.get kS_in ez
        subst h2
        refine ⟨.ref a, rfl, a, dx, _, rfl, g1, rfl, .ref a, rfl, a, CS, dx, _, .ref de, rfl, g1, S.cS, S.nExp, rfl, .str z, rfl, de, .ref l, rfl, .inl ⟨kve, kS z, g4, rfl, h1.symm⟩, l, _, 0, .str y, rfl, rfl, SqL.of h3, atI_nat (j := 0) rfl, .str z, rfl, ?_⟩
        refine ⟨a, dp, ms, s, y, z, rfl, hsc.mono (Ke.of s1), ok, hyk, hz, fun H2 s2 => ?_⟩
        have t2 := s1.trans s2
        obtain ⟨f, hf⟩ := Option.isSome_iff_exists.mp (hme y r ez)
        rw [hf]
        rw [hf] at step
        dsimp only at step
        obtain ⟨pc, hpc⟩ := Option.isSome_iff_exists.mp (mean_piece ok hf)
        rw [hpc] at step
        dsimp only at step
        obtain ⟨dx2, da2, de2, dc2, f1, f2, f3, f4, ⟨kvc, f5, f6⟩⟩ := hsc.mono (Ke.of t2)
        obtain ⟨v, hv1, qp, dxp, tr, vr, rfl, k1, k2, k3⟩ := f6.get kS_in hpc
        refine ⟨.ref a, rfl, a, CS, dx2, _, .ref dc2, rfl, f1, S.cS, S.nPie, rfl, .str f, rfl, dc2, .ref qp, rfl, .inl ⟨kvc, kS f, f5, rfl, hv1.symm⟩, qp, CP, dxp, _, .str pc.kind, rfl, k1, T.cP, T.pKind, rfl, rfl, _, rfl, ?_⟩
        rw [str_eq]
        by_cases hk : pc.kind = "func"
        · rw [if_pos hk] at step
          refine iteNS hk ?_
          exact ⟨.str f, rfl, q0 f step H2 t2⟩
        · rw [if_neg hk] at step
          rw [decide_eq_false hk]
          exact iteT ⟨.str z, rfl, bad_mk (bad t2 step)⟩
end
end PG

set_option Elab.async false
set_option linter.all false
set_option maxRecDepth 100000
set_option maxHeartbeats 4000000
/-! Programs: the mirror, in memory. -/
namespace PG
open PySem PySem.Spec PyProof.Rows L2 L2.FK FS TX
abbrev sProg (j : Nat) : Stmt := inClass (top (TX.o + 24)) j
def kIn (m : Str) (l : List (Str × Str)) (p : MP) : List (Str × Str) := put l (full m p.name) p.kind
def rIn (ms : MS) (s : Sc) (m : Str) (l : List (Str × List MR)) (p : MP) : List (Str × List MR) := put l (full m p.name) (p.rows.map (fullRow ms s m))
def kindsOf (ms : MS) : List (Str × Str) := ms.foldl (fun l m => m.2.ps.foldl (kIn m.1) l) []
def rowsOfM (ms : MS) (s : Sc) (ns : MS) : List (Str × List MR) := ns.foldl (fun l m => m.2.ps.foldl (rIn ms s m.1) l) []
structure Pr where
  ms : MS
  entry : Str
  pieces : List Str
  taken : List Str
namespace Pr
def s (p : Pr) : Sc := scOf p.ms
def kinds (p : Pr) : List (Str × Str) := kindsOf p.ms
def rows (p : Pr) : List (Str × List MR) := rowsOfM p.ms p.s p.ms
def kind (p : Pr) (f : Str) : Str := (look p.kinds f).getD ""
def row (p : Pr) (f : Str) : List MR := (look p.rows f).getD []
def names (p : Pr) : List Str := (p.pieces.map fun f => takenOf (p.kind f) (p.row f)).flatten
end Pr
/-- what must hold of modules so that Program can be asked -/
structure PrIn (mods : List (Str × Str)) (ms : MS) : Prop where
  mok : ModsOk mods ms
  sok : ScOk ms (scOf ms)
  sm : Small ms
  rl : ∀ z q, look (scOf ms).pc z = some q → q.rows.length ≤ 100
  wok : ∀ p ∈ ms, ∃ t, look mods p.1 = some t ∧ FitT t ∧ ∀ ws ∈ rowsOf t, WOk (scOf ms) ws
  exne : ∀ z zs, look (scOf ms).ex z = some zs → zs ≠ []
  rin : ∀ q ∈ ms, ∀ pc ∈ q.2.ps, (pc.kind = "func" ∨ pc.kind = "data") ∧ pc.rows.length ≤ 100 ∧ ∀ r ∈ pc.rows, RowIn r
/-- what a made program is -/
structure PrFin (p : Pr) (z : Str) : Prop where
  ent : findEntry p.ms p.s z = some p.entry
  srt : sortedS p.pieces = true
  perm : p.pieces.Perm (keys p.s.pc)
  few : p.pieces.length ≤ 12
  res : ∀ f ∈ p.pieces, ∃ k rs, look p.kinds f = some k ∧ look p.rows f = some rs ∧ (k = "func" ∨ k = "data") ∧ rs.length ≤ 100 ∧ ∀ r ∈ rs, RowOk k r
  tsrt : sortedS p.taken = true
  tnd : p.taken.Nodup
  tmem : ∀ x, x ∈ p.taken ↔ x ∈ p.names
  nfew : p.names.length < 64
  tfew : p.taken.length ≤ 6
def RowsR (H : Hp) (rs : List MR) (v : V) : Prop := ∃ t ts, v = .ref t ∧ H t = some (.tup ts) ∧ Paired (RowAt H) rs ts
theorem RowsR.mono {CP : Addr} {H H' : Hp} (f : Fix CP H H') {rs : List MR} {v : V} (h : RowsR H rs v) : RowsR H' rs v := by
  obtain ⟨t, ts, h1, h2, h3⟩ := h
  exact ⟨t, ts, h1, f.1 _ _ h2, pair_mono (fun _ _ h => h.mono f) h3⟩
def KinR (H : Hp) (d : Addr) (l : List (Str × Str)) : Prop := ∃ kvs, Rd H d (.dK kvs) ∧ DR kS (fun k v => v = .str k) l kvs
def RosR (H : Hp) (d : Addr) (l : List (Str × List MR)) : Prop := ∃ kvs, Rd H d (.dK kvs) ∧ DR kS (RowsR H) l kvs
theorem KinR.mono {H H' : Hp} {d : Addr} {l : List (Str × Str)} (k : Ke H H') (h : KinR H d l) : KinR H' d l := let ⟨kvs, h1, h2⟩ := h; ⟨kvs, k.dk _ _ h1, h2⟩
theorem RosR.mono {H H' : Hp} {d : Addr} {l : List (Str × List MR)} (k : Ke H H') (h : RosR H d l) : RosR H' d l := let ⟨kvs, h1, h2⟩ := h; ⟨kvs, k.dk _ _ h1, h2.mono fun _ _ h => h.mono (CP := 0) k.fix⟩
def pflds6 (a b c d e f : V) : List (Str × V) := [("_scope", a), ("entry", b), ("pieces", c), ("_kinds", d), ("_rows", e), ("taken", f)]
def ProgAt (CPr CS CM CP : Addr) (H : Hp) (x : Addr) (p : Pr) : Prop := ∃ dx sc dp tp dk dr tt, H x = some (.ins CPr dx (pflds6 (.ref sc) (.str p.entry) (.ref tp) (.ref dk) (.ref dr) (.ref tt))) ∧ ScAt CS CM CP H sc dp p.ms p.s ∧
  H tp = some (.tup (p.pieces.map V.str)) ∧ KinR H dk p.kinds ∧ RosR H dr p.rows ∧ H tt = some (.tup (p.taken.map V.str))
theorem ProgAt.mono {CPr CS CM CP : Addr} {H H' : Hp} {x : Addr} {p : Pr} (k : Ke H H') (h : ProgAt CPr CS CM CP H x p) : ProgAt CPr CS CM CP H' x p := by
  obtain ⟨dx, sc, dp, tp, dk, dr, tt, h1, h2, h3, h4, h5, h6⟩ := h
  exact ⟨dx, sc, dp, tp, dk, dr, tt, k.ins _ _ _ _ h1, h2.mono k, k.tup _ _ h3, h4.mono k, h5.mono k, k.tup _ _ h6⟩
/-! ### what stands while the new program's own attributes come -/
theorem ScAt.offI {CPr CS CM CP x dx0 : Addr} {fs0 : List (Str × V)} {H H' : Hp} (o : Off x H H') (hx : H x = some (.ins CPr dx0 fs0)) (n1 : CS ≠ CPr) (n2 : CM ≠ CPr) (n3 : CP ≠ CPr) {a dp : Addr} {ms : MS} {s : Sc} (h : ScAt CS CM CP H a dp ms s) : ScAt CS CM CP H' a dp ms s := by
  obtain ⟨dx, da, de, dc, h1, ⟨k1, p1, p2⟩, ⟨k2, p3, p4⟩, ⟨k3, p5, p6⟩, ⟨k4, p7, p8⟩⟩ := h
  have ne : ∀ {q : Addr} {ob : HO}, H q = some ob → (∀ fs, ob ≠ .ins CPr dx0 fs) → H' q = some ob := fun {q ob} e n => o _ _ (ne_of e hx (n _)) e
  have rk : ∀ {q : Addr} {kvs : List (Key × V)}, Rd H q (.dK kvs) → Rd H' q (.dK kvs) := fun {q kvs} h => h.elim (fun h => .inl (ne h (fun _ z => nomatch z))) fun ⟨ob, h⟩ => .inr ⟨ob, ne h (fun _ z => nomatch z)⟩
  have rt : ∀ {q : Addr} {kvs : List (List Key × V)}, Rd H q (.dT kvs) → Rd H' q (.dT kvs) := fun {q kvs} h => h.elim (fun h => .inl (ne h (fun _ z => nomatch z))) fun ⟨ob, h⟩ => .inr ⟨ob, ne h (fun _ z => nomatch z)⟩
  have f : Fix CP H H' := ⟨fun q xs e => ne e (fun _ z => nomatch z), fun q dx fs e => ne e (fun _ z => n3 (by cases z; rfl))⟩
  exact ⟨dx, da, de, dc, ne h1 (fun _ z => n1 (by cases z; rfl)), ⟨k1, rk p1, p2.mono fun _ _ h => h.off o hx n3 n2⟩, ⟨k2, rt p3, p4⟩, ⟨k3, rk p5, p6.mono fun _ _ ⟨l, x1, x2⟩ => ⟨l, x1, ne x2 (fun _ z => nomatch z)⟩⟩, ⟨k4, rk p7, p8.mono fun _ _ h => h.mono f⟩⟩
theorem fl_take {α β : Type} (f : α → List β) {xs : List α} {i : Nat} {x : α} (h : xs[i]? = some x) : ((xs.take (i + 1)).map f).flatten = ((xs.take i).map f).flatten ++ f x := by
  rw [List.take_add_one, h, List.map_append, List.flatten_append]
  congr 1
  show f x ++ [] = f x
  rw [List.append_nil]
theorem fl_le {α β : Type} (f : α → List β) (xs : List α) (i : Nat) : ((xs.take i).map f).flatten.length ≤ (xs.map f).flatten.length := by
  have : (xs.map f).flatten = ((xs.take i).map f).flatten ++ ((xs.drop i).map f).flatten := by
    rw [← List.flatten_append, ← List.map_append, List.take_append_drop]
  rw [this, List.length_append]
  exact Nat.le_add_right _ _
end PG

set_option Elab.async false
set_option linter.all false
set_option maxRecDepth 100000
set_option maxHeartbeats 8000000
/-! Program.__init__. -/
namespace PG
open PySem PySem.Spec PyProof.Rows L2 L2.FK FS TX
structure TPr (K : PySem.W.Frag) (mg : Str → Option Value) (CPr CS CM CP : Addr) (fSI : Addr) : Prop where
  cPr : Cls K CPr
  nSc : NoAttr K CPr "_scope"
  nEn : NoAttr K CPr "entry"
  nPi : NoAttr K CPr "pieces"
  nKi : NoAttr K CPr "_kinds"
  nRo : NoAttr K CPr "_rows"
  nTa : NoAttr K CPr "taken"
  n1 : CS ≠ CPr
  n2 : CM ≠ CPr
  n3 : CP ≠ CPr
  mkS : Mk K CS fSI
  gS : mg "Scope" = some (.ref CS)
  g12 : ∃ t, mg "MOST_PIECES_programs" = some (.int 12 t)
  g6 : ∃ t, mg "MOST_TAKEN" = some (.int 6 t)
  zs : mg "sorted" = none
  zset : mg "set" = none
  zt : mg "tuple" = none
  zl : mg "len" = none
section
variable {P : Program} {w : World} {K : PySem.W.Frag} {mg : Str → Option Value} {base : Heap} {aO aR dF CD CP CM CB CS aK CBM fBM CBN fBN CPr fSI : Addr} {es : Array DictEntry} {nF : Nat} {tF : Str → Addr}
def spProg (CPr CS CM CP CBM CBN : Addr) : Sp := fun vs H Q E => ∃ x dx dt mods ms z, vs = [.ref x, .ref dt, .str z] ∧ z.length ≤ 1000 ∧ H x = some (.ins CPr dx []) ∧ H dt = some (.dK (txK mods)) ∧ PrIn mods ms ∧
  (∀ m i, badMod ms (scOf ms) mods ms = some (m, i) → ∀ d H', Off x H H' → H' d = some (.xd [("row", .int (i : Nat)), ("module", .str m)]) → E (.ref CBM) (some d) H') ∧
  (badMod ms (scOf ms) mods ms = none → (∀ y r, look (scOf ms).ex z = some (y :: r) → (meaning ms (scOf ms) y z).isSome = true) ∧
    (findEntry ms (scOf ms) z = none → ∀ d H', Off x H H' → H' d = some (.xd [("value", .str z)]) → E (.ref CBN) (some d) H') ∧
    ∀ e, findEntry ms (scOf ms) z = some e → ∃ p : Pr, p.ms = ms ∧ p.entry = e ∧ PrFin p z ∧ ∀ H', Off x H H' → ProgAt CPr CS CM CP H' x p → Q .non H')
theorem scPr : FnScope ["self", "modules", "entry", "scope", "module", "piece", "full", "row", "names", "name"] ["self", "modules", "entry"] (defScope (sProg 0)) := ⟨rfl, rfl, rfl, by decide +kernel, rfl, by decide +kernel, by decide +kernel⟩
theorem nodup_perm {α : Type} [DecidableEq α] : ∀ {l m : List α}, l.Nodup → m.Nodup → (∀ x, x ∈ l ↔ x ∈ m) → l.Perm m
  | [], m, _, _, h => by
    cases m with
    | nil => exact .nil
    | cons y r => exact absurd ((h y).mpr (List.mem_cons_self ..)) (by simp)
  | x :: l, m, n1, n2, h => by
    have n1' := List.nodup_cons.mp n1
    have hx : x ∈ m := (h x).mp (List.mem_cons_self ..)
    have ih := nodup_perm (l := l) (m := m.erase x) n1'.2 (n2.erase x) fun y => by
      constructor
      · intro hy
        exact (List.mem_erase_of_ne (fun e => n1'.1 (by rw [← e]; exact hy))).mpr ((h y).mp (List.mem_cons_of_mem _ hy))
      · intro hy
        have ne : y ≠ x := fun e => by
          rw [e] at hy
          exact n2.not_mem_erase hy
        have := (h y).mpr (List.mem_of_mem_erase hy)
        rcases List.mem_cons.mp this with e | e
        · exact absurd e ne
        · exact e
    exact (List.Perm.cons x ih).trans (List.perm_cons_erase hx).symm
theorem dr_keys {κ κ' β : Type} {ke : κ → κ'} {R : β → V → Prop} {l : List (κ × β)} {kvs : List (κ' × V)} (h : DR ke R l kvs) : kvs.map (·.1) = (keys l).map ke := by
  unfold DR at h
  unfold keys
  induction h with
  | nil => rfl
  | cons h _ ih => rw [List.map_cons, List.map_cons, List.map_cons, ih, h.1]
theorem ok_prog {f fSI fPm fCk fEn fFu fTk fIt : Addr} {fd fdSI fdPm fdCk fdEn fdFu fdTk fdIt : FuncData} (F : FunD K "__init__" "Program.__init__" (defArgs (sProg 0)) (defBody (sProg 0)) (defScope (sProg 0)) [V.str "main"] [] f fd) (T : TPr K mg CPr CS CM CP fSI) (TC' : TC K CD CP) (S : TS K CS CP CM)
    (GSI : FnOk P w K mg base CX0 2 fSI fdSI ["self", "modules"] (spScI CS CM CP)) (bSI : Binds K fdSI ["self", "modules"] [])
    (GPm : FnOk P w K mg base CX0 8 fPm fdPm ["modules"] (spMods CM CP)) (bPm : Binds K fdPm ["modules"] []) (gPm : mg "parse_modules" = some (.ref fPm)) (kPm : PySem.W.keepIn K (.ref fPm) = true)
    (GCk : FnOk P w K mg base (L2.CX P w) 6 fCk fdCk ["scope", "texts"] (spCheck CS CM CP CBM)) (bCk : Binds K fdCk ["scope", "texts"] []) (gCk : mg "check_modules" = some (.ref fCk)) (kCk : PySem.W.keepIn K (.ref fCk) = true)
    (GEn : FnOk P w K mg base (L2.CX P w) 4 fEn fdEn ["scope", "entry"] (spEntry CS CM CP CBN K)) (bEn : Binds K fdEn ["scope", "entry"] []) (gEn : mg "find_entry" = some (.ref fEn)) (kEn : PySem.W.keepIn K (.ref fEn) = true)
    (GFu : FnOk P w K mg base CX0 4 fFu fdFu ["self", "module", "row"] (spFull CS CM CP)) (bFu : Binds K fdFu ["self", "module", "row"] []) (mFu : Meth K CS "full_row" fFu)
    (GTk : FnOk P w K mg base CX0 1 fTk fdTk ["kind", "rows"] (spTaken K)) (bTk : Binds K fdTk ["kind", "rows"] []) (gTk : mg "taken_names" = some (.ref fTk)) (kTk : PySem.W.keepIn K (.ref fTk) = true)
    (GIt : FnN P w K mg base 1 fIt fdIt ["self"] (spIt K CM "pieces")) (bIt : Binds K fdIt ["self"] []) (mIt : Meth K CM "__iter__" fIt) :
    FnOk P w K mg base (L2.CX P w) 9 f fd ["self", "modules", "entry"] (spProg CPr CS CM CP CBM CBN) := by
  refine F.ok (CX := L2.CX P w) scPr (fun vs H Q E h => ?_) (fun cdv A outer sh H vs Q E hr h => ?_)
  · obtain ⟨x, dx, dt, mods, ms, z, rfl, _⟩ := h
    rfl
  · obtain ⟨x, dx, dt, mods, ms, z, rfl, hz, hx, hdt, ok, qb, qn⟩ := h
    have hu := hu_of hr
    have hr1 : Room 1 _ := hr.mono (by decide)
    have hr3 : Room 3 _ := hr.mono (by decide)
    have hr4 : Room 4 _ := hr.mono (by decide)
    have hr6 : Room 6 _ := hr.mono (by decide)
    obtain ⟨t12, g12⟩ := T.g12
    obtain ⟨t6, g6⟩ := T.g6
    refine ⟨_, pss_cons (ps_set (i := 3) scPr.nd rfl (.inr rfl) (pe_make T.mkS GSI hr3 rfl T.gS bSI .nil pass0 (pa_cons (pe_call GPm hr rfl gPm kPm bPm .nil pass0 (pa_cons (pv 1) pa_nil)) pa_nil)))
      (pss_cons (ps_expr (pe_call GCk hr6 rfl gCk kCk bCk .nil (passes_call (takes_of rfl rfl rfl rfl) (fun _ _ _ _ h => h)) (pa_cons (pv 3) (pa_cons (pv 1) pa_nil))))
      (pss_cons (ps_fld (pv 0) (pv 3) rfl)
      (pss_cons (ps_fld (pv 0) (pe_call GEn hr4 rfl gEn kEn bEn .nil (passes_call (takes_of rfl rfl rfl rfl) (fun _ _ _ _ h => h)) (pa_cons (pv 3) (pa_cons (pv 2) pa_nil))) rfl)
      (pss_cons (ps_fld (pv 0) (pe_callTy call_tupleS (by rfl) T.zt boot_tuple (pa_cons (pe_callB (call_sortedD rfl) (by rfl) T.zs (by decide +kernel) (pa_cons (pe_fld (pv 3) rfl) pa_nil)) pa_nil)) rfl)
      (pss_cons (ps_if (pt_cmpR op_gt (pe_callB call_len_seq (by rfl) T.zl PySem.boot_len (pa_cons (pe_fld (pv 0) rfl) pa_nil)) (pe_glob rfl g12 (v := .int 12) ⟨_, rfl⟩) (nomark _)) (pss_one ps_never) pss_nil)
      (pss_cons (ps_fld (pv 0) pe_dictS rfl)
      (pss_cons (ps_fld (pv 0) pe_dictS rfl)
      (pss_cons (ps_lock (ps_for (passes_of rfl) rfl (pi_keys (pe_fld (pv 3) rfl)) (pg_name (i := 4) scPr.nd rfl (.inr rfl))
        (pss_one (ps_for (passes_of rfl) rfl (pi_own (pe_dget hu (pe_fld (pv 3) rfl) (pv 4) (fun _ _ => rfl)) mIt.at_ mIt.fn GIt bIt hr1 pass0) (pg_name (i := 5) scPr.nd rfl (.inl rfl))
          (pss_cons (ps_set (i := 6) scPr.nd rfl (.inl rfl) (pe_op op_add_str (pe_op op_add_str (pv 4) pe_str) (pe_fld (pv 5) rfl)))
          (pss_cons (ps_dput hu (pe_fld (pv 0) rfl) (pv 6) (pe_fld (pv 5) rfl) rfl)
          (pss_one (ps_dput hu (pe_fld (pv 0) rfl) (pv 6) (pe_callTy call_tupleS (by rfl) T.zt boot_tuple (pa_cons (pe_lc (own := [("row", 7)]) (g := gName 7) (tt := tYes) rfl scPr.nd (pi_tup (pe_fld (pv 5) rfl)) (blkOk_by (N := ["self", "modules", "entry", "scope", "module", "piece", "full", "row", "names", "name"]) (sc := defScope (sProg 0)) (by decide +kernel))
              (fun _ _ _ _ _ => pg_name (i := 7) scPr.nd rfl (Or.inl rfl)) (fun _ _ _ _ _ => pts_nil) (fun _ _ _ _ _ => pe_meth (pv 3) S.cS mFu GFu hr4 bFu .nil pass0 (pa_cons (pv 4) (pa_cons (pv 7) pa_nil)))) pa_nil)) rfl))))))))
      (pss_cons (ps_setLc2 (i := 8) (own := [("full", 6), ("name", 9)]) (vs1 := [9]) (g := gName 6) (g1 := gName 9) (tt := tYes) (tt1 := tYes) (wi1 := iList K _) rfl scPr.nd rfl rfl (sw_true rfl rfl rfl (by decide +kernel)) (pi_tup (pe_fld (pv 0) rfl)) (blkOk_by (N := ["self", "modules", "entry", "scope", "module", "piece", "full", "row", "names", "name"]) (sc := defScope (sProg 0)) (by decide +kernel)) (by decide)
          (fun _ _ _ _ _ => pg_name (i := 6) scPr.nd rfl (Or.inl rfl)) (fun _ _ _ _ _ => pts_nil)
          (fun _ _ _ _ _ => pi_list (pe_call GTk hr1 rfl gTk kTk bTk .nil pass0 (pa_cons (pe_dget (td := tFld K (tVar 0) "_kinds") (ty := tVar 6) (by exact hu) (pe_fld (pv 0) rfl) (pv 6) (fun _ _ => rfl)) (pa_cons (pe_dget (td := tFld K (tVar 0) "_rows") (ty := tVar 6) (by exact hu) (pe_fld (pv 0) rfl) (pv 6) (fun _ _ => rfl)) pa_nil))))
          (fun _ _ _ _ _ => pg_name (i := 9) scPr.nd rfl (Or.inl rfl)) (fun _ _ _ _ _ => pts_nil) (fun _ _ _ _ _ => pv 9))
      (pss_cons (ps_fld (pv 0) (pe_callTy call_tupleS (by rfl) T.zt boot_tuple (pa_cons (pe_sortSet rfl (by rfl) T.zs (by rfl) T.zset (pv 8)) pa_nil)) rfl)
      (pss_one (ps_if (pt_cmpR op_gt (pe_callB call_len_seq (by rfl) T.zl PySem.boot_len (pa_cons (pe_fld (pv 0) rfl) pa_nil)) (pe_glob rfl g6 (v := .int 6) ⟨_, rfl⟩) (nomark _)) (pss_one ps_never) pss_nil)))))))))))), ?_⟩
    -- the modules, the scope
    refine ⟨.ref dt, rfl, dt, mods, ms, rfl, hdt, ok.mok, fun H1 dp s1 n1 ⟨kvs, hd1, hdr1⟩ => ?_⟩
    refine fun a dxs na ndxs nes => ?_
    have S1 : Same H1 (upd (upd H1 dxs (.own a)) a (.ins CS dxs [])) := fun b o e => by rw [upd_ne (ne_of_none e na), upd_ne (ne_of_none e ndxs)]; exact e
    have a1 : upd (upd H1 dxs (.own a)) a (.ins CS dxs []) a = some (.ins CS dxs []) := upd_same
    have hdr1' : DR kS (ModR CM CP (upd (upd H1 dxs (.own a)) a (.ins CS dxs []))) ms kvs := hdr1.mono fun _ _ h => h.mono (Ke.of S1)
    refine ⟨a, dxs, dp, kvs, ms, rfl, a1, S1 _ _ hd1, hdr1', ok.mok.nd2, ok.sm, fun H2 off2 scat2 => ⟨rfl, ?_⟩⟩
    have S12 : Same H1 H2 := fun b o e => off2 b o (ne_of_none e na) (S1 _ _ e)
    have S2 : Same H H2 := s1.trans S12
    have hd2 := S12 _ _ hd1
    have hdr2 : DR kS (ModR CM CP H2) ms kvs := hdr1'.mono fun _ _ h => h.off off2 a1 S.neP S.neM
    have ndt : dt ≠ dp := ne_of_none hdt n1
    have hrl : ∀ z q, look (scOf ms).pc z = some q → q.rows.length ≤ 900 := fun z q e => Nat.le_trans (ok.rl z q e) (by decide)
    refine ⟨.ref a, rfl, .ref dt, rfl, a, dp, ms, scOf ms, dt, mods, kvs, rfl, scat2, ok.sok, hd2, hdr2, S2 _ _ hdt, ndt, hrl, ok.wok, fun hb H3 s3 => ?_, fun m i hb d H' od e => ?_⟩
    rotate_left
    · exact qb m i hb d H' (fun b o _ eb => od b o (ne_of_none eb n1) (S2 _ _ eb)) e
    obtain ⟨hme, qe, qf⟩ := qn hb
    have S3 : Same H H3 := S2.trans s3
    have hx3 := S3 _ _ hx
    refine ⟨.ref a, rfl, .ref x, rfl, x, CPr, dx, [], rfl, hx3, T.cPr, T.nSc, (by show 0 < 1000; decide), ?_⟩
    generalize hH4 : upd H3 x (.ins CPr dx (putF "_scope" (.ref a) [])) = H4
    have hx4 : H4 x = some (.ins CPr dx [("_scope", .ref a)]) := by rw [← hH4]; exact upd_same
    have o4 : Off x H3 H4 := fun b o nb e => by rw [← hH4, upd_ne nb]; exact e
    have scat4 : ScAt CS CM CP H4 a dp ms (scOf ms) := (scat2.mono (Ke.of s3)).offI o4 hx3 T.n1 T.n2 T.n3
    refine ⟨.ref a, rfl, .str z, rfl, a, dp, ms, scOf ms, z, rfl, hz, scat4, ok.sok, hme, ok.exne z, fun e he H5 s5 => ?_, fun hn d H' s' e' => ?_⟩
    rotate_left
    · exact qe hn d H' (fun b o nb eb => s' _ _ (o4 b o nb (S3 _ _ eb))) e'
    obtain ⟨p, rfl, rfl, fin, q⟩ := qf e he
    have hx5 := s5 _ _ hx4
    have scat5 := scat4.mono (Ke.of s5)
    refine ⟨.ref x, rfl, x, CPr, dx, _, rfl, hx5, T.cPr, T.nEn, (by show 1 < 1000; decide), ?_⟩
    generalize hH6 : upd H5 x (.ins CPr dx (putF "entry" (.str p.entry) [("_scope", .ref a)])) = H6
    have hx6 : H6 x = some (.ins CPr dx [("_scope", .ref a), ("entry", .str p.entry)]) := by rw [← hH6]; exact upd_same
    have o6 : Off x H5 H6 := fun b o nb e => by rw [← hH6, upd_ne nb]; exact e
    have scat6 : ScAt CS CM CP H6 a dp p.ms p.s := scat5.offI o6 hx5 T.n1 T.n2 T.n3
    have scat6' := scat6
    obtain ⟨dxa, da, de, dc, f1, f2, f3, f4, ⟨kvc, f5, f6⟩⟩ := scat6'
    refine ⟨.ref a, rfl, a, CS, dxa, _, .ref dc, rfl, f1, S.cS, S.nPie, rfl, dc, kvc, keys p.s.pc, rfl, f5, dr_keys f6, ?_, fun ys p1 perm sor np1 => ?_⟩
    · have := fin.perm.length_eq
      have := fin.few
      omega
    have eys : ys = p.pieces := _root_.MP.sort_unique (perm.trans fin.perm.symm) sor fin.srt
    subst eys
    have s6p : Same H6 (upd H6 p1 (.lst (p.pieces.map V.str))) := same_new np1
    refine ⟨p1, _, rfl, SqL.of upd_same, fun tp H7 s7 n7 e7 => ?_⟩
    have s67 := s6p.trans s7
    have hx7 := s67 _ _ hx6
    refine ⟨.ref x, rfl, x, CPr, dx, _, rfl, hx7, T.cPr, T.nPi, (by show 2 < 1000; decide), ?_⟩
    generalize hG : upd H7 x (.ins CPr dx (putF "pieces" (.ref tp) [("_scope", .ref a), ("entry", .str p.entry)])) = G
    have hxG : G x = some (.ins CPr dx [("_scope", .ref a), ("entry", .str p.entry), ("pieces", .ref tp)]) := by rw [← hG]; exact upd_same
    have oG : Off x H7 G := fun b o nb e => by rw [← hG, upd_ne nb]; exact e
    have scatG : ScAt CS CM CP G a dp p.ms p.s := (scat6.mono (Ke.of s67)).offI oG hx7 T.n1 T.n2 T.n3
    have tpG : G tp = some (.tup (p.pieces.map V.str)) := oG _ _ (ne_of e7 hx7 (by intro z; cases z)) e7
    have HG : Off x H G := fun b o nb e => oG b o nb (s67 _ _ (o6 b o nb (s5 _ _ (o4 b o nb (S3 _ _ e)))))
    have nxdp : dp ≠ x := (ne_of_none hx n1).symm
    have hdG : G dp = some (.dK kvs) := oG _ _ nxdp (s67 _ _ (o6 _ _ nxdp (s5 _ _ (o4 _ _ nxdp (s3 _ _ hd2)))))
    have hdrG : DR kS (ModR CM CP G) p.ms kvs := by
      obtain ⟨_, _, _, _, _, ⟨k1, r1, r2⟩, _⟩ := scatG
      rcases r1 with r1 | ⟨o, r1⟩
      · rw [hdG] at r1
        cases r1
        exact r2
      · rw [hdG] at r1
        cases r1
    clear hH4 hH6 hG
    refine ⟨.ref x, rfl, x, CPr, dx, _, .ref tp, rfl, hxG, T.cPr, T.nPi, rfl, tp, _, rfl, .inr (SqT.of tpG), _, _, rfl, rfl, _, rfl, ?_⟩
    rw [List.length_map, decide_eq_false (by have := fin.few; omega)]
    refine iteF ?_
    -- the two dicts
    refine fun dk H9 s9 n9 e9 => ?_
    have hx9 := s9 _ _ hxG
    refine ⟨.ref x, rfl, x, CPr, dx, _, rfl, hx9, T.cPr, T.nKi, (by show 3 < 1000; decide), ?_⟩
    generalize hH10 : upd H9 x (.ins CPr dx (putF "_kinds" (.ref dk) [("_scope", .ref a), ("entry", .str p.entry), ("pieces", .ref tp)])) = H10
    have hx10 : H10 x = some (.ins CPr dx [("_scope", .ref a), ("entry", .str p.entry), ("pieces", .ref tp), ("_kinds", .ref dk)]) := by rw [← hH10]; exact upd_same
    have nkx : dk ≠ x := (ne_of_none hxG n9).symm
    have ek10 : H10 dk = some (.dK []) := by rw [← hH10, upd_ne nkx]; exact e9
    have o10 : Off x G H10 := fun b o nb e => by rw [← hH10, upd_ne nb]; exact s9 _ _ e
    clear hH10
    refine fun dr H11 s11 n11 e11 => ?_
    have hx11 := s11 _ _ hx10
    refine ⟨.ref x, rfl, x, CPr, dx, _, rfl, hx11, T.cPr, T.nRo, (by show 4 < 1000; decide), ?_⟩
    generalize hH12 : upd H11 x (.ins CPr dx (putF "_rows" (.ref dr) [("_scope", .ref a), ("entry", .str p.entry), ("pieces", .ref tp), ("_kinds", .ref dk)])) = H12
    have hx12 : H12 x = some (.ins CPr dx [("_scope", .ref a), ("entry", .str p.entry), ("pieces", .ref tp), ("_kinds", .ref dk), ("_rows", .ref dr)]) := by rw [← hH12]; exact upd_same
    have nrx : dr ≠ x := (ne_of_none hx10 n11).symm
    have nkr : dk ≠ dr := ne_of_none ek10 n11
    have er12 : H12 dr = some (.dK []) := by rw [← hH12, upd_ne nrx]; exact e11
    have ek12 : H12 dk = some (.dK []) := by rw [← hH12, upd_ne nkx]; exact s11 _ _ ek10
    have o12 : Off x G H12 := fun b o nb e => by rw [← hH12, upd_ne nb]; exact s11 _ _ (o10 b o nb e)
    have gk : G dk = none := n9
    have gr : G dr = none := by
      cases e : G dr with
      | none => rfl
      | some o => rw [o10 _ _ nrx e] at n11; cases n11
    clear hH12
    have hd12 := o12 _ _ nxdp hdG
    refine ⟨dp, .dK kvs, hd12, trivial, fun od => ?_⟩
    have nkd : dk ≠ dp := (ne_of_none hdG gk).symm
    have nrd : dr ≠ dp := (ne_of_none hdG gr).symm
    generalize hL : upd G dp (.frz od (.dK kvs)) = L
    have kL : Ke G L := by rw [← hL]; exact Ke.lock hdG
    have hxL : L x = some (.ins CPr dx [("_scope", .ref a), ("entry", .str p.entry), ("pieces", .ref tp)]) := by rw [← hL, upd_ne nxdp.symm]; exact hxG
    have eL : L dp = some (.frz od (.dK kvs)) := by rw [← hL]; exact upd_same
    have scatL := scatG.mono kL
    have hdrL : DR kS (ModR CM CP L) p.ms kvs := hdrG.mono fun _ _ h => h.mono kL
    have lk : L dk = none := by rw [← hL, upd_ne nkd]; exact gk
    have lr : L dr = none := by rw [← hL, upd_ne nrd]; exact gr
    have oL : Off x L (upd H12 dp (.frz od (.dK kvs))) := fun b o nb e => by
      rw [← hL] at e
      by_cases hb : b = dp
      · subst hb
        rw [upd_same] at e ⊢
        exact e
      · rw [upd_ne hb] at e ⊢
        exact o12 b o nb e
    have fixL : ∀ {H' : Hp}, Off x L H' → Fix CP L H' := fun {H'} o => ⟨fun q xs e => o _ _ (ne_of e hxL (by intro z; cases z)) e, fun q dx' fs e => o _ _ (ne_of e hxL (by intro z; cases z; exact T.n3 rfl)) e⟩
    have scatOf : ∀ {H' : Hp}, Off x L H' → ScAt CS CM CP H' a dp p.ms p.s := fun {H'} o => scatL.offI o hxL T.n1 T.n2 T.n3
    have scatL' := scatL
    obtain ⟨dxa, da, de, dc, aL, _⟩ := scatL'
    have nax : a ≠ x := ne_of aL hxL (by intro z; cases z)
    have aOf : ∀ {H' : Hp}, Off x L H' → H' a = some (.ins CS dxa (sflds (.ref dp) (.ref da) (.ref de) (.ref dc))) := fun {H'} o => o _ _ nax aL
    have hlen : kvs.length = p.ms.length := hdrG.len.symm
    have htot := ok.sm.tot
    refine ⟨.ref a, rfl, a, CS, dxa, _, .ref dp, rfl, aOf oL, S.cS, S.nPar, rfl, dp, od, rfl, .inl ⟨kvs, upd_same, ?_⟩⟩
    have sok := ok.sok
    refine for_it walk_keys (fun i σ H' => ∃ v4 v5 v6, σ = [some (.ref x), some (.ref dt), some (.str z), some (.ref a), v4, v5, v6, none, none, none] ∧ Off x L H' ∧ H' x = some (.ins CPr dx [("_scope", .ref a), ("entry", .str p.entry), ("pieces", .ref tp), ("_kinds", .ref dk), ("_rows", .ref dr)]) ∧
        ∃ kvk kvr, H' dk = some (.dK kvk) ∧ DR kS (fun k v => v = .str k) (kindsOf (p.ms.take i)) kvk ∧ H' dr = some (.dK kvr) ∧ DR kS (RowsR H') (rowsOfM p.ms p.s (p.ms.take i)) kvr ∧ (keys (kindsOf (p.ms.take i))).Nodup ∧ (keys (rowsOfM p.ms p.s (p.ms.take i))).Nodup ∧ (kindsOf (p.ms.take i)).length ≤ tot (p.ms.take i) ∧ (rowsOfM p.ms p.s (p.ms.take i)).length ≤ tot (p.ms.take i))
      ⟨none, none, none, rfl, oL, by rw [upd_ne nxdp.symm]; exact hx12, [], [], by rw [upd_ne nkd]; exact ek12, .nil, by rw [upd_ne nrd]; exact er12, .nil, .nil, .nil, Nat.zero_le _, Nat.zero_le _⟩
      (fun i σ H' _ ⟨_, _, _, _, o, _⟩ => o _ _ nxdp eL) (fun i y0 σ H13 H13' hi ⟨v4, v5, v6, hσ, o13, hx13, kvk, kvr, ek, hk, er, hrw, nd1, nd2, l1, l2⟩ ⟨eH, key, v0, hk0, ex⟩ => ?_) (fun σ H13 ⟨v4, v5, v6, hσ, o13, hx13, kvk, kvr, ek, hk, er, hrw, _⟩ => ?_)
    · subst eH hσ
      obtain ⟨⟨m, st⟩, hp1, hp2, hp3⟩ := dr_at hdrG hk0
      have hp2 : key = kS m := hp2
      subst hp2
      subst ex
      have hmem := List.mem_of_getElem? hp1
      have hmk : m ∈ keys p.ms := List.mem_map.mpr ⟨_, hmem, rfl⟩
      obtain ⟨v1, hv1, hv2⟩ := hdrL.get kS_in (look_at ok.mok.nd2 hmem)
      obtain ⟨m0, dxm, tp0, te, ta, nd, pvs, avs, kvn, rfl, i1, i2, i3, _⟩ := hv2
      have m0x : m0 ≠ x := ne_of i1 hxL (by intro z; cases z)
      have ht1 := tot_take p.ms hp1
      have ht2 := tot_le p.ms (i + 1)
      rw [ht1] at ht2
      dsimp only at ht1 ht2
      have tupL : ∀ {H' : Hp} {q : Addr} {xs : List V}, Off x L H' → L q = some (.tup xs) → H' q = some (.tup xs) := fun {H' q xs} o e => (fixL o).1 _ _ e
      refine ⟨.ref a, rfl, a, CS, dxa, _, .ref dp, rfl, aOf o13, S.cS, S.nPar, rfl, .str m, rfl, dp, .ref m0, rfl, .inl ⟨kvs, kS m, .inr ⟨od, o13 _ _ nxdp eL⟩, rfl, hv1.symm⟩, ?_⟩
      refine ⟨m0, dxm, _, tp0, pvs, rfl, o13 _ _ m0x i1, rfl, SqT.of (tupL o13 i2), ?_⟩
      have lpv : pvs.length = st.ps.length := i3.length.symm
      have eK : kindsOf (p.ms.take (i + 1)) = st.ps.foldl (kIn m) (kindsOf (p.ms.take i)) := by
        unfold kindsOf
        rw [fold_take _ _ hp1]
      have eR : rowsOfM p.ms p.s (p.ms.take (i + 1)) = st.ps.foldl (rIn p.ms p.s m) (rowsOfM p.ms p.s (p.ms.take i)) := by
        unfold rowsOfM
        rw [fold_take _ _ hp1]
      refine for_tup (xs := pvs) (fun j σ H' => ∃ v5 v6, σ = [some (.ref x), some (.ref dt), some (.str z), some (.ref a), some (.str m), v5, v6, none, none, none] ∧ Off x L H' ∧ H' x = some (.ins CPr dx [("_scope", .ref a), ("entry", .str p.entry), ("pieces", .ref tp), ("_kinds", .ref dk), ("_rows", .ref dr)]) ∧
          ∃ kvk kvr, H' dk = some (.dK kvk) ∧ DR kS (fun k v => v = .str k) ((st.ps.take j).foldl (kIn m) (kindsOf (p.ms.take i))) kvk ∧ H' dr = some (.dK kvr) ∧ DR kS (RowsR H') ((st.ps.take j).foldl (rIn p.ms p.s m) (rowsOfM p.ms p.s (p.ms.take i))) kvr ∧
            (keys ((st.ps.take j).foldl (kIn m) (kindsOf (p.ms.take i)))).Nodup ∧ (keys ((st.ps.take j).foldl (rIn p.ms p.s m) (rowsOfM p.ms p.s (p.ms.take i)))).Nodup ∧ ((st.ps.take j).foldl (kIn m) (kindsOf (p.ms.take i))).length ≤ tot (p.ms.take i) + j ∧ ((st.ps.take j).foldl (rIn p.ms p.s m) (rowsOfM p.ms p.s (p.ms.take i))).length ≤ tot (p.ms.take i) + j)
        ⟨v5, v6, rfl, o13, hx13, kvk, kvr, ek, hk, er, hrw, nd1, nd2, l1, l2⟩ (fun j σ H' _ ⟨_, _, _, o, _⟩ => SqT.of (tupL o i2)) (fun j y σ H14 hy ⟨v5, v6, hσ, o14, hx14, kvk, kvr, ek, hk, er, hrw, nd1, nd2, l1, l2⟩ => ?_) (fun σ H14 ⟨v5, v6, hσ, o14, hx14, kvk, kvr, ek, hk, er, hrw, nd1, nd2, l1, l2⟩ => ?_)
      · subst hσ
        obtain ⟨pc, hpc1, qp, dxp, tr, vr, rfl, j1, j2, j3⟩ := pair_get i3 hy
        have hjl : j < st.ps.length := (List.getElem?_eq_some_iff.mp hpc1).1
        have hpm := List.mem_of_getElem? hpc1
        obtain ⟨c1, c2, c3⟩ := ok.rin _ hmem pc hpm
        obtain ⟨n1', n2'⟩ := ok.sm.nm _ hmem
        have n3' := n2' pc hpm
        dsimp only at n1'
        have qpx : qp ≠ x := ne_of j1 hxL (by intro z; cases z)
        have one : (Str.ofString ".").length = 1 := by decide
        have e14 := o14 _ _ qpx j1
        refine ⟨.str m, rfl, _, _, rfl, rfl, ?_, .ref qp, rfl, qp, CP, dxp, _, .str pc.name, rfl, e14, TC'.cP, TC'.pName, rfl, _, _, rfl, rfl, ?_, ?_⟩
        · rw [sizeLine_eq]; omega
        · rw [strLen_append, sizeLine_eq]; omega
        refine ⟨.ref qp, rfl, qp, CP, dxp, _, .str pc.kind, rfl, e14, TC'.cP, TC'.pKind, rfl, .ref x, rfl, x, CPr, dx, _, .ref dk, rfl, hx14, T.cPr, T.nKi, rfl, .str (full m pc.name), rfl, dk, _, rfl, DPut.k (k := kS (full m pc.name)) ek ?_, ?_⟩
        · rw [← hk.len]
          exact small1000 (by omega)
        generalize hA : upd H14 dk (.dK (putK kvk (kS (full m pc.name)) (.str pc.kind))) = HA
        have fA : Fix CP H14 HA := by rw [← hA]; exact Fix.dK ek
        have oA : Off x L HA := fun b o nb e => by rw [← hA, upd_ne (ne_of_none e lk)]; exact o14 b o nb e
        have hxA : HA x = some (.ins CPr dx [("_scope", .ref a), ("entry", .str p.entry), ("pieces", .ref tp), ("_kinds", .ref dk), ("_rows", .ref dr)]) := by rw [← hA, upd_ne nkx.symm]; exact hx14
        have ekA : HA dk = some (.dK (putK kvk (kS (full m pc.name)) (.str pc.kind))) := by rw [← hA]; exact upd_same
        have erA : HA dr = some (.dK kvr) := by rw [← hA, upd_ne nkr.symm]; exact er
        clear hA
        have eA := oA _ _ qpx j1
        have trA := tupL oA j2
        refine ⟨.ref qp, rfl, qp, CP, dxp, _, .ref tr, rfl, eA, TC'.cP, TC'.pRows, rfl, tr, rfl, ⟨_, SqT.of trA⟩, fun D hD => ?_⟩
        have lvr : vr.length = pc.rows.length := j3.length.symm
        refine lc_tup (xs := vr) (fun k H' => Same HA H' ∧ ∃ acc, H' D = some (.lst acc) ∧ Paired (RowAt H') ((pc.rows.take k).map (fullRow p.ms p.s m)) acc) ⟨same_new hD, [], upd_same, .nil⟩ (fun _ _ _ h => SqT.of (h.1 _ _ trA)) (fun k yv HB hyv ⟨sB, acc, eD, pacc⟩ => ?_) (fun HB ⟨sB, acc, eD, pacc⟩ => ?_)
        · obtain ⟨r, hr1, hr2⟩ := pair_get j3 hyv
          have oB : Off x L HB := fun b o nb e => sB _ _ (oA b o nb e)
          have scB := scatOf oB
          have scB' := scB
          obtain ⟨dxB, daB, deB, dcB, aB, _⟩ := scB'
          have hkl : k < pc.rows.length := (List.getElem?_eq_some_iff.mp hr1).1
          refine ⟨rfl, .ref a, rfl, a, dxB, _, rfl, aB, rfl, .str m, rfl, yv, rfl, a, dp, p.ms, p.s, m, r, yv, rfl, scB, ok.sok, hmk, hr2.mono (fixL oB), c3 r (List.mem_of_getElem? hr1), fun HC v' sC hv => ⟨acc, sC _ _ eD, ?_, fun b o eb => ?_, acc ++ [v'], upd_same, ?_⟩⟩
          · rw [← pacc.length, List.length_map, List.length_take]
            exact small1000 (by omega)
          · rw [upd_ne (ne_of_none eb hD)]
            exact sC _ _ (sB _ _ eb)
          · have fD : Fix CP HC (upd HC D (.lst (acc ++ [v']))) := Fix.lst (sC _ _ eD)
            rw [List.take_add_one, hr1, List.map_append]
            exact pair_snoc (pair_mono (fun _ _ h => (h.mono (CP := CP) (Fix.of sC)).mono fD) pacc) (hv.mono fD)
        · rw [lvr, List.take_length] at pacc
          refine ⟨D, acc, rfl, SqL.of eD, fun t HC sC nC eC => ?_⟩
          have s2 := sB.trans sC
          refine ⟨.ref x, rfl, x, CPr, dx, _, .ref dr, rfl, s2 _ _ hxA, T.cPr, T.nRo, rfl, .str (full m pc.name), rfl, dr, _, rfl, DPut.k (k := kS (full m pc.name)) (s2 _ _ erA) ?_, ?_⟩
          · rw [← hrw.len]
            exact small1000 (by omega)
          have fC : Fix CP HC (upd HC dr (.dK (putK kvr (kS (full m pc.name)) (.ref t)))) := Fix.dK (s2 _ _ erA)
          have fAC : Fix CP H14 (upd HC dr (.dK (putK kvr (kS (full m pc.name)) (.ref t)))) := (fA.trans (Fix.of s2)).trans fC
          refine ⟨_, _, rfl, fun b o nb e => ?_, ?_, putK kvk (kS (full m pc.name)) (.str pc.kind), putK kvr (kS (full m pc.name)) (.ref t), ?_, ?_, upd_same, ?_, ?_, ?_, ?_, ?_⟩
          · rw [upd_ne (ne_of_none e lr)]
            exact s2 _ _ (oA b o nb e)
          · rw [upd_ne nrx.symm]
            exact s2 _ _ hxA
          · rw [upd_ne nkr]
            exact s2 _ _ ekA
          · rw [fold_take _ _ hpc1]
            exact hk.put kS_in nd1 rfl
          · rw [fold_take _ _ hpc1]
            exact (hrw.mono fun _ _ h => h.mono fAC).put kS_in nd2 ⟨t, acc, rfl, fC.1 _ _ eC, pair_mono (fun _ _ h => (h.mono (CP := CP) (Fix.of sC)).mono fC) pacc⟩
          · rw [fold_take _ _ hpc1]
            exact put_nodup nd1
          · rw [fold_take _ _ hpc1]
            exact put_nodup nd2
          · rw [fold_take _ _ hpc1]
            exact Nat.le_trans (put_len (l := (st.ps.take j).foldl (kIn m) (kindsOf (p.ms.take i)))) (by omega)
          · rw [fold_take _ _ hpc1]
            exact Nat.le_trans (put_len (l := (st.ps.take j).foldl (rIn p.ms p.s m) (rowsOfM p.ms p.s (p.ms.take i)))) (by omega)
      · subst hσ
        rw [lpv, List.take_length] at hk hrw nd1 nd2 l1 l2
        refine ⟨_, _, _, rfl, o14, hx14, kvk, kvr, ek, by rw [eK]; exact hk, er, by rw [eR]; exact hrw, by rw [eK]; exact nd1, by rw [eR]; exact nd2, ?_, ?_⟩
        · rw [eK, ht1]
          omega
        · rw [eR, ht1]
          omega
    -- the names that are taken
    subst hσ
    rw [hlen, List.take_length] at hk hrw
    have f13 := o13 _ _ nxdp eL
    refine ⟨f13, ?_⟩
    generalize hH14 : upd H13 dp (.dK kvs) = H14
    have nf : ∀ {b : Addr} {o : HO}, H13 b = some o → (∀ od u, o ≠ .frz od u) → H14 b = some o := fun {b o} e n => by
      rw [← hH14, upd_ne (ne_of e f13 (n _ _))]
      exact e
    have o14 : Off x G H14 := fun b o nb e => by
      by_cases hb : b = dp
      · subst hb
        rw [hdG] at e
        rw [← hH14, upd_same]
        exact e
      · rw [← hH14, upd_ne hb]
        exact o13 b o nb (by rw [← hL, upd_ne hb]; exact e)
    have hx14 := nf hx13 (fun _ _ z => nomatch z)
    have ek14 := nf ek (fun _ _ z => nomatch z)
    have er14 := nf er (fun _ _ z => nomatch z)
    have fx14 : Fix CP H13 H14 := ⟨fun q xs e => nf e (fun _ _ z => nomatch z), fun q dx fs e => nf e (fun _ _ z => nomatch z)⟩
    have hrw14 : DR kS (RowsR H14) p.rows kvr := hrw.mono fun _ _ h => h.mono fx14
    have hk14 : DR kS (fun k v => v = .str k) p.kinds kvk := hk
    clear hH14
    have tp14 : H14 tp = some (.tup (p.pieces.map V.str)) := o14 _ _ (ne_of tpG hxG (by intro z; cases z)) tpG
    refine ⟨.ref x, rfl, x, CPr, dx, _, .ref tp, rfl, hx14, T.cPr, T.nPi, rfl, tp, rfl, ⟨_, SqT.of tp14⟩, fun D hD => ?_⟩
    have nmf := fin.nfew
    have lp12 := fin.few
    have lN : ∀ j, ((p.pieces.take j).map fun f => takenOf (p.kind f) (p.row f)).flatten.length ≤ p.names.length := fun j => fl_le (fun f => takenOf (p.kind f) (p.row f)) p.pieces j
    refine ⟨fun j n H' => n = p.pieces.length - j ∧ j ≤ p.pieces.length ∧ Same H14 H' ∧ H' D = some (.lst ((((p.pieces.take j).map fun f => takenOf (p.kind f) (p.row f)).flatten).map V.str)), ⟨_, rfl, Nat.zero_le _, same_new hD, upd_same⟩, ?_⟩
    rintro j n H15 ⟨rfl, hj, s15, eD⟩
    have tp15 := s15 _ _ tp14
    by_cases hlt : j < p.pieces.length
    · have hpj : p.pieces[j]? = some (p.pieces[j]'hlt) := List.getElem?_eq_getElem hlt
      generalize hf : p.pieces[j]'hlt = f at hpj
      obtain ⟨k, rs, z1, z2, z3, z4, z5⟩ := fin.res f (List.mem_of_getElem? hpj)
      have ek1 : p.kind f = k := by unfold Pr.kind; rw [z1]; rfl
      have er1 : p.row f = rs := by unfold Pr.row; rw [z2]; rfl
      have fl := fl_take (fun f => takenOf (p.kind f) (p.row f)) hpj
      rw [ek1, er1] at fl
      have lN1 := lN (j + 1)
      rw [fl, List.length_append] at lN1
      refine .inr ⟨⟨_, V.str f, SqT.of tp15, by rw [List.getElem?_map, hpj]; rfl⟩, fun H' => Same H14 H' ∧ H' D = some (.lst ((((p.pieces.take (j + 1)).map fun f => takenOf (p.kind f) (p.row f)).flatten).map V.str)), fun H' h' => ⟨p.pieces.length - (j + 1), by omega, rfl, hlt, h'⟩, fun y H16 hy => ?_⟩
      obtain ⟨rfl, hy16⟩ := hy
      have hyf := hy16 _ (SqT.of tp15)
      rw [List.getElem?_map, hpj] at hyf
      cases hyf
      obtain ⟨kv, u1, u2⟩ := hk14.get kS_in z1
      subst u2
      obtain ⟨rv, u3, t, ts, rfl, u4, u5⟩ := hrw14.get kS_in z2
      have hx15 := s15 _ _ hx14
      refine ⟨rfl, .ref x, rfl, x, CPr, dx, _, .ref dk, rfl, hx15, T.cPr, T.nKi, rfl, .str f, rfl, dk, .str k, rfl, .inl ⟨kvk, kS f, .inl (s15 _ _ ek14), rfl, u1.symm⟩, .ref x, rfl, x, CPr, dx, _, .ref dr, rfl, hx15, T.cPr, T.nRo, rfl, .str f, rfl, dr, .ref t, rfl, .inl ⟨kvr, kS f, .inl (s15 _ _ er14), rfl, u3.symm⟩, ?_⟩
      refine ⟨k, t, ts, rs, rfl, z3, s15 _ _ u4, pair_mono (fun _ _ h => h.mono (CP := CP) (Fix.of s15)) u5, z5, z4, fun H17 l s17 n17 e17 => ⟨l, rfl, ⟨_, SqL.of e17⟩, ?_⟩⟩
      have lD : l ≠ D := fun z => by rw [z, eD] at n17; cases n17
      refine ⟨fun i n H' => n = (takenOf k rs).length - i ∧ i ≤ (takenOf k rs).length ∧ Same H14 H' ∧ H' l = some (.lst ((takenOf k rs).map V.str)) ∧ H' D = some (.lst (((((p.pieces.take j).map fun f => takenOf (p.kind f) (p.row f)).flatten) ++ (takenOf k rs).take i).map V.str)), ⟨_, rfl, Nat.zero_le _, s15.trans s17, e17, by rw [List.take_zero, List.append_nil]; exact s17 _ _ eD⟩, ?_⟩
      rintro i n H18 ⟨rfl, hi, s18, e18, eD18⟩
      by_cases hi2 : i < (takenOf k rs).length
      · have hti : (takenOf k rs)[i]? = some ((takenOf k rs)[i]'hi2) := List.getElem?_eq_getElem hi2
        refine .inr ⟨⟨_, V.str ((takenOf k rs)[i]'hi2), SqL.of e18, by rw [List.getElem?_map, hti]; rfl⟩, fun H' => Same H14 H' ∧ H' l = some (.lst ((takenOf k rs).map V.str)) ∧ H' D = some (.lst (((((p.pieces.take j).map fun f => takenOf (p.kind f) (p.row f)).flatten) ++ (takenOf k rs).take (i + 1)).map V.str)), fun H' h' => ⟨(takenOf k rs).length - (i + 1), by omega, rfl, hi2, h'⟩, fun y H19 hy => ?_⟩
        obtain ⟨rfl, hy19⟩ := hy
        have hyi := hy19 _ (SqL.of e18)
        rw [List.getElem?_map, hti] at hyi
        cases hyi
        refine ⟨rfl, _, rfl, _, eD18, ?_, fun b o eb => ?_, ?_, ?_⟩
        · rw [List.length_map, List.length_append, List.length_take]
          exact small1000 (by omega)
        · rw [upd_ne (ne_of_none eb hD)]
          exact s18 _ _ eb
        · rw [upd_ne lD]
          exact e18
        · rw [upd_same, List.take_add_one, hti, ← List.append_assoc, List.map_append (l₂ := (some _).toList)]
          rfl
      · have ei : i = (takenOf k rs).length := by omega
        subst ei
        rw [List.take_length] at eD18
        refine .inl ⟨⟨_, SqL.of e18, by rw [List.length_map]; exact Nat.le_refl _⟩, s18, ?_⟩
        rw [fl]
        exact eD18
    · have ej : j = p.pieces.length := by omega
      subst ej
      rw [List.take_length] at eD
      refine .inl ⟨⟨_, SqT.of tp15, by rw [List.length_map]; exact Nat.le_refl _⟩, ?_⟩
      have hx15 := s15 _ _ hx14
      refine ⟨.ref D, rfl, D, p.names, rfl, SqL.of eD, nmf, fun pl H16 ys s16 n16 e16 hsrt hnd hmem _ => ?_⟩
      have eys : ys = p.taken := _root_.MP.sort_unique (nodup_perm hnd fin.tnd fun y => (hmem y).trans (fin.tmem y).symm) hsrt fin.tsrt
      subst eys
      refine ⟨pl, _, rfl, SqL.of e16, fun tt H17 s17 n17 e17 => ?_⟩
      have s1417 := (s15.trans s16).trans s17
      have hx17 := s1417 _ _ hx14
      refine ⟨.ref x, rfl, x, CPr, dx, _, rfl, hx17, T.cPr, T.nTa, (by show 5 < 1000; decide), ?_⟩
      generalize hE : upd H17 x (.ins CPr dx (putF "taken" (.ref tt) [("_scope", .ref a), ("entry", .str p.entry), ("pieces", .ref tp), ("_kinds", .ref dk), ("_rows", .ref dr)])) = HE
      have hxE : HE x = some (.ins CPr dx (pflds6 (.ref a) (.str p.entry) (.ref tp) (.ref dk) (.ref dr) (.ref tt))) := by rw [← hE]; exact upd_same
      have oE : Off x H17 HE := fun b o nb e => by rw [← hE, upd_ne nb]; exact e
      clear hE
      have ttE : HE tt = some (.tup (p.taken.map V.str)) := oE _ _ (ne_of e17 hx17 (by intro z; cases z)) e17
      refine ⟨.ref x, rfl, x, CPr, dx, _, .ref tt, rfl, hxE, T.cPr, T.nTa, rfl, tt, _, rfl, .inr (SqT.of ttE), _, _, rfl, rfl, _, rfl, ?_⟩
      rw [List.length_map, decide_eq_false (by have := fin.tfew; omega)]
      refine iteF ?_
      have oGE : Off x G HE := fun b o nb e => oE b o nb (s1417 _ _ (o14 b o nb e))
      have fE : Fix CP H14 HE := (Fix.of s1417).trans ⟨fun q xs e => oE _ _ (ne_of e hx17 (by intro z; cases z)) e, fun q dx' fs e => oE _ _ (ne_of e hx17 (by intro z; cases z; exact T.n3 rfl)) e⟩
      refine q HE (fun b o nb e => oGE b o nb (HG b o nb e)) ⟨dx, a, dp, tp, dk, dr, tt, hxE, scatG.offI oGE hxG T.n1 T.n2 T.n3, oGE _ _ (ne_of tpG hxG (by intro z; cases z)) tpG, ⟨kvk, .inl (oE _ _ nkx (s1417 _ _ ek14)), hk14⟩, ⟨kvr, .inl (oE _ _ nrx (s1417 _ _ er14)), hrw14.mono fun _ _ h => h.mono fE⟩, ttE⟩
end
end PG

set_option Elab.async false
set_option linter.all false
set_option maxRecDepth 100000
set_option maxHeartbeats 4000000
/-! A program asked. -/
namespace PG
open PySem PySem.Spec PyProof.Rows L2 L2.FK FS TX
def pMean (p : Pr) (m z : Str) : Option Str := if isName z && (keys p.ms).contains m then meaning p.ms p.s m z else none
section
variable {P : Program} {w : World} {K : PySem.W.Frag} {mg : Str → Option Value} {base : Heap} {aO aR dF CD CP CM CB CS aK CBM fBM CBN fBN CPr fSI : Addr} {es : Array DictEntry} {nF : Nat} {tF : Str → Addr}
def spPCon (CPr CS CM CP : Addr) : Sp := fun vs H Q _ => ∃ x p z, vs = [.ref x, .str z] ∧ ProgAt CPr CS CM CP H x p ∧ Q (.bl (look p.kinds z).isSome) H
theorem scPC : FnScope ["self", "name"] ["self", "name"] (defScope (sProg 7)) := ⟨rfl, rfl, rfl, by decide +kernel, rfl, by decide +kernel, by decide +kernel⟩
theorem ok_pcon {f : Addr} {fd : FuncData} (F : Fun K "__contains__" "Program.__contains__" (sProg 7) f fd) (TT' : TT K w mg aO aR dF es nF tF) (T : TPr K mg CPr CS CM CP fSI) : FnOk P w K mg base CX0 1 f fd ["self", "name"] (spPCon CPr CS CM CP) := by
  refine F.ok scPC (fun vs H Q E h => ?_) (fun cdv A outer s H vs Q E hr h => ?_)
  · obtain ⟨x, p, z, rfl, _⟩ := h
    rfl
  · obtain ⟨x, p, z, rfl, ⟨dx, sc, dp, tp, dk, dr, tt, h1, h2, h3, ⟨kvk, h4, h5⟩, h6, h7⟩, q⟩ := h
    have hu := hu_of hr
    refine ⟨_, pss_one (ps_ret (pe_and (pe_callB call_isi (by rfl) TT'.zi b_isi (pa_cons (pv 1) (pa_cons (pe_bltn rfl TT'.zs b_str (v := .ty "str") rfl) pa_nil))) (pe_one (pe_cmp (pc_din hu (pv 1) (pe_fld (pv 0) rfl)) rfl)))), ?_⟩
    refine ⟨.str z, rfl, .str z, .ty "str", .type "str", .type "str", true, rfl, .ty "str", .base (.str z), kit_ty (by decide +kernel), true, rfl, iteT ?_⟩
    refine ⟨.str z, rfl, .ref x, rfl, x, CPr, dx, _, .ref dk, rfl, h1, T.cPr, T.nKi, rfl, dk, valV kvk (kS z), rfl, .inl ⟨kvk, kS z, h4, rfl, rfl⟩, ?_⟩
    rw [h5.isSome kS_in]
    exact q
def spRows (CPr CS CM CP : Addr) : Sp := fun vs H Q _ => ∃ x p z rs, vs = [.ref x, .str z] ∧ ProgAt CPr CS CM CP H x p ∧ (look p.kinds z).isSome = true ∧ look p.rows z = some rs ∧ ∀ v, RowsR H rs v → Q v H
theorem scRo : FnScope ["self", "name"] ["self", "name"] (defScope (sProg 2)) := ⟨rfl, rfl, rfl, by decide +kernel, rfl, by decide +kernel, by decide +kernel⟩
theorem ok_prows {f fC : Addr} {fd fdC : FuncData} (F : Fun K "rows_of" "Program.rows_of" (sProg 2) f fd) (T : TPr K mg CPr CS CM CP fSI) (GC : FnOk P w K mg base CX0 1 fC fdC ["self", "name"] (spPCon CPr CS CM CP)) (bC : Binds K fdC ["self", "name"] []) (mC : Meth K CPr "__contains__" fC) :
    FnOk P w K mg base CX0 2 f fd ["self", "name"] (spRows CPr CS CM CP) := by
  refine F.ok scRo (fun vs H Q E h => ?_) (fun cdv A outer s H vs Q E hr h => ?_)
  · obtain ⟨x, p, z, rs, rfl, _⟩ := h
    rfl
  · obtain ⟨x, p, z, rs, rfl, hp, hk, hrs, q⟩ := h
    have hu := hu_of hr
    refine ⟨_, pss_cons (ps_if (pt_cmpR (op_notIn_own mC.at_ mC.fn GC bC hr pass0) (pv 1) (pv 0) (by rfl)) (pss_one ps_never) pss_nil) (pss_one (ps_ret (pe_dget hu (pe_fld (pv 0) rfl) (pv 1) (fun _ _ => rfl)))), ?_⟩
    have hp0 := hp
    obtain ⟨dx, sc, dp, tp, dk, dr, tt, h1, h2, h3, h4, ⟨kvr, h5, h6⟩, h7⟩ := hp
    refine ⟨.str z, rfl, .ref x, rfl, x, dx, _, rfl, h1, x, p, z, rfl, hp0, _, rfl, _, rfl, ?_⟩
    rw [hk]
    refine iteF ?_
    obtain ⟨v, u1, u2⟩ := h6.get kS_in hrs
    exact ⟨.ref x, rfl, x, CPr, dx, _, .ref dr, rfl, h1, T.cPr, T.nRo, rfl, .str z, rfl, dr, v, rfl, .inl ⟨kvr, kS z, h5, rfl, u1.symm⟩, q v u2⟩
def spPMean (CPr CS CM CP : Addr) : Sp := fun vs H Q _ => ∃ x p m z, vs = [.ref x, .str m, .str z] ∧ ProgAt CPr CS CM CP H x p ∧ ScOk p.ms p.s ∧ z.length ≤ 1000 ∧ ∀ H', Same H H' → Q (optS (pMean p m z)) H'
theorem scPMe : FnScope ["self", "module", "name"] ["self", "module", "name"] (defScope (sProg 5)) := ⟨rfl, rfl, rfl, by decide +kernel, rfl, by decide +kernel, by decide +kernel⟩
theorem ok_pmean {f fN fM : Addr} {fd fdN fdM : FuncData} (F : Fun K "meaning" "Program.meaning" (sProg 5) f fd) (TT' : TT K w mg aO aR dF es nF tF) (T : TPr K mg CPr CS CM CP fSI) (S : TS K CS CP CM)
    (GN : FnOk P w K mg base CX0 1 fN fdN ["value"] (spIsName K)) (bN : Binds K fdN ["value"] []) (gN : mg "is_name" = some (.ref fN)) (kN : PySem.W.keepIn K (.ref fN) = true)
    (GM : FnOk P w K mg base CX0 3 fM fdM ["self", "module", "name"] (spMean CS CM CP)) (bM : Binds K fdM ["self", "module", "name"] []) (mM : Meth K CS "meaning" fM) :
    FnOk P w K mg base CX0 4 f fd ["self", "module", "name"] (spPMean CPr CS CM CP) := by
  refine F.ok scPMe (fun vs H Q E h => ?_) (fun cdv A outer s H vs Q E hr h => ?_)
  · obtain ⟨x, p, m, z, rfl, _⟩ := h
    rfl
  · obtain ⟨x, p, m, z, rfl, hp, sok, hz, q⟩ := h
    have hu := hu_of hr
    have hr1 : Room 1 _ := hr.mono (by decide)
    refine ⟨_, pss_cons (ps_if (PW.pt (pw_or (pt_not (pt_val (pe_call GN hr1 rfl gN kN bN .nil pass0 (pa_cons (pv 2) pa_nil)))) (pw_or (pt_not (pt_val (pe_callB call_isi (by rfl) TT'.zi b_isi (pa_cons (pv 1) (pa_cons (pe_bltn rfl TT'.zs b_str (v := .ty "str") rfl) pa_nil)))))
          (pw_or1 (pt_cmp (pc_dnotin hu (pv 1) (pe_fld (pe_fld (pv 0) rfl) rfl))))))) (pss_one (ps_ret pe_non)) pss_nil)
      (pss_one (ps_ret (pe_meth (pe_fld (pv 0) rfl) S.cS mM GM hr bM .nil pass0 (pa_cons (pv 1) (pa_cons (pv 2) pa_nil))))), ?_⟩
    have hq : ∀ (H' : Hp) (o : Option Str), Same H H' → pMean p m z = o → Q (optS o) H' := fun H' o s e => by rw [← e]; exact q H' s
    refine ⟨.str z, rfl, .str z, rfl, .inl ⟨z, rfl, (by rw [sizeLine_eq]; omega), fun H1 s1 => ⟨_, rfl, ?_⟩⟩⟩
    obtain ⟨dx, sc, dp, tp, dk, dr, tt, h1, h2, h3, h4, h5, h7⟩ := hp.mono (Ke.of s1)
    cases hn : isName z with
    | false =>
      refine iteT (iteT (hq H1 none s1 ?_))
      unfold pMean
      rw [hn]
      rfl
    | true =>
      refine iteF ?_
      refine ⟨.str m, rfl, .str m, .ty "str", .type "str", .type "str", true, rfl, .ty "str", .base (.str m), kit_ty (by decide +kernel), true, rfl, iteF ?_⟩
      have h2' := h2
      obtain ⟨dxa, da, de, dc, g1, ⟨kvp, g2, g3⟩, _⟩ := h2'
      refine ⟨.str m, rfl, .ref x, rfl, x, CPr, dx, _, .ref sc, rfl, h1, T.cPr, T.nSc, rfl, sc, CS, dxa, _, .ref dp, rfl, g1, S.cS, S.nPar, rfl, dp, valV kvp (kS m), rfl, .inl ⟨kvp, kS m, g2, rfl, rfl⟩, _, rfl, ?_⟩
      rw [g3.isSome kS_in]
      by_cases hm : m ∈ keys p.ms
      · rw [look_mem.mpr hm]
        refine iteF ?_
        refine ⟨.ref x, rfl, x, CPr, dx, _, .ref sc, rfl, h1, T.cPr, T.nSc, rfl, sc, dxa, _, rfl, g1, rfl, .str m, rfl, .str z, rfl, sc, dp, p.ms, p.s, m, z, rfl, h2, sok, hm, hz, fun H2 s2 => hq H2 _ (s1.trans s2) ?_⟩
        unfold pMean
        rw [hn, show (keys p.ms).contains m = true from List.contains_iff_mem.mpr hm]
        rfl
      · have : (look p.ms m).isSome = false := by
          rw [look_none hm]
          rfl
        rw [this]
        refine iteT (hq H1 none s1 ?_)
        unfold pMean
        rw [hn, show (keys p.ms).contains m = false from by
          rw [← Bool.not_eq_true]
          exact fun h => hm (List.contains_iff_mem.mp h)]
        rfl
end
end PG

set_option Elab.async false
set_option linter.all false
set_option maxRecDepth 100000
set_option maxHeartbeats 4000000
/-! What a text that is read gives: its pieces and rows are as Program asks them. -/
namespace PG
open PySem PySem.Spec PyProof.Rows L2 L2.FK FS TX
structure PcOk (p : MP) : Prop where
  kind : p.kind = "func" ∨ p.kind = "data"
  name : isName p.name = true
  few : p.rows.length ≤ 16
  rows : ∀ r ∈ p.rows, RowOk p.kind r ∧ RowIn r
structure StAll (st : ST) : Prop where
  ps : ∀ p ∈ st.ps, PcOk p
  op : ∀ o, st.op = some o → (o.kind = "func" ∨ o.kind = "data") ∧ isName o.name = true ∧ o.rows.length ≤ 16 ∧ ∀ r ∈ o.rows, RowOk o.kind r ∧ RowIn r
  ex : ∀ z ∈ st.ex, isName z = true
  al : ∀ a ∈ st.al, isName a.1 = true ∧ isName a.2 = true
/-- the words of a row that was taken; ex: what the module exports -/
structure Sh (ws : List Str) (ex : List Str) : Prop where
  few : ws.length ≤ ex.length + 5
  ex : ∀ r, ws = ("export" : Str) :: r → ∀ z ∈ r, z ∈ ex
  al : ∀ r, ws = ("alias" : Str) :: r → ∃ x y, r = [x, y] ∧ isName y = true
  ins : ∀ w r form, ws = w :: r → formOf w = some form → ∃ xs, readIns ws = some xs ∧ RowIn (.ins xs)
  dat : ∀ w r, ws = w :: r → formOf w = none → w ≠ "export" → w ≠ "alias" → w ≠ "func" → w ≠ "data" → w ≠ "end" → (∃ z, readDat ws = .str z ∧ z.length ≤ 1000) ∨ ∃ i, readDat ws = .int i
theorem name_len {z : Str} (h : isName z = true) : z.length ≤ 8 := by
  unfold isName at h
  simp only [Bool.and_eq_true, decide_eq_true_eq] at h
  exact h.1.1.1.1.2
theorem name_form {z : Str} (h : isName z = true) : formOf z = none := by
  unfold isName at h
  simp only [Bool.and_eq_true, Bool.not_eq_true'] at h
  cases q : formOf z with
  | none => rfl
  | some f =>
    have := h.1.1.2
    rw [q] at this
    cases this
theorem forms_small : ∀ p ∈ FORM, p.1.length ≤ 8 ∧ readInt p.1 = none ∧ p.1 ≠ "export" ∧ p.1 ≠ "alias" ∧ p.1 ≠ "func" ∧ p.1 ≠ "data" ∧ p.1 ≠ "end" := by decide +kernel
theorem form_key {w : Str} {form : List Str} (h : formOf w = some form) : w.length ≤ 8 ∧ readInt w = none ∧ w ≠ "export" ∧ w ≠ "alias" ∧ w ≠ "func" ∧ w ≠ "data" ∧ w ≠ "end" := by
  have := forms_small _ (PySem.mem_of_lookup h)
  exact this
theorem regs_small : ∀ z ∈ REGS, z.length ≤ 8 := by decide +kernel
theorem optI_cases (o : Option Int) : optI o = .non ∨ ∃ i, optI o = .int i := by
  cases o with
  | none => exact .inl rfl
  | some i => exact .inr ⟨i, rfl⟩
theorem part_cases (z sort : Str) : readPart z sort = .non ∨ (∃ i, readPart z sort = .int i) ∨ (readPart z sort = .str z ∧ z.length ≤ 8) := by
  unfold readPart
  by_cases h1 : sort = "name"
  · rw [if_pos h1]
    by_cases h2 : isName z = true
    · rw [if_pos h2]
      exact .inr (.inr ⟨rfl, name_len h2⟩)
    · rw [if_neg h2]
      exact .inl rfl
  · rw [if_neg h1]
    by_cases h2 : sort = "reg"
    · rw [if_pos h2]
      by_cases h3 : REGS.contains z = true
      · rw [if_pos h3]
        exact .inr (.inr ⟨rfl, regs_small z (List.contains_iff_mem.mp h3)⟩)
      · rw [if_neg h3]
        exact .inl rfl
    · rw [if_neg h2]
      rcases optI_cases (readInt z) with h | h
      · exact .inl h
      · exact .inr (.inl h)
theorem part_name (z : Str) (h : readPart z "name" ≠ .non) : readPart z "name" = .str z := by
  unfold readPart at h ⊢
  rw [if_pos rfl] at h ⊢
  by_cases h2 : isName z = true
  · rw [if_pos h2]
  · rw [if_neg h2] at h
    exact absurd rfl h
theorem part_int (z : Str) (h : readPart z "integer" ≠ .non) : ∃ i, readPart z "integer" = .int i := by
  unfold readPart at h ⊢
  rw [if_neg (by decide), if_neg (by decide)] at h ⊢
  rcases optI_cases (readInt z) with q | q
  · exact absurd q h
  · exact q
theorem ins_in {ws : List Str} {xs : List V} (h : readIns ws = some xs) : ∃ w rest form, ws = w :: rest ∧ formOf w = some form ∧ InsOk xs ∧ RowIn (.ins xs) ∧ ws.length ≤ 4 := by
  cases ws with
  | nil => cases h
  | cons w rest =>
    cases hf : formOf w with
    | none =>
      rw [readIns_none hf] at h
      cases h
    | some form =>
      rw [readIns_some hf] at h
      by_cases hl : (w :: rest).length ≠ form.length + 1
      · rw [if_pos hl] at h
        cases h
      · rw [if_neg hl] at h
        by_cases ha : (List.zipWith readPart rest form).any (fun v => decide (v = V.non)) = true
        · rw [if_pos ha] at h
          cases h
        · rw [if_neg ha] at h
          cases h
          have hl' : rest.length = form.length := by
            have : (w :: rest).length = form.length + 1 := Classical.not_not.mp hl
            simpa using this
          have zl : (List.zipWith readPart rest form).length = form.length := by rw [List.length_zipWith]; omega
          have nn : ∀ (i : Nat) (v : V), (List.zipWith readPart rest form)[i]? = some v → v ≠ .non := by
            intro i v hv e
            apply ha
            rw [List.any_eq_true]
            exact ⟨v, List.mem_of_getElem? hv, by rw [e]; rfl⟩
          have at' : ∀ (i : Nat) (srt : Str), form[i]? = some srt → ∃ z, (List.zipWith readPart rest form)[i]? = some (readPart z srt) := by
            intro i srt hs
            have hi : i < form.length := (List.getElem?_eq_some_iff.mp hs).1
            refine ⟨rest[i]'(by omega), ?_⟩
            rw [List.getElem?_zipWith, List.getElem?_eq_getElem (show i < rest.length by omega), hs]
          have mem : ∀ v ∈ List.zipWith readPart rest form, ∃ z srt, v = readPart z srt := by
            intro v hv
            obtain ⟨i, hi⟩ := List.getElem?_of_mem hv
            have hif : i < form.length := by rw [← zl]; exact (List.getElem?_eq_some_iff.mp hi).1
            obtain ⟨z, hz⟩ := at' i _ (List.getElem?_eq_getElem hif)
            rw [hi] at hz
            exact ⟨z, _, Option.some.inj hz⟩
          have ok : InsOk (V.str w :: List.zipWith readPart rest form) := by
            refine ⟨w, _, form, rfl, hf, zl, fun i hi => ?_, fun i hi => ?_, fun v hv => ?_⟩
            · obtain ⟨z, hz⟩ := at' i _ hi
              exact ⟨z, by rw [hz, part_name z (nn i _ hz)]⟩
            · obtain ⟨z, hz⟩ := at' i _ hi
              obtain ⟨n, hn⟩ := part_int z (nn i _ hz)
              exact ⟨n, by rw [hz, hn]⟩
            · obtain ⟨z, srt, rfl⟩ := mem v hv
              rcases part_cases z srt with h | ⟨i, h⟩ | ⟨h, _⟩
              · rw [h]; rfl
              · rw [h]; rfl
              · rw [h]; rfl
          refine ⟨w, rest, form, rfl, hf, ok, ⟨ok, fun z hz => ?_⟩, ?_⟩
          · rcases List.mem_cons.mp hz with e | hz
            · cases e
              have := (form_key hf).1
              omega
            · obtain ⟨y, srt, e⟩ := mem _ hz
              rcases part_cases y srt with h | ⟨i, h⟩ | ⟨h, hl2⟩
              · rw [h] at e; cases e
              · rw [h] at e; cases e
              · rw [h] at e
                cases e
                omega
          · have := form3 hf
            rw [List.length_cons]
            omega
theorem dat_in {ws : List Str} (h : readDat ws ≠ .non) : ∃ w, ws = [w] ∧ formOf w = none ∧ ((∃ z, readDat ws = .str z ∧ z.length ≤ 8) ∨ ∃ i, readDat ws = .int i) ∧ w ≠ "export" ∧ w ≠ "alias" := by
  match ws, h with
  | [], h => exact absurd rfl h
  | [w], h =>
    have e : readDat [w] = if isName w = true then V.str w else optI (readInt w) := rfl
    rw [e] at h ⊢
    by_cases hn : isName w = true
    · rw [if_pos hn]
      refine ⟨w, rfl, name_form hn, .inl ⟨w, rfl, name_len hn⟩, ?_, ?_⟩
      · intro q; subst q; revert hn; decide +kernel
      · intro q; subst q; revert hn; decide +kernel
    · rw [if_neg hn] at h ⊢
      rcases optI_cases (readInt w) with q | ⟨i, q⟩
      · exact absurd q h
      · refine ⟨w, rfl, ?_, .inr ⟨i, q⟩, ?_, ?_⟩
        · cases hf : formOf w with
          | none => rfl
          | some f =>
            rw [(form_key hf).2.1] at q
            cases q
        · intro e2; subst e2
          have : readInt "export" = none := by decide +kernel
          rw [this] at q; cases q
        · intro e2; subst e2
          have : readInt "alias" = none := by decide +kernel
          rw [this] at q; cases q
  | _ :: _ :: _, h => exact absurd rfl h
theorem Sh.mono {ws ex ex' : List Str} (h : Sh ws ex) (sub : ∀ z ∈ ex, z ∈ ex') (len : ex.length ≤ ex'.length) : Sh ws ex' :=
  ⟨by have := h.few; omega, fun r e z hz => sub z (h.ex r e z hz), h.al, h.ins, h.dat⟩
theorem sh_plain {w : Str} {rest ex : List Str} (hf : formOf w = none) (n1 : w ≠ "export") (n2 : w ≠ "alias") (hr : w = "func" ∨ w = "data" ∨ w = "end") (hl : (w :: rest).length ≤ 5) : Sh (w :: rest) ex := by
  refine ⟨by omega, fun r e => absurd (List.cons.inj e).1 n1, fun r e => absurd (List.cons.inj e).1 n2, fun w' r form e hf' => ?_, fun w' r e _ _ _ m1 m2 m3 => ?_⟩
  · cases e
    rw [hf] at hf'
    cases hf'
  · cases e
    rcases hr with h | h | h
    · exact absurd h m1
    · exact absurd h m2
    · exact absurd h m3
theorem exports_all : ∀ {ws : List Str} {st st' : ST}, exportsGo ws st = some st' → st'.ps = st.ps ∧ st'.al = st.al ∧ st'.op = st.op ∧ st'.ex = st.ex ++ ws ∧ ∀ z ∈ ws, isName z = true
  | [], st, st', h => by cases h; exact ⟨rfl, rfl, rfl, by simp, fun z hz => nomatch hz⟩
  | z :: r, st, st', h => by
    unfold exportsGo at h
    split at h
    · rename_i hc
      obtain ⟨h1, h2, h3, h4, h5⟩ := exports_all h
      have hn : isName z = true := (Bool.and_eq_true_iff.mp hc).1
      refine ⟨h1, h2, h3, by rw [h4]; show st.ex ++ [z] ++ r = _; rw [List.append_assoc]; rfl, fun y hy => ?_⟩
      rcases List.mem_cons.mp hy with e | hy
      · rw [e]; exact hn
      · exact h5 y hy
    · cases h
theorem takeName_all {z : Str} {st s1 : ST} (h : takeName z st = some s1) : s1.ps = st.ps ∧ s1.al = st.al ∧ s1.op = st.op ∧ s1.ex = st.ex ∧ isName z = true := by
  unfold takeName at h
  split at h
  · rename_i hc
    cases h
    exact ⟨rfl, rfl, rfl, rfl, (Bool.and_eq_true_iff.mp hc).1⟩
  · cases h
/-- one row taken -/
theorem row_all {num : Int} {ws : List Str} {st st' : ST} (h : takeRow num ws st = .ok st') (a : StAll st) : StAll st' ∧ Sh ws st'.ex ∧ (∀ z ∈ st.ex, z ∈ st'.ex) ∧ st.ex.length ≤ st'.ex.length := by
  unfold takeRow at h
  split at h
  · rename_i ho
    split at h
    · rename_i s q
      cases h
      cases ws with
      | nil => cases q
      | cons w1 rest =>
        have q : (if w1 = "export" then takeExports rest st else if w1 = "alias" then takeAlias rest st else if w1 = "func" ∨ w1 = "data" then openPiece num (w1 :: rest) st else none) = some st' := q
        split at q
        · rename_i e1
          unfold takeExports at q
          split at q
          · cases q
          · obtain ⟨h1, h2, h3, h4, h5⟩ := exports_all q
            refine ⟨⟨by rw [h1]; exact a.ps, (fun o e => by rw [h3, ho] at e; cases e), fun z hz => ?_, by rw [h2]; exact a.al⟩, ?_, fun z hz => by rw [h4]; exact List.mem_append_left _ hz, by rw [h4, List.length_append]; omega⟩
            · rw [h4] at hz
              rcases List.mem_append.mp hz with hz | hz
              · exact a.ex z hz
              · exact h5 z hz
            · refine ⟨?_, fun r e z hz => ?_, fun r e => ?_, fun w r form e hf => ?_, fun w r e _ n1 => ?_⟩
              · rw [h4, List.length_append, List.length_cons]; omega
              · cases e
                rw [h4]
                exact List.mem_append_right _ hz
              · rw [e1] at e
                exact absurd (List.cons.inj e).1 (by decide)
              · cases e
                rw [e1, show formOf "export" = none from by decide +kernel] at hf
                cases hf
              · cases e
                exact absurd e1 n1
        · rename_i e1
          split at q
          · rename_i e2
            match rest, q with
            | [x, y], q =>
              have q : (if isName y = true then (takeName x st).map fun s => { s with al := s.al ++ [(x, y)] } else none) = some st' := q
              split at q
              · rename_i hy
                cases q1 : takeName x st with
                | none => rw [q1] at q; cases q
                | some s1 =>
                  rw [q1] at q
                  cases q
                  obtain ⟨h1, h2, h3, h4, h5⟩ := takeName_all q1
                  refine ⟨⟨(by show ∀ p ∈ s1.ps, _; rw [h1]; exact a.ps), (fun o e => by rw [show s1.op = some o from e] at h3; rw [ho] at h3; cases h3), (by show ∀ z ∈ s1.ex, _; rw [h4]; exact a.ex), fun p hp => ?_⟩, ?_, (by show ∀ z ∈ st.ex, z ∈ s1.ex; rw [h4]; exact fun z hz => hz), by show st.ex.length ≤ s1.ex.length; rw [h4]; exact Nat.le_refl _⟩
                  · have hp : p ∈ s1.al ++ [(x, y)] := hp
                    rw [h2] at hp
                    rcases List.mem_append.mp hp with hp | hp
                    · exact a.al p hp
                    · rw [List.mem_singleton.mp hp]
                      exact ⟨h5, hy⟩
                  · refine ⟨by rw [List.length_cons]; simp, fun r e => absurd (List.cons.inj e).1 e1, fun r e => ?_, fun w r form e hf => ?_, fun w r e _ _ n2 => ?_⟩
                    · cases e
                      exact ⟨x, y, rfl, hy⟩
                    · cases e
                      rw [e2, show formOf "alias" = none from by decide +kernel] at hf
                      cases hf
                    · cases e
                      exact absurd e2 n2
              · cases q
          · rename_i e2
            split at q
            · rename_i e3
              match rest, q with
              | [n], q =>
                have q : (if st.ps.length = 12 then none else (takeName n st).map fun s => { s with op := some ⟨w1, n, num + 1, []⟩ }) = some st' := q
                split at q
                · cases q
                · cases q1 : takeName n st with
                  | none => rw [q1] at q; cases q
                  | some s1 =>
                    rw [q1] at q
                    cases q
                    obtain ⟨h1, h2, h3, h4, h5⟩ := takeName_all q1
                    refine ⟨⟨(by show ∀ p ∈ s1.ps, _; rw [h1]; exact a.ps), fun o e => ?_, (by show ∀ z ∈ s1.ex, _; rw [h4]; exact a.ex), by show ∀ z ∈ s1.al, _; rw [h2]; exact a.al⟩, ?_, (by show ∀ z ∈ st.ex, z ∈ s1.ex; rw [h4]; exact fun z hz => hz), by show st.ex.length ≤ s1.ex.length; rw [h4]; exact Nat.le_refl _⟩
                    · have e : some (OP.mk w1 n (num + 1) []) = some o := e
                      cases e
                      exact ⟨e3, h5, by simp, fun r hr => nomatch hr⟩
                    · refine sh_plain ?_ e1 e2 (e3.elim .inl fun h => .inr (.inl h)) (by simp)
                      rcases e3 with e3 | e3
                      · rw [e3]; decide +kernel
                      · rw [e3]; decide +kernel
            · cases q
    · cases h
  · rename_i op ho
    obtain ⟨b1, b2, b3, b4⟩ := a.op op ho
    split at h
    · rename_i ew
      unfold closePiece at h
      split at h
      · cases h
      · cases h
        refine ⟨⟨fun p hp => ?_, (fun o e => nomatch e), a.ex, a.al⟩, ?_, fun z hz => hz, Nat.le_refl _⟩
        · have hp : p ∈ st.ps ++ [⟨op.name, op.kind, op.rows⟩] := hp
          rcases List.mem_append.mp hp with hp | hp
          · exact a.ps p hp
          · rw [List.mem_singleton.mp hp]
            exact ⟨b1, b2, b3, b4⟩
        · rw [ew]
          exact sh_plain (by decide +kernel) (by decide) (by decide) (.inr (.inr rfl)) (by simp)
    · split at h
      · rename_i s q
        cases h
        unfold takeWithin at q
        split at q
        · cases q
        · rename_i r hr
          split at q
          · cases q
          · rename_i h16
            cases q
            refine ⟨⟨a.ps, fun o e => ?_, a.ex, a.al⟩, ?_, fun z hz => hz, Nat.le_refl _⟩
            · have e : some { op with rows := op.rows ++ [r] } = some o := e
              cases e
              refine ⟨b1, b2, ?_, fun y hy => ?_⟩
              · show (op.rows ++ [r]).length ≤ 16
                rw [List.length_append, List.length_singleton]
                omega
              · rcases List.mem_append.mp hy with hy | hy
                · exact b4 y hy
                · have hy : y = r := by simpa using hy
                  subst hy
                  unfold rowOf at hr
                  by_cases hk : op.kind = "func"
                  · rw [if_pos hk] at hr
                    cases q : readIns ws with
                    | none => rw [q] at hr; cases hr
                    | some xs =>
                      rw [q] at hr
                      cases hr
                      obtain ⟨w, rest, form, _, _, k1, k2, _⟩ := ins_in q
                      exact ⟨⟨hk, k1⟩, k2⟩
                  · rw [if_neg hk] at hr
                    have hd : op.kind = "data" := b1.resolve_left hk
                    split at hr
                    · cases hr
                    · rename_i hn
                      cases hr
                      obtain ⟨w, _, _, k, _⟩ := dat_in hn
                      rcases k with ⟨z, k1, k2⟩ | ⟨i, k1⟩
                      · exact ⟨⟨hd, .inl ⟨z, k1⟩⟩, .inl ⟨z, k1, by omega⟩⟩
                      · exact ⟨⟨hd, .inr ⟨i, k1⟩⟩, .inr ⟨i, k1⟩⟩
            · show Sh ws st.ex
              unfold rowOf at hr
              by_cases hk : op.kind = "func"
              · rw [if_pos hk] at hr
                cases q : readIns ws with
                | none => rw [q] at hr; cases hr
                | some xs =>
                  obtain ⟨w, rest, form, rfl, hf, k1, k2, k3⟩ := ins_in q
                  have kk := form_key hf
                  refine ⟨by omega, fun r e => absurd (List.cons.inj e).1 kk.2.2.1, fun r e => absurd (List.cons.inj e).1 kk.2.2.2.1, fun w' r form' e hf' => ⟨xs, q, k2⟩, fun w' r e hf' => ?_⟩
                  cases e
                  rw [hf] at hf'
                  cases hf'
              · rw [if_neg hk] at hr
                split at hr
                · cases hr
                · rename_i hn
                  obtain ⟨w, rfl, hf, k, m1, m2⟩ := dat_in hn
                  refine ⟨by simp, fun r e => absurd (List.cons.inj e).1 m1, fun r e => absurd (List.cons.inj e).1 m2, fun w' r form' e hf' => ?_, fun w' r e _ _ _ _ _ _ => ?_⟩
                  · cases e
                    rw [hf] at hf'
                    cases hf'
                  · rcases k with ⟨z, k1, k2⟩ | ⟨i, k1⟩
                    · exact .inl ⟨z, k1, by omega⟩
                    · exact .inr ⟨i, k1⟩
      · cases h
theorem rows_all : ∀ {rs : List (List Str)} {i : Int} {st st' : ST}, parseRows rs i st = .ok st' → StAll st → StAll st' ∧ (∀ ws ∈ rs, Sh ws st'.ex) ∧ (∀ z ∈ st.ex, z ∈ st'.ex) ∧ st.ex.length ≤ st'.ex.length
  | [], i, st, st', h, a => by
    cases h
    exact ⟨a, (fun ws h => nomatch h), fun z hz => hz, Nat.le_refl _⟩
  | ws :: r, i, st, st', h, a => by
    unfold parseRows at h
    split at h
    · cases h
    · rename_i s2 q
      obtain ⟨a1, b1, c1, d1⟩ := row_all q a
      obtain ⟨a2, b2, c2, d2⟩ := rows_all h a1
      refine ⟨a2, fun x hx => ?_, fun z hz => c2 z (c1 z hz), by omega⟩
      rcases List.mem_cons.mp hx with e | hx
      · rw [e]
        exact b1.mono c2 d2
      · exact b2 x hx
theorem parse_all {t : Str} {st : ST} (h : parseT t = .ok st) : StAll st ∧ ∀ ws ∈ rowsOf t, Sh ws st.ex := by
  unfold parseT at h
  split at h
  · cases h
  · rename_i s q
    split at h
    · cases h
    · cases h
      obtain ⟨a, b, _, _⟩ := rows_all q ⟨(fun p hp => nomatch hp), (fun o e => nomatch e), (fun z hz => nomatch hz), (fun z hz => nomatch hz)⟩
      exact ⟨a, b⟩
end PG

set_option Elab.async false
set_option linter.all false
set_option maxRecDepth 100000
set_option maxHeartbeats 4000000
/-! Modules that are read can be asked by Program. -/
namespace PG
open PySem PySem.Spec PyProof.Rows L2 L2.FK FS TX
theorem fold_inv {α σ : Type} {f : σ → α → σ} {I : σ → Prop} : ∀ {xs : List α} {s : σ}, (∀ s a, a ∈ xs → I s → I (f s a)) → I s → I (xs.foldl f s)
  | [], _, _, h => h
  | x :: r, s, hf, h => fold_inv (xs := r) (fun s a ha => hf s a (List.mem_cons_of_mem _ ha)) (hf s x (List.mem_cons_self ..) h)
theorem fold_reach {α σ : Type} {f : σ → α → σ} {J : σ → Prop} (hk : ∀ s a, J s → J (f s a)) : ∀ {xs : List α} {s : σ} {a : α}, a ∈ xs → (∀ s, J (f s a)) → J (xs.foldl f s)
  | x :: r, s, a, ha, h => by
    rcases List.mem_cons.mp ha with e | ha
    · rw [e] at h
      show J (r.foldl f (f s x))
      exact fold_inv (fun s a _ j => hk s a j) (h s)
    · show J (r.foldl f (f s x))
      exact fold_reach hk ha h
section
variable {κ β : Type} [DecidableEq κ]
theorem mem_put {l : List (κ × β)} {k : κ} {v : β} {p : κ × β} (h : p ∈ put l k v) : p ∈ l ∨ p = (k, v) := by
  induction l with
  | nil =>
    unfold put at h
    exact .inr (List.mem_singleton.mp h)
  | cons q r ih =>
    unfold put at h
    by_cases e : q.1 = k
    · rw [if_pos e] at h
      rcases List.mem_cons.mp h with h | h
      · exact .inr (by rw [h, e])
      · exact .inl (List.mem_cons_of_mem _ h)
    · rw [if_neg e] at h
      rcases List.mem_cons.mp h with h | h
      · exact .inl (by rw [h]; exact List.mem_cons_self ..)
      · rcases ih h with h | h
        · exact .inl (List.mem_cons_of_mem _ h)
        · exact .inr h
end
/-! ### the scope -/
theorem al_mem {ms : MS} {e : (Str × Str) × Str} (h : e ∈ (scOf ms).al) : ∃ m ∈ ms, ∃ x ∈ m.2.al, e = ((m.1, x.1), x.2) := by
  have : ∀ e ∈ (scOf ms).al, ∃ m ∈ ms, ∃ x ∈ m.2.al, e = ((m.1, x.1), x.2) := by
    refine fold_inv (I := fun s : Sc => ∀ e ∈ s.al, ∃ m ∈ ms, ∃ x ∈ m.2.al, e = ((m.1, x.1), x.2)) (fun s m hm h => ?_) (fun e h => nomatch h)
    refine fold_inv (I := fun l : List ((Str × Str) × Str) => ∀ e ∈ l, ∃ m ∈ ms, ∃ x ∈ m.2.al, e = ((m.1, x.1), x.2)) (fun l x hx h e he => ?_) h
    rcases mem_put he with he | he
    · exact h e he
    · exact ⟨m, hm, x, hx, he⟩
  exact this e h
theorem pc_mem {ms : MS} {e : Str × MP} (h : e ∈ (scOf ms).pc) : ∃ m ∈ ms, ∃ p ∈ m.2.ps, e = (full m.1 p.name, p) := by
  have : ∀ e ∈ (scOf ms).pc, ∃ m ∈ ms, ∃ p ∈ m.2.ps, e = (full m.1 p.name, p) := by
    refine fold_inv (I := fun s : Sc => ∀ e ∈ s.pc, ∃ m ∈ ms, ∃ p ∈ m.2.ps, e = (full m.1 p.name, p)) (fun s m hm h => ?_) (fun e h => nomatch h)
    refine fold_inv (I := fun l : List (Str × MP) => ∀ e ∈ l, ∃ m ∈ ms, ∃ p ∈ m.2.ps, e = (full m.1 p.name, p)) (fun l p hp h e he => ?_) h
    rcases mem_put he with he | he
    · exact h e he
    · exact ⟨m, hm, p, hp, he⟩
  exact this e h
theorem ex_mem {ms : MS} {z : Str} {zs : List Str} (h : (z, zs) ∈ (scOf ms).ex) : zs ≠ [] ∧ ∀ o ∈ zs, o ∈ keys ms := by
  have : ∀ e ∈ (scOf ms).ex, e.2 ≠ [] ∧ ∀ o ∈ e.2, o ∈ keys ms := by
    refine fold_inv (I := fun s : Sc => ∀ e ∈ s.ex, e.2 ≠ [] ∧ ∀ o ∈ e.2, o ∈ keys ms) (fun s m hm h => ?_) (fun e h => nomatch h)
    refine fold_inv (I := fun l : List (Str × List Str) => ∀ e ∈ l, e.2 ≠ [] ∧ ∀ o ∈ e.2, o ∈ keys ms) (fun l x hx h e he => ?_) h
    rcases mem_put he with he | he
    · exact h e he
    · rw [he]
      refine ⟨by simp, fun o ho => ?_⟩
      rcases List.mem_append.mp ho with ho | ho
      · cases q : look l x with
        | none => rw [q] at ho; cases ho
        | some zs =>
          rw [q] at ho
          exact (h _ (mem_look q)).2 o ho
      · rw [List.mem_singleton.mp ho]
        exact List.mem_map.mpr ⟨m, hm, rfl⟩
  exact this _ h
theorem al_key {ms : MS} {m : Str × ST} {x : Str × Str} (hm : m ∈ ms) (hx : x ∈ m.2.al) : (m.1, x.1) ∈ keys (scOf ms).al := by
  refine fold_reach (J := fun s : Sc => (m.1, x.1) ∈ keys s.al) (fun s n h => ?_) hm (fun s => ?_)
  · exact fold_inv (I := fun l : List ((Str × Str) × Str) => (m.1, x.1) ∈ keys l) (fun l y _ h => put_mem.mpr (.inl h)) h
  · exact fold_reach (J := fun l : List ((Str × Str) × Str) => (m.1, x.1) ∈ keys l) (fun l y h => put_mem.mpr (.inl h)) hx (fun l => put_mem.mpr (.inr rfl))
theorem pc_key {ms : MS} {m : Str × ST} {p : MP} (hm : m ∈ ms) (hp : p ∈ m.2.ps) : full m.1 p.name ∈ keys (scOf ms).pc := by
  refine fold_reach (J := fun s : Sc => full m.1 p.name ∈ keys s.pc) (fun s n h => ?_) hm (fun s => ?_)
  · exact fold_inv (I := fun l : List (Str × MP) => full m.1 p.name ∈ keys l) (fun l y _ h => put_mem.mpr (.inl h)) h
  · exact fold_reach (J := fun l : List (Str × MP) => full m.1 p.name ∈ keys l) (fun l y h => put_mem.mpr (.inl h)) hp (fun l => put_mem.mpr (.inr rfl))
theorem ex_key {ms : MS} {m : Str × ST} {z : Str} (hm : m ∈ ms) (hz : z ∈ m.2.ex) : z ∈ keys (scOf ms).ex := by
  refine fold_reach (J := fun s : Sc => z ∈ keys s.ex) (fun s n h => ?_) hm (fun s => ?_)
  · exact fold_inv (I := fun l : List (Str × List Str) => z ∈ keys l) (fun l y _ h => put_mem.mpr (.inl h)) h
  · exact fold_reach (J := fun l : List (Str × List Str) => z ∈ keys l) (fun l y h => put_mem.mpr (.inl h)) hz (fun l => put_mem.mpr (.inr rfl))
theorem ex_few (m : Str) : ∀ (xs : List Str) (l : List (Str × List Str)) (c : Nat), (∀ y ys, look l y = some ys → ys.length ≤ c) → ∀ y ys, look (xs.foldl (enterEx m) l) y = some ys → ys.length ≤ c + xs.length
  | [], l, c, h => h
  | x :: r, l, c, h => fun y ys e => by
    have := ex_few m r (enterEx m l x) (c + 1) (few_put h) y ys e
    rw [List.length_cons]
    omega
theorem tot_cons (m : Str × ST) (r : MS) : tot (m :: r) = m.2.al.length + m.2.ex.length + m.2.ps.length + tot r := by
  unfold tot
  rw [List.map_cons, List.sum_cons]
theorem sc_few : ∀ (ns : MS) (s : Sc) (c : Nat), (∀ y ys, look s.ex y = some ys → ys.length ≤ c) → ∀ y ys, look (ns.foldl (fun s m => enter s m.1 m.2) s).ex y = some ys → ys.length ≤ c + tot ns
  | [], s, c, h => h
  | m :: r, s, c, h => fun y ys e => by
    have := sc_few r (enter s m.1 m.2) (c + m.2.ex.length) (ex_few m.1 m.2.ex s.ex c h) y ys e
    rw [tot_cons]
    omega
theorem al_len (m : Str) : ∀ (xs : List (Str × Str)) (l : List ((Str × Str) × Str)), (xs.foldl (enterAl m) l).length ≤ l.length + xs.length
  | [], l => Nat.le_refl _
  | x :: r, l => by
    have h1 := al_len m r (enterAl m l x)
    have h2 : (enterAl m l x).length ≤ l.length + 1 := put_len
    rw [List.length_cons]
    exact Nat.le_trans h1 (by omega)
theorem sc_al : ∀ (ns : MS) (s : Sc), (ns.foldl (fun s m => enter s m.1 m.2) s).al.length ≤ s.al.length + tot ns
  | [], s => Nat.le_add_right _ _
  | m :: r, s => by
    have h1 := sc_al r (enter s m.1 m.2)
    have h2 : (enter s m.1 m.2).al.length ≤ s.al.length + m.2.al.length := al_len m.1 m.2.al s.al
    rw [tot_cons]
    exact Nat.le_trans h1 (by omega)
theorem tot_mem : ∀ {ms : MS} {m : Str × ST}, m ∈ ms → m.2.al.length + m.2.ex.length + m.2.ps.length ≤ tot ms
  | x :: r, m, h => by
    rw [tot_cons]
    rcases List.mem_cons.mp h with e | h
    · rw [e]
      exact Nat.le_add_right _ _
    · exact Nat.le_trans (tot_mem h) (Nat.le_add_left _ _)
theorem mods_all {mods : List (Str × Str)} {ms : MS} (ok : ModsOk mods ms) {q : Str × ST} (h : q ∈ ms) : ∃ t, look mods q.1 = some t ∧ FitT t ∧ parseT t = .ok q.2 ∧ StAll q.2 ∧ ∀ ws ∈ rowsOf t, Sh ws q.2.ex := by
  obtain ⟨t, h1, h2⟩ := ok.read q h
  exact ⟨t, h1, ok.fit _ (mem_look h1), h2, parse_all h2⟩
theorem mods_name {mods : List (Str × Str)} {ms : MS} (ok : ModsOk mods ms) {m : Str} (h : m ∈ keys ms) : isName m = true := by
  have := ok.perm.mem_iff.mp h
  obtain ⟨p, hp, e⟩ := List.mem_map.mp this
  rw [← e]
  exact ok.name p hp
theorem prIn_of {mods : List (Str × Str)} {ms : MS} (ok : ModsOk mods ms) (ht : tot ms ≤ 800) : PrIn mods ms := by
  have nm : ∀ m ∈ keys ms, m.length ≤ 1000 := fun m h => by
    have := name_len (mods_name ok h)
    omega
  refine ⟨ok, ⟨fun z zs e => (ex_mem (mem_look e)).2, fun z zs e => ?_, ?_, fun m st x hm hx => look_mem.mpr (al_key hm hx), fun m st p hm hp => look_mem.mpr (pc_key hm hp), nm, fun p hp => ?_⟩, ⟨by omega, ?_, fun m hm => ⟨nm _ (List.mem_map.mpr ⟨m, hm, rfl⟩), fun p hp => ?_⟩⟩, fun z q e => ?_, fun q hq => ?_, fun z zs e => (ex_mem (mem_look e)).1, fun q hq pc hp => ?_⟩
  · have := sc_few ms sc0 0 (fun y ys e => nomatch e) z zs e
    omega
  · have : (scOf ms).al.length ≤ 0 + tot ms := sc_al ms sc0
    omega
  · obtain ⟨m, hm, x, hx, rfl⟩ := al_mem hp
    obtain ⟨t, _, _, _, a, _⟩ := mods_all ok hm
    have := name_len (a.al x hx).2
    show x.2.length ≤ 1000
    omega
  · have h1 := ok.perm.length_eq
    have h2 := ok.few
    unfold keys at h1
    rw [List.length_map, List.length_map] at h1
    omega
  · obtain ⟨t, _, _, _, a, _⟩ := mods_all ok hm
    have := name_len (a.ps p hp).name
    omega
  · obtain ⟨m, hm, p, hp, e2⟩ := pc_mem (mem_look e)
    cases e2
    obtain ⟨t, _, _, _, a, _⟩ := mods_all ok hm
    exact Nat.le_trans (a.ps _ hp).few (by decide)
  · obtain ⟨t, h1, h2, _, a, b⟩ := mods_all ok hq
    refine ⟨t, h1, h2, fun ws hw => ?_⟩
    have sh := b ws hw
    have hr := h2.rows ws hw
    refine ⟨hr.1, fun z hz => (hr.2 z hz).1, ?_, fun r e z hz => ?_, fun r e => ?_, sh.ins, sh.dat⟩
    · have := sh.few
      have := tot_mem hq
      omega
    · have hz2 := sh.ex r e z hz
      obtain ⟨zs, hzs⟩ := Option.isSome_iff_exists.mp (look_mem.mpr (ex_key hq hz2))
      have ne := (ex_mem (mem_look hzs)).1
      cases zs with
      | nil => exact absurd rfl ne
      | cons y r => exact ⟨y, r, hzs⟩
    · obtain ⟨x, y, e1, e2⟩ := sh.al r e
      exact ⟨x, y, e1, by have := name_len e2; omega⟩
  · obtain ⟨t, _, _, _, a, _⟩ := mods_all ok hq
    have pk := a.ps pc hp
    exact ⟨pk.kind, Nat.le_trans pk.few (by decide), fun r hr => (pk.rows r hr).2⟩
end PG

set_option Elab.async false
set_option linter.all false
set_option maxRecDepth 100000
set_option maxHeartbeats 4000000
/-! Where no row is wrong, the rows with full names are rows. -/
namespace PG
open PySem PySem.Spec PyProof.Rows L2 L2.FK FS TX
/-! ### each row of a piece is that of words -/
structure Src (all : List (List Str)) (st : ST) : Prop where
  ps : ∀ p ∈ st.ps, ∀ r ∈ p.rows, ∃ ws ∈ all, rowOf p.kind ws = some r
  op : ∀ o, st.op = some o → ∀ r ∈ o.rows, ∃ ws ∈ all, rowOf o.kind ws = some r
theorem ex_src {all : List (List Str)} {ws : List Str} {st st' : ST} (h : exportsGo ws st = some st') (s : Src all st) : Src all st' := by
  obtain ⟨h1, h2, h3, _⟩ := exports_all h
  exact ⟨by rw [h1]; exact s.ps, by rw [h3]; exact s.op⟩
theorem row_src {all : List (List Str)} {num : Int} {ws : List Str} {st st' : ST} (h : takeRow num ws st = .ok st') (hw : ws ∈ all) (s : Src all st) : Src all st' := by
  unfold takeRow at h
  split at h
  · rename_i ho
    split at h
    · rename_i s1 q
      cases h
      cases ws with
      | nil => cases q
      | cons w1 rest =>
        have q : (if w1 = "export" then takeExports rest st else if w1 = "alias" then takeAlias rest st else if w1 = "func" ∨ w1 = "data" then openPiece num (w1 :: rest) st else none) = some st' := q
        split at q
        · unfold takeExports at q
          split at q
          · cases q
          · exact ex_src q s
        · split at q
          · match rest, q with
            | [x, y], q =>
              have q : (if isName y = true then (takeName x st).map fun s => { s with al := s.al ++ [(x, y)] } else none) = some st' := q
              split at q
              · cases q1 : takeName x st with
                | none => rw [q1] at q; cases q
                | some s1 =>
                  rw [q1] at q
                  cases q
                  obtain ⟨h1, _, h3, _⟩ := takeName_all q1
                  exact ⟨(by show ∀ p ∈ s1.ps, _; rw [h1]; exact s.ps), (by show ∀ o, s1.op = some o → _; rw [h3]; exact s.op)⟩
              · cases q
          · split at q
            · match rest, q with
              | [n], q =>
                have q : (if st.ps.length = 12 then none else (takeName n st).map fun s => { s with op := some ⟨w1, n, num + 1, []⟩ }) = some st' := q
                split at q
                · cases q
                · cases q1 : takeName n st with
                  | none => rw [q1] at q; cases q
                  | some s1 =>
                    rw [q1] at q
                    cases q
                    obtain ⟨h1, _⟩ := takeName_all q1
                    refine ⟨(by show ∀ p ∈ s1.ps, _; rw [h1]; exact s.ps), fun o e r hr => ?_⟩
                    have e : some (OP.mk w1 n (num + 1) []) = some o := e
                    cases e
                    exact nomatch hr
            · cases q
    · cases h
  · rename_i op ho
    split at h
    · unfold closePiece at h
      split at h
      · cases h
      · cases h
        refine ⟨fun p hp r hr => ?_, (fun o e => nomatch e)⟩
        have hp : p ∈ st.ps ++ [⟨op.name, op.kind, op.rows⟩] := hp
        rcases List.mem_append.mp hp with hp | hp
        · exact s.ps p hp r hr
        · rw [List.mem_singleton.mp hp] at hr ⊢
          exact s.op op ho r hr
    · split at h
      · rename_i s1 q
        cases h
        unfold takeWithin at q
        split at q
        · cases q
        · rename_i r0 hr0
          split at q
          · cases q
          · cases q
            refine ⟨s.ps, fun o e r hr => ?_⟩
            have e : some { op with rows := op.rows ++ [r0] } = some o := e
            cases e
            rcases List.mem_append.mp hr with hr | hr
            · exact s.op op ho r hr
            · have hr : r = r0 := by simpa using hr
              subst hr
              exact ⟨ws, hw, hr0⟩
      · cases h
theorem rows_src {all : List (List Str)} : ∀ {rs : List (List Str)} {i : Int} {st st' : ST}, parseRows rs i st = .ok st' → (∀ ws ∈ rs, ws ∈ all) → Src all st → Src all st'
  | [], i, st, st', h, _, s => by
    cases h
    exact s
  | ws :: r, i, st, st', h, sub, s => by
    unfold parseRows at h
    split at h
    · cases h
    · rename_i s2 q
      exact rows_src h (fun x hx => sub x (List.mem_cons_of_mem _ hx)) (row_src q (sub ws (List.mem_cons_self ..)) s)
theorem parse_src {t : Str} {st : ST} (h : parseT t = .ok st) : ∀ p ∈ st.ps, ∀ r ∈ p.rows, ∃ ws ∈ rowsOf t, rowOf p.kind ws = some r := by
  unfold parseT at h
  split at h
  · cases h
  · rename_i s q
    split at h
    · cases h
    · cases h
      exact (rows_src q (fun x hx => hx) ⟨(fun p hp => nomatch hp), (fun o e => nomatch e)⟩).ps
/-! ### no row is wrong -/
theorem badRow_none {ms : MS} {s : Sc} {m : Str} : ∀ {rs : List (List Str)} {i : Nat}, badRow ms s m rs i = none → ∀ ws ∈ rs, rowRight ms s m ws = true
  | [], _, _, ws, h => nomatch h
  | x :: r, i, e, ws, h => by
    unfold badRow at e
    split at e
    · rename_i hx
      rcases List.mem_cons.mp h with q | h
      · rw [q]; exact hx
      · exact badRow_none e ws h
    · cases e
theorem badMod_none {ms : MS} {s : Sc} {mods : List (Str × Str)} : ∀ {ns : MS}, badMod ms s mods ns = none → ∀ p ∈ ns, ∀ ws ∈ rowsOf (textOf mods p.1), rowRight ms s p.1 ws = true
  | [], _, p, h => nomatch h
  | x :: r, e, p, h => by
    unfold badMod at e
    split at e
    · cases e
    · rename_i q
      rcases List.mem_cons.mp h with z | h
      · rw [z]; exact badRow_none q
      · exact badMod_none e p h
/-! ### a row with its full name is a row -/
theorem take_set {α : Type} {xs : List α} {i : Nat} {v : α} (h : i < xs.length) : xs.take i ++ (v :: xs.drop (i + 1)) = xs.set i v := by
  rw [List.set_eq_take_append_cons_drop, if_pos h]
theorem place_form {form : List Str} {j : Nat} (h : form.findIdx? (fun z => z == ("name" : Str)) = some j) : form[j]? = some "name" := by
  obtain ⟨hj1, hj2, _⟩ := List.findIdx?_eq_some_iff_getElem.mp h
  rw [List.getElem?_eq_getElem hj1]
  exact congrArg some (by simpa using hj2)
theorem insOk_set {xs : List V} (h : InsOk xs) {i : Nat} (e : nplace xs = some i) {f : Str} : InsOk (xs.take i ++ (V.str f :: xs.drop (i + 1))) := by
  obtain ⟨w, rest, form, rfl, hf, hl, hn, hi, hv⟩ := h
  have e2 : place form = some i := by
    have : nplace (V.str w :: rest) = (formOf w).bind place := rfl
    rw [this, hf] at e
    exact e
  unfold place at e2
  obtain ⟨j, hj, rfl⟩ := Option.map_eq_some_iff.mp e2
  have hz := place_form hj
  have hjl : j < rest.length := by
    rw [hl]
    exact (List.getElem?_eq_some_iff.mp hz).1
  have ex : (V.str w :: rest).take (j + 1) ++ (V.str f :: (V.str w :: rest).drop (j + 1 + 1)) = V.str w :: rest.set j (V.str f) := by
    rw [← take_set hjl]
    rfl
  rw [ex]
  refine ⟨w, _, form, rfl, hf, by rw [List.length_set]; exact hl, fun k hk => ?_, fun k hk => ?_, fun v m => ?_⟩
  · by_cases q : j = k
    · subst q
      exact ⟨f, by rw [List.getElem?_set_self hjl]⟩
    · rw [List.getElem?_set_ne q]
      exact hn k hk
  · by_cases q : j = k
    · subst q
      rw [hz] at hk
      exact absurd (Option.some.inj hk) (by decide)
    · rw [List.getElem?_set_ne q]
      exact hi k hk
  · rcases List.mem_or_eq_of_mem_set m with m | m
    · exact hv v m
    · rw [m]; rfl
theorem full_ok {ms : MS} {s : Sc} {m k : Str} {ws : List Str} {r : MR} (hr : rowOf k ws = some r) (hk : k = "func" ∨ k = "data") (rr : rowRight ms s m ws = true) (ok : RowOk k r) : RowOk k (fullRow ms s m r) := by
  unfold rowOf at hr
  by_cases e : k = "func"
  · rw [if_pos e] at hr
    cases q : readIns ws with
    | none => rw [q] at hr; cases hr
    | some xs =>
      rw [q] at hr
      cases hr
      obtain ⟨w, rest, form, rfl, hf, _, _, _⟩ := ins_in q
      have kk := form_key hf
      have rr : (if w = "export" then rest.all (expRight ms s m) else if w = "alias" then rrAl ms s m rest else if w = "func" ∨ w = "data" ∨ w = "end" then true else if (formOf w).isSome then rrIns ms s m (w :: rest) else rrDat ms s m (w :: rest)) = true := rr
      rw [if_neg kk.2.2.1, if_neg kk.2.2.2.1, if_neg (fun h => h.elim kk.2.2.2.2.1 fun h => h.elim kk.2.2.2.2.2.1 kk.2.2.2.2.2.2), if_pos (by rw [hf]; rfl)] at rr
      unfold rrIns at rr
      rw [q] at rr
      have rr : insRight ms s m xs = true := rr
      have okI : InsOk xs := ok.2
      unfold insRight at rr
      show RowOk k (match nplace xs with
        | none => .ins xs
        | some i => .ins (xs.take i ++ (optS (mean ms s m xs i) :: xs.drop (i + 1))))
      cases hp : nplace xs with
      | none => exact ok
      | some i =>
        rw [hp] at rr
        dsimp only at rr
        cases hm : mean ms s m xs i with
        | none => rw [hm] at rr; cases rr
        | some f =>
          show k = "func" ∧ InsOk (xs.take i ++ (optS (mean ms s m xs i) :: xs.drop (i + 1)))
          rw [hm]
          exact ⟨e, insOk_set okI hp⟩
  · rw [if_neg e] at hr
    have hd : k = "data" := hk.resolve_left e
    split at hr
    · cases hr
    · rename_i hn
      cases hr
      obtain ⟨w, rfl, hf, kk, n1, n2⟩ := dat_in hn
      rcases kk with ⟨z, k1, _⟩ | ⟨i, k1⟩
      · rw [k1]
        have nr : ∀ v : Str, isName v = false → readInt v = none → w ≠ v := fun v hv hi q => by
          subst q
          have : readDat [w] = if isName w = true then V.str w else optI (readInt w) := rfl
          rw [this, hv, hi] at k1
          cases k1
        have rr : (if w = "export" then ([] : List Str).all (expRight ms s m) else if w = "alias" then rrAl ms s m [] else if w = "func" ∨ w = "data" ∨ w = "end" then true else if (formOf w).isSome then rrIns ms s m [w] else rrDat ms s m [w]) = true := rr
        rw [if_neg n1, if_neg n2, if_neg (fun h => h.elim (nr "func" (by decide +kernel) (by decide +kernel)) fun h => h.elim (nr "data" (by decide +kernel) (by decide +kernel)) (nr "end" (by decide +kernel) (by decide +kernel))), if_neg (by rw [hf]; simp)] at rr
        unfold rrDat at rr
        rw [k1] at rr
        have rr : (meaning ms s m z).isSome = true := rr
        obtain ⟨f, hf2⟩ := Option.isSome_iff_exists.mp rr
        refine ⟨hd, .inl ⟨f, ?_⟩⟩
        rw [hf2]
        rfl
      · rw [k1]
        exact ⟨hd, .inr ⟨i, rfl⟩⟩
/-! ### the tables of a program -/
theorem fold2 {α σ τ : Type} {f : σ → α → σ} {g : τ → α → τ} {J : σ → τ → Prop} : ∀ {xs : List α} {s : σ} {t : τ}, (∀ s t a, a ∈ xs → J s t → J (f s a) (g t a)) → J s t → J (xs.foldl f s) (xs.foldl g t)
  | [], _, _, _, h => h
  | x :: r, s, t, hf, h => fold2 (xs := r) (fun s t a ha => hf s t a (List.mem_cons_of_mem _ ha)) (hf s t x (List.mem_cons_self ..) h)
def KR (ms : MS) (s : Sc) (ks : List (Str × Str)) (rs : List (Str × List MR)) : Prop := ∀ f, (look ks f = none ∧ look rs f = none) ∨ ∃ m ∈ ms, ∃ p ∈ m.2.ps, f = full m.1 p.name ∧ look ks f = some p.kind ∧ look rs f = some (p.rows.map (fullRow ms s m.1))
theorem kr_of (ms : MS) (s : Sc) : KR ms s (kindsOf ms) (rowsOfM ms s ms) := by
  unfold kindsOf rowsOfM
  refine fold2 (J := KR ms s) (fun ks rs m hm h => ?_) (fun f => .inl ⟨rfl, rfl⟩)
  refine fold2 (J := KR ms s) (fun ks rs p hp h f => ?_) h
  unfold kIn rIn
  rw [look_put, look_put]
  by_cases e : f = full m.1 p.name
  · rw [if_pos e, if_pos e]
    exact .inr ⟨m, hm, p, hp, e, rfl, rfl⟩
  · rw [if_neg e, if_neg e]
    exact h f
theorem kinds_key {ms : MS} {m : Str × ST} {p : MP} (hm : m ∈ ms) (hp : p ∈ m.2.ps) : full m.1 p.name ∈ keys (kindsOf ms) := by
  refine fold_reach (J := fun l : List (Str × Str) => full m.1 p.name ∈ keys l) (fun l n h => ?_) hm (fun l => ?_)
  · exact fold_inv (I := fun l : List (Str × Str) => full m.1 p.name ∈ keys l) (fun l y _ h => put_mem.mpr (.inl h)) h
  · exact fold_reach (J := fun l : List (Str × Str) => full m.1 p.name ∈ keys l) (fun l y h => put_mem.mpr (.inl h)) hp (fun l => put_mem.mpr (.inr rfl))
theorem text_of {mods : List (Str × Str)} {m t : Str} (h : look mods m = some t) : textOf mods m = t := by
  unfold textOf
  rw [h]
  rfl
theorem res_of {mods : List (Str × Str)} {ms : MS} (ok : ModsOk mods ms) (hb : badMod ms (scOf ms) mods ms = none) {f : Str} (hf : f ∈ keys (scOf ms).pc) :
    ∃ k rs, look (kindsOf ms) f = some k ∧ look (rowsOfM ms (scOf ms) ms) f = some rs ∧ (k = "func" ∨ k = "data") ∧ rs.length ≤ 100 ∧ ∀ r ∈ rs, RowOk k r := by
  obtain ⟨e, he, e2⟩ := List.mem_map.mp hf
  obtain ⟨m, hm, p, hp, e3⟩ := pc_mem he
  have hk : f ∈ keys (kindsOf ms) := by
    rw [← e2, e3]
    exact kinds_key hm hp
  have hs := look_mem.mpr hk
  rcases kr_of ms (scOf ms) f with ⟨h1, _⟩ | ⟨m, hm, p, hp, _, h2, h3⟩
  · rw [h1] at hs
    cases hs
  · obtain ⟨t, t1, t2, t3, a, _⟩ := mods_all ok hm
    have pk := a.ps p hp
    refine ⟨_, _, h2, h3, pk.kind, by rw [List.length_map]; exact Nat.le_trans pk.few (by decide), fun r hr => ?_⟩
    obtain ⟨r0, hr0, rfl⟩ := List.mem_map.mp hr
    obtain ⟨ws, hw, hr1⟩ := parse_src t3 p hp r0 hr0
    refine full_ok hr1 pk.kind (badMod_none hb m hm ws ?_) (pk.rows r0 hr0).1
    rw [text_of t1]
    exact hw
end PG

set_option Elab.async false
set_option linter.all false
set_option maxRecDepth 100000
set_option maxHeartbeats 4000000
/-! Texts that differ in a number alone: they are read alike. -/
namespace PG
open PySem PySem.Spec PyProof.Rows L2 L2.FK FS TX
def SimW (ws ws' : List Str) : Prop := ws = ws' ∨ (∃ x w w' i j, ws = [("set" : Str), x, w] ∧ ws' = [("set" : Str), x, w'] ∧ readInt w = some i ∧ readInt w' = some j) ∨
  ∃ w w' i j, ws = [w] ∧ ws' = [w'] ∧ isName w = false ∧ isName w' = false ∧ readInt w = some i ∧ readInt w' = some j
def SimR (r r' : MR) : Prop := r = r' ∨ (∃ x i j, r = .ins [.str "set", x, .int i] ∧ r' = .ins [.str "set", x, .int j]) ∨ ∃ i j, r = .dat (.int i) ∧ r' = .dat (.int j)
def SimP (p p' : MP) : Prop := p.name = p'.name ∧ p.kind = p'.kind ∧ Paired SimR p.rows p'.rows
def SimO : Option OP → Option OP → Prop
  | none, none => True
  | some o, some o' => o.kind = o'.kind ∧ o.name = o'.name ∧ o.start = o'.start ∧ Paired SimR o.rows o'.rows
  | _, _ => False
structure SimT (st st' : ST) : Prop where
  ps : Paired SimP st.ps st'.ps
  ex : st.ex = st'.ex
  al : st.al = st'.al
  nm : st.nm = st'.nm
  op : SimO st.op st'.op
theorem paired_refl {α : Type} {R : α → α → Prop} (h : ∀ a, R a a) : ∀ xs : List α, Paired R xs xs
  | [] => .nil
  | x :: r => .cons (h x) (paired_refl h r)
theorem paired_snoc {α β : Type} {R : α → β → Prop} {x : α} {y : β} : ∀ {xs : List α} {ys : List β}, Paired R xs ys → R x y → Paired R (xs ++ [x]) (ys ++ [y])
  | _, _, .nil, h => .cons h .nil
  | _, _, .cons k t, h => .cons k (paired_snoc t h)
theorem SimR.refl (r : MR) : SimR r r := .inl rfl
/-- two rows that open nothing, end nothing -/
theorem int_word {w : Str} {i : Int} (h : readInt w = some i) : formOf w = none ∧ w ≠ "export" ∧ w ≠ "alias" ∧ w ≠ "func" ∧ w ≠ "data" ∧ w ≠ "end" := by
  have ne : ∀ v : Str, readInt v = none → w ≠ v := fun v hv q => by rw [q, hv] at h; cases h
  refine ⟨?_, ne _ (by decide +kernel), ne _ (by decide +kernel), ne _ (by decide +kernel), ne _ (by decide +kernel), ne _ (by decide +kernel)⟩
  cases hf : formOf w with
  | none => rfl
  | some f =>
    rw [(form_key hf).2.1] at h
    cases h
theorem set_form : formOf "set" = some [("reg" : Str), "integer"] := by decide +kernel
theorem sim_rowOf {k : Str} {ws ws' : List Str} {r : MR} (h : SimW ws ws') (e : rowOf k ws = some r) : ∃ r', rowOf k ws' = some r' ∧ SimR r r' := by
  rcases h with rfl | ⟨x, w, w', i, j, rfl, rfl, hi, hj⟩ | ⟨w, w', i, j, rfl, rfl, n1, n2, hi, hj⟩
  · exact ⟨r, e, .inl rfl⟩
  · unfold rowOf at e ⊢
    by_cases hk : k = "func"
    · rw [if_pos hk] at e ⊢
      have e1 : ∀ (u : Str) (n : Int), readInt u = some n → readIns ["set", x, u] = if readPart x "reg" = .non then none else some [.str "set", readPart x "reg", .int n] := fun u n hu => by
        rw [readIns_some set_form, if_neg (fun h => h rfl)]
        have : readPart u "integer" = .int n := by
          unfold readPart
          rw [if_neg (by decide), if_neg (by decide), hu]
          rfl
        show (if ([readPart x "reg", readPart u "integer"].any fun v => decide (v = .non)) = true then none else some [V.str "set", readPart x "reg", readPart u "integer"]) = _
        rw [this]
        by_cases q : readPart x "reg" = .non
        · rw [if_pos q, if_pos (by rw [q]; rfl)]
        · rw [if_neg q, if_neg (by simp [q])]
      rw [e1 w i hi] at e
      rw [e1 w' j hj]
      by_cases q : readPart x "reg" = .non
      · rw [if_pos q] at e
        cases e
      · rw [if_neg q] at e ⊢
        cases e
        exact ⟨_, rfl, .inr (.inl ⟨_, i, j, rfl, rfl⟩)⟩
    · rw [if_neg hk, show readDat [("set" : Str), x, w] = .non from rfl, if_pos rfl] at e
      cases e
  · unfold rowOf at e ⊢
    by_cases hk : k = "func"
    · rw [if_pos hk, readIns_none (int_word hi).1] at e
      cases e
    · rw [if_neg hk] at e ⊢
      have e1 : ∀ (u : Str) (n : Int), isName u = false → readInt u = some n → readDat [u] = .int n := fun u n hn hu => by
        show (if isName u = true then V.str u else optI (readInt u)) = _
        rw [hn, hu]
        rfl
      rw [e1 w i n1 hi] at e
      rw [e1 w' j n2 hj]
      rw [if_neg (by simp)] at e ⊢
      cases e
      exact ⟨_, rfl, .inr (.inr ⟨i, j, rfl, rfl⟩)⟩
theorem sim_end {ws ws' : List Str} (h : SimW ws ws') : (ws = [("end" : Str)] ↔ ws' = [("end" : Str)]) := by
  rcases h with rfl | ⟨x, w, w', i, j, rfl, rfl, hi, hj⟩ | ⟨w, w', i, j, rfl, rfl, n1, n2, hi, hj⟩
  · exact Iff.rfl
  · constructor
    · intro h; cases h
    · intro h; cases h
  · have a := (int_word hi).2.2.2.2.2
    have b := (int_word hj).2.2.2.2.2
    constructor
    · intro h; exact absurd (List.cons.inj h).1 a
    · intro h; exact absurd (List.cons.inj h).1 b
/-! ### between pieces -/
def wps (ps : List MP) (st : ST) : ST := { st with ps := ps }
theorem ex_wps (ps : List MP) : ∀ (ws : List Str) (st : ST), exportsGo ws (wps ps st) = (exportsGo ws st).map (wps ps)
  | [], st => rfl
  | z :: r, st => by
    unfold exportsGo
    show (if isName z && !st.ex.contains z then exportsGo r (wps ps { st with ex := st.ex ++ [z] }) else none) = _
    rw [ex_wps ps r]
    by_cases h : (isName z && !st.ex.contains z) = true
    · rw [if_pos h, if_pos h]
    · rw [if_neg h, if_neg h]
      rfl
theorem nm_wps (ps : List MP) (z : Str) (st : ST) : takeName z (wps ps st) = (takeName z st).map (wps ps) := by
  unfold takeName
  show (if isName z && !st.nm.contains z then some (wps ps { st with nm := st.nm ++ [z] }) else none) = _
  by_cases h : (isName z && !st.nm.contains z) = true
  · rw [if_pos h, if_pos h]
    rfl
  · rw [if_neg h, if_neg h]
    rfl
theorem btw_wps {ps : List MP} {st : ST} (hl : ps.length = st.ps.length) (num : Int) (ws : List Str) : takeBetween num ws (wps ps st) = (takeBetween num ws st).map (wps ps) := by
  cases ws with
  | nil => rfl
  | cons w r =>
    unfold takeBetween
    dsimp only
    by_cases h1 : w = "export"
    · rw [if_pos h1, if_pos h1]
      unfold takeExports
      by_cases h : r.length = 0
      · rw [if_pos h, if_pos h]
        rfl
      · rw [if_neg h, if_neg h]
        exact ex_wps ps r st
    · rw [if_neg h1, if_neg h1]
      by_cases h2 : w = "alias"
      · rw [if_pos h2, if_pos h2]
        unfold takeAlias
        split
        · rename_i x y
          by_cases h : isName y = true
          · rw [if_pos h, if_pos h, nm_wps]
            cases takeName x st <;> rfl
          · rw [if_neg h, if_neg h]
            rfl
        · rfl
      · rw [if_neg h2, if_neg h2]
        by_cases h3 : w = "func" ∨ w = "data"
        · rw [if_pos h3, if_pos h3]
          unfold openPiece
          split
          · rename_i k n _
            rw [show (wps ps st).ps.length = st.ps.length from hl]
            by_cases h : st.ps.length = 12
            · rw [if_pos h, if_pos h]
              rfl
            · rw [if_neg h, if_neg h, nm_wps]
              cases takeName n st <;> rfl
          · rfl
        · rw [if_neg h3, if_neg h3]
          rfl
theorem btw_ps {num : Int} {ws : List Str} {st s1 : ST} (h : takeBetween num ws st = some s1) (ho : st.op = none) : s1.ps = st.ps ∧ (s1.op = none ∨ ∃ o, s1.op = some o ∧ o.rows = []) := by
  cases ws with
  | nil => cases h
  | cons w r =>
    unfold takeBetween at h
    dsimp only at h
    split at h
    · unfold takeExports at h
      split at h
      · cases h
      · obtain ⟨h1, _, h3, _⟩ := exports_all h
        exact ⟨h1, .inl (by rw [h3, ho])⟩
    · split at h
      · unfold takeAlias at h
        split at h
        · rename_i x y
          split at h
          · cases q1 : takeName x st with
            | none => rw [q1] at h; cases h
            | some s2 =>
              rw [q1] at h
              cases h
              obtain ⟨h1, _, h3, _⟩ := takeName_all q1
              exact ⟨h1, .inl (h3.trans ho)⟩
          · cases h
        · cases h
      · split at h
        · unfold openPiece at h
          split at h
          · rename_i k n _
            split at h
            · cases h
            · cases q1 : takeName n st with
              | none => rw [q1] at h; cases h
              | some s2 =>
                rw [q1] at h
                cases h
                obtain ⟨h1, _⟩ := takeName_all q1
                exact ⟨h1, .inr ⟨_, rfl, rfl⟩⟩
          · cases h
        · cases h
theorem SimO.refl_none {o o' : Option OP} (h : SimO o o') (e : o = none) : o' = none := by
  subst e
  cases o' with
  | none => rfl
  | some _ => cases h
theorem btw_form {num : Int} {ws ws' : List Str} {st s1 : ST} (h : takeBetween num ws st = some s1) (s : SimW ws ws') : ws = ws' := by
  rcases s with e | ⟨x, w, w', i, j, rfl, rfl, hi, hj⟩ | ⟨w, w', i, j, rfl, rfl, n1, n2, hi, hj⟩
  · exact e
  · have h : (if ("set" : Str) = "export" then takeExports [x, w] st else if ("set" : Str) = "alias" then takeAlias [x, w] st else if ("set" : Str) = "func" ∨ ("set" : Str) = "data" then openPiece num ["set", x, w] st else none) = some s1 := h
    rw [if_neg (by decide), if_neg (by decide), if_neg (by decide)] at h
    cases h
  · obtain ⟨_, m1, m2, m3, m4, _⟩ := int_word hi
    have h : (if w = "export" then takeExports [] st else if w = "alias" then takeAlias [] st else if w = "func" ∨ w = "data" then openPiece num [w] st else none) = some s1 := h
    rw [if_neg m1, if_neg m2, if_neg (fun q => q.elim m3 m4)] at h
    cases h
/-! ### the end of a piece -/
theorem tooGreat_set (n : Nat) (x : V) (i : Int) : tooGreat n (.ins [.str "set", x, .int i]) = false := by
  have : targetOf [.str "set", x, .int i] = .non := by
    show (match formOf "set" with
      | some form => if form.contains "to" then ([V.str "set", x, .int i].getLast?.getD .non) else .non
      | none => .non) = _
    rw [set_form]
    rfl
  show (match targetOf [.str "set", x, .int i] with | .int t => decide ((n : Int) < t) | _ => false) = false
  rw [this]
theorem sim_great {n : Nat} {r r' : MR} (h : SimR r r') : tooGreat n r = tooGreat n r' := by
  rcases h with rfl | ⟨x, i, j, rfl, rfl⟩ | ⟨i, j, rfl, rfl⟩
  · rfl
  · rw [tooGreat_set, tooGreat_set]
  · rfl
theorem sim_badFrom (n : Nat) : ∀ {rs rs' : List MR} (i : Int), Paired SimR rs rs' → badFrom n rs i = badFrom n rs' i
  | _, _, i, .nil => rfl
  | _, _, i, .cons h t => by
    unfold badFrom
    rw [sim_great h, sim_badFrom n (i + 1) t]
/-! ### a row, a text -/
theorem sim_row {num : Int} {ws ws' : List Str} {st st' s1 : ST} (h : takeRow num ws st = .ok s1) (sw : SimW ws ws') (s : SimT st st') : ∃ s1', takeRow num ws' st' = .ok s1' ∧ SimT s1 s1' := by
  obtain ⟨ps, ex, al, nm, op⟩ := st
  obtain ⟨ps', ex', al', nm', op'⟩ := st'
  obtain ⟨h1, rfl, rfl, rfl, h5⟩ := s
  dsimp only at h1 h5
  unfold takeRow at h ⊢
  cases op with
  | none =>
    have e' : op' = none := SimO.refl_none h5 rfl
    subst e'
    dsimp only at h ⊢
    cases q : takeBetween num ws ⟨ps, ex, al, nm, none⟩ with
    | none => rw [q] at h; cases h
    | some s2 =>
      rw [q] at h
      cases h
      have ew := btw_form q sw
      subst ew
      have e2 : takeBetween num ws ⟨ps', ex, al, nm, none⟩ = (takeBetween num ws ⟨ps, ex, al, nm, none⟩).map (wps ps') := btw_wps (st := ⟨ps, ex, al, nm, none⟩) (Paired.length h1).symm num ws
      rw [e2, q]
      obtain ⟨g1, g2⟩ := btw_ps q rfl
      refine ⟨_, rfl, ⟨(by show Paired SimP s1.ps ps'; rw [g1]; exact h1), rfl, rfl, rfl, ?_⟩⟩
      show SimO s1.op s1.op
      rcases g2 with g2 | ⟨o, g2, _⟩
      · rw [g2]; trivial
      · rw [g2]; exact ⟨rfl, rfl, rfl, paired_refl SimR.refl _⟩
  | some o =>
    cases op' with
    | none => cases h5
    | some o' =>
      obtain ⟨k1, k2, k3, k4⟩ := h5
      obtain ⟨ok, on, os, orr⟩ := o
      obtain ⟨ok', on', os', orr'⟩ := o'
      dsimp only at k1 k2 k3 k4
      subst k1 k2 k3
      dsimp only at h ⊢
      by_cases he : ws = [("end" : Str)]
      · rw [if_pos he] at h
        rw [if_pos ((sim_end sw).mp he)]
        unfold closePiece at h ⊢
        dsimp only at h ⊢
        rw [← Paired.length k4, ← sim_badFrom orr.length 0 k4]
        split at h
        · cases h
        · rename_i q
          rw [q]
          cases h
          exact ⟨_, rfl, ⟨paired_snoc h1 ⟨rfl, rfl, k4⟩, rfl, rfl, rfl, trivial⟩⟩
      · rw [if_neg he] at h
        rw [if_neg (fun z => he ((sim_end sw).mpr z))]
        unfold takeWithin at h ⊢
        dsimp only at h ⊢
        cases q : rowOf ok ws with
        | none => rw [q] at h; cases h
        | some r =>
          obtain ⟨r', q', sr⟩ := sim_rowOf sw q
          rw [q] at h
          rw [q']
          dsimp only at h ⊢
          rw [← Paired.length k4]
          by_cases hl : orr.length = 16
          · rw [if_pos hl] at h
            cases h
          · rw [if_neg hl] at h ⊢
            cases h
            exact ⟨_, rfl, ⟨h1, rfl, rfl, rfl, ⟨rfl, rfl, rfl, paired_snoc k4 sr⟩⟩⟩
theorem sim_rows : ∀ {rs rs' : List (List Str)} {i : Int} {st st' s1 : ST}, parseRows rs i st = .ok s1 → Paired SimW rs rs' → SimT st st' → ∃ s1', parseRows rs' i st' = .ok s1' ∧ SimT s1 s1'
  | _, _, i, st, st', s1, h, .nil, s => by
    cases h
    exact ⟨st', rfl, s⟩
  | _, _, i, st, st', s1, h, .cons sw t, s => by
    unfold parseRows at h ⊢
    split at h
    · cases h
    · rename_i s2 q
      obtain ⟨s2', q', ss⟩ := sim_row q sw s
      rw [q']
      exact sim_rows h t ss
def parseW (rs : List (List Str)) : Except Int ST := match parseRows rs 0 st0 with
  | .error e => .error e
  | .ok st => if st.op.isSome then .error (rs.length : Int) else .ok st
theorem sim_parse {rs rs' : List (List Str)} {s1 : ST} (h : parseW rs = .ok s1) (t : Paired SimW rs rs') : ∃ s1', parseW rs' = .ok s1' ∧ SimT s1 s1' := by
  unfold parseW at h ⊢
  split at h
  · cases h
  · rename_i s2 q
    obtain ⟨s2', q', ss⟩ := sim_rows q t ⟨.nil, rfl, rfl, rfl, trivial⟩
    rw [q']
    have e : s2.op.isSome = s2'.op.isSome := by
      have := ss.op
      cases h1 : s2.op <;> cases h2 : s2'.op <;> rw [h1, h2] at this <;> first | rfl | cases this
    dsimp only
    rw [← e]
    split at h
    · cases h
    · cases h
      exact ⟨s2', by rename_i hh; rw [if_neg hh], ss⟩
end PG

set_option Elab.async false
set_option linter.all false
set_option maxRecDepth 100000
set_option maxHeartbeats 4000000
/-! Modules that differ in a number alone: names mean the same in them. -/
namespace PG
open PySem PySem.Spec PyProof.Rows L2 L2.FK FS TX
def SimM : MS → MS → Prop := Paired fun a b => a.1 = b.1 ∧ SimT a.2 b.2
def SimK {κ β : Type} (R : β → β → Prop) : List (κ × β) → List (κ × β) → Prop := Paired fun a b => a.1 = b.1 ∧ R a.2 b.2
section
variable {κ β : Type} [DecidableEq κ] {R : β → β → Prop}
theorem SimK.keys {l l' : List (κ × β)} (h : SimK R l l') : keys l = keys l' := by
  unfold SimK at h
  unfold PG.keys
  induction h with
  | nil => rfl
  | cons h _ ih => rw [List.map_cons, List.map_cons, ih, h.1]
theorem SimK.look {l l' : List (κ × β)} (h : SimK R l l') (k : κ) : (look l k = none ∧ look l' k = none) ∨ ∃ x y, look l k = some x ∧ look l' k = some y ∧ R x y := by
  unfold SimK at h
  induction h with
  | nil => exact .inl ⟨rfl, rfl⟩
  | @cons a b l l' h t ih =>
    unfold PG.look
    rw [← h.1]
    by_cases e : a.1 = k
    · rw [if_pos e, if_pos e]
      exact .inr ⟨_, _, rfl, rfl, h.2⟩
    · rw [if_neg e, if_neg e]
      exact ih
theorem SimK.put {l l' : List (κ × β)} (h : SimK R l l') (k : κ) {x y : β} (r : R x y) : SimK R (put l k x) (put l' k y) := by
  unfold SimK at h
  induction h with
  | nil => exact .cons ⟨rfl, r⟩ .nil
  | @cons a b l l' h t ih =>
    unfold PG.put
    rw [← h.1]
    by_cases e : a.1 = k
    · rw [if_pos e, if_pos e]
      exact .cons ⟨h.1 ▸ rfl, r⟩ t
    · rw [if_neg e, if_neg e]
      exact .cons h ih
end
theorem sim_keys {ms ms' : MS} (h : SimM ms ms') : keys ms = keys ms' := SimK.keys (R := SimT) h
theorem sim_names {ps ps' : List MP} (h : Paired SimP ps ps') : ps.map (·.name) = ps'.map (·.name) := by
  induction h with
  | nil => rfl
  | cons h _ ih => rw [List.map_cons, List.map_cons, ih, h.1]
theorem sim_hasN {st st' : ST} (h : SimT st st') (z : Str) : hasN st z = hasN st' z := by
  unfold hasN
  rw [sim_names h.ps, h.al]
theorem sim_has {ms ms' : MS} (h : SimM ms ms') (m z : Str) : has ms m z = has ms' m z := by
  unfold has
  rcases SimK.look (R := SimT) h m with ⟨e1, e2⟩ | ⟨x, y, e1, e2, r⟩
  · rw [e1, e2]
  · rw [e1, e2]
    exact sim_hasN r z
structure SimS (s s' : Sc) : Prop where
  al : s.al = s'.al
  ex : s.ex = s'.ex
  pc : SimK SimP s.pc s'.pc
theorem sim_enterPc (m : Str) : ∀ {ps ps' : List MP} {l l' : List (Str × MP)}, Paired SimP ps ps' → SimK SimP l l' → SimK SimP (ps.foldl (enterPc m) l) (ps'.foldl (enterPc m) l')
  | _, _, l, l', .nil, h => h
  | _, _, l, l', .cons (a := a) (b := b) k t, h => by
    rw [List.foldl_cons, List.foldl_cons]
    exact sim_enterPc m t (by unfold enterPc; rw [k.1]; exact h.put _ k)
theorem sim_enters : ∀ {ms ms' : MS} {s s' : Sc}, SimM ms ms' → SimS s s' → SimS (ms.foldl (fun s m => enter s m.1 m.2) s) (ms'.foldl (fun s m => enter s m.1 m.2) s')
  | _, _, s, s', .nil, h => h
  | _, _, s, s', .cons (a := a) (b := b) k t, h => by
    rw [List.foldl_cons, List.foldl_cons]
    exact sim_enters t (by
      unfold enter
      rw [← k.1]
      exact ⟨by rw [h.al, k.2.al], by rw [h.ex, k.2.ex], sim_enterPc a.1 k.2.ps h.pc⟩)
theorem sim_sc {ms ms' : MS} (h : SimM ms ms') : SimS (scOf ms) (scOf ms') := sim_enters h ⟨rfl, rfl, .nil⟩
theorem sim_home {ms ms' : MS} (h : SimM ms ms') {s s' : Sc} (hs : SimS s s') (m z : Str) : homeOf ms s m z = homeOf ms' s' m z := by
  unfold homeOf exps
  rw [sim_has h, hs.ex]
  have : (fun o => has ms o z) = fun o => has ms' o z := funext fun o => sim_has h o z
  rw [this]
theorem sim_meanGo {ms ms' : MS} (h : SimM ms ms') {s s' : Sc} (hs : SimS s s') : ∀ (n : Nat) (seen : List (Str × Str)) (m z : Str), meanGo ms s n seen m z = meanGo ms' s' n seen m z
  | 0, _, _, _ => rfl
  | n + 1, seen, m, z => by
    unfold meanGo
    rw [sim_home h hs, hs.al]
    have : ∀ a b, meanGo ms s n (seen ++ [(m, z)]) a b = meanGo ms' s' n (seen ++ [(m, z)]) a b := fun a b => sim_meanGo h hs n _ a b
    split
    · rfl
    · split
      · rfl
      · split
        · rfl
        · exact this _ _
theorem sim_mean {ms ms' : MS} (h : SimM ms ms') {s s' : Sc} (hs : SimS s s') (m z : Str) : meaning ms s m z = meaning ms' s' m z := by
  unfold meaning
  rw [sim_meanGo h hs, hs.al]
theorem sim_insRight {ms ms' : MS} (h : SimM ms ms') {s s' : Sc} (hs : SimS s s') (m : Str) (xs : List V) : insRight ms s m xs = insRight ms' s' m xs := by
  unfold insRight mean
  have : meaning ms s m = meaning ms' s' m := funext fun z => sim_mean h hs m z
  rw [this]
  split
  · rfl
  · split
    · rfl
    · rename_i f _
      rcases hs.pc.look f with ⟨e1, e2⟩ | ⟨x, y, e1, e2, r⟩
      · rw [e1, e2]
      · rw [e1, e2]
        dsimp only
        rw [r.2.1, Paired.length r.2.2]
theorem sim_right {ms ms' : MS} (h : SimM ms ms') {s s' : Sc} (hs : SimS s s') (m : Str) (ws : List Str) : rowRight ms s m ws = rowRight ms' s' m ws := by
  cases ws with
  | nil => rfl
  | cons w r =>
    have e1 : expRight ms s m = expRight ms' s' m := funext fun z => by
      unfold expRight exps
      rw [sim_has h, hs.ex]
    have e2 : rrAl ms s m r = rrAl ms' s' m r := by
      unfold rrAl
      split
      · rw [sim_mean h hs]
      · rfl
    have e3 : rrIns ms s m (w :: r) = rrIns ms' s' m (w :: r) := by
      unfold rrIns
      split
      · exact sim_insRight h hs m _
      · rfl
    have e4 : rrDat ms s m (w :: r) = rrDat ms' s' m (w :: r) := by
      unfold rrDat
      split
      · rw [sim_mean h hs]
      · rfl
    show (if w = "export" then r.all (expRight ms s m) else if w = "alias" then rrAl ms s m r else if w = "func" ∨ w = "data" ∨ w = "end" then true else if (formOf w).isSome then rrIns ms s m (w :: r) else rrDat ms s m (w :: r)) = _
    rw [e1, e2, e3, e4]
    rfl
theorem sim_rightW {ms : MS} {s : Sc} (m : Str) {ws ws' : List Str} (h : SimW ws ws') : rowRight ms s m ws = rowRight ms s m ws' := by
  rcases h with rfl | ⟨x, w, w', i, j, rfl, rfl, hi, hj⟩ | ⟨w, w', i, j, rfl, rfl, n1, n2, hi, hj⟩
  · rfl
  · have e : ∀ (u : Str) (n : Int), readInt u = some n → rowRight ms s m ["set", x, u] = !decide (readPart x "reg" = .non) := fun u n hu => by
      show (if ("set" : Str) = "export" then [x, u].all (expRight ms s m) else if ("set" : Str) = "alias" then rrAl ms s m [x, u] else if ("set" : Str) = "func" ∨ ("set" : Str) = "data" ∨ ("set" : Str) = "end" then true else if (formOf "set").isSome then rrIns ms s m ["set", x, u] else rrDat ms s m ["set", x, u]) = _
      rw [if_neg (by decide), if_neg (by decide), if_neg (by decide), if_pos (by rw [set_form]; rfl)]
      unfold rrIns
      rw [readIns_some set_form, if_neg (fun h => h rfl)]
      have : readPart u "integer" = .int n := by
        unfold readPart
        rw [if_neg (by decide), if_neg (by decide), hu]
        rfl
      show (match (if ([readPart x "reg", readPart u "integer"].any fun v => decide (v = .non)) = true then none else some [V.str "set", readPart x "reg", readPart u "integer"]) with
        | some xs => insRight ms s m xs
        | none => false) = _
      rw [this]
      by_cases q : readPart x "reg" = .non
      · rw [if_pos (by rw [q]; rfl), q]
        rfl
      · rw [if_neg (by simp [q]), decide_eq_false q]
        dsimp only
        unfold insRight
        have : nplace [V.str "set", readPart x "reg", .int n] = none := by
          show (formOf "set").bind place = none
          rw [set_form]
          decide +kernel
        rw [this]
        rfl
    rw [e w i hi, e w' j hj]
  · have e : ∀ (u : Str) (n : Int), isName u = false → readInt u = some n → rowRight ms s m [u] = true := fun u n hn hu => by
      obtain ⟨k1, k2, k3, k4, k5, k6⟩ := int_word hu
      show (if u = "export" then ([] : List Str).all (expRight ms s m) else if u = "alias" then rrAl ms s m [] else if u = "func" ∨ u = "data" ∨ u = "end" then true else if (formOf u).isSome then rrIns ms s m [u] else rrDat ms s m [u]) = true
      rw [if_neg k2, if_neg k3, if_neg (fun h => h.elim k4 fun h => h.elim k5 k6), k1, if_neg (by simp)]
      unfold rrDat
      have : readDat [u] = .int n := by
        show (if isName u = true then V.str u else optI (readInt u)) = _
        rw [hn, hu]
        rfl
      rw [this]
    rw [e w i n1 hi, e w' j n2 hj]
theorem sim_badRow {ms ms' : MS} (h : SimM ms ms') {s s' : Sc} (hs : SimS s s') (m : Str) : ∀ {rs rs' : List (List Str)} (i : Nat), Paired SimW rs rs' → badRow ms s m rs i = badRow ms' s' m rs' i
  | _, _, i, .nil => rfl
  | _, _, i, .cons k t => by
    unfold badRow
    rw [sim_right h hs, sim_rightW m k, sim_badRow h hs m (i + 1) t]
/-- badMod, of words -/
def badW (ms : MS) (s : Sc) (wd : Str → List (List Str)) : List Str → Option (Str × Nat)
  | [] => none
  | m :: r => match badRow ms s m (wd m) 0 with
    | some i => some (m, i)
    | none => badW ms s wd r
theorem badMod_eq (ms : MS) (s : Sc) (mods : List (Str × Str)) : ∀ ns : MS, badMod ms s mods ns = badW ms s (fun m => rowsOf (textOf mods m)) (keys ns)
  | [] => rfl
  | p :: r => by
    show (match badRow ms s p.1 (rowsOf (textOf mods p.1)) 0 with
      | some i => some (p.1, i)
      | none => badMod ms s mods r) = (match badRow ms s p.1 (rowsOf (textOf mods p.1)) 0 with
      | some i => some (p.1, i)
      | none => badW ms s (fun m => rowsOf (textOf mods m)) (keys r))
    rw [badMod_eq ms s mods r]
theorem sim_badW {ms ms' : MS} (h : SimM ms ms') {s s' : Sc} (hs : SimS s s') {wd wd' : Str → List (List Str)} : ∀ {xs : List Str}, (∀ m ∈ xs, Paired SimW (wd m) (wd' m)) → badW ms s wd xs = badW ms' s' wd' xs
  | [], _ => rfl
  | m :: r, k => by
    unfold badW
    rw [sim_badRow h hs m 0 (k m (List.mem_cons_self ..)), sim_badW h hs fun m hm => k m (List.mem_cons_of_mem _ hm)]
theorem sim_entry {ms ms' : MS} (h : SimM ms ms') {s s' : Sc} (hs : SimS s s') (z : Str) : findEntry ms s z = findEntry ms' s' z := by
  unfold findEntry exps
  rw [hs.ex]
  split
  · split
    · rfl
    · rename_i y _
      rw [sim_mean h hs]
      split
      · rfl
      · rename_i f _
        rcases hs.pc.look f with ⟨e1, e2⟩ | ⟨x, y, e1, e2, r⟩
        · rw [e1, e2]
        · rw [e1, e2]
          dsimp only
          rw [r.2.1]
  · rfl
/-! ### the tables -/
theorem sim_kin (m : Str) : ∀ {ps ps' : List MP} {l l' : List (Str × Str)}, Paired SimP ps ps' → l = l' → ps.foldl (kIn m) l = ps'.foldl (kIn m) l'
  | _, _, l, l', .nil, h => h
  | _, _, l, l', .cons k t, h => by
    rw [List.foldl_cons, List.foldl_cons]
    exact sim_kin m t (by unfold kIn; rw [k.1, k.2.1, h])
theorem sim_kindsGo : ∀ {ms ms' : MS} {l l' : List (Str × Str)}, SimM ms ms' → l = l' → ms.foldl (fun l m => m.2.ps.foldl (kIn m.1) l) l = ms'.foldl (fun l m => m.2.ps.foldl (kIn m.1) l) l'
  | _, _, l, l', .nil, h => h
  | _, _, l, l', .cons (a := a) (b := b) k t, h => by
    rw [List.foldl_cons, List.foldl_cons]
    exact sim_kindsGo t (by rw [← k.1]; exact sim_kin a.1 k.2.ps h)
theorem sim_kinds {ms ms' : MS} (h : SimM ms ms') : kindsOf ms = kindsOf ms' := sim_kindsGo h rfl
theorem nplace_set (x : V) (i : Int) : nplace [V.str "set", x, .int i] = none := by
  show (formOf "set").bind place = none
  rw [set_form]
  decide +kernel
theorem sim_full {ms ms' : MS} (h : SimM ms ms') {s s' : Sc} (hs : SimS s s') (m : Str) {r r' : MR} (k : SimR r r') : SimR (fullRow ms s m r) (fullRow ms' s' m r') := by
  rcases k with rfl | ⟨x, i, j, rfl, rfl⟩ | ⟨i, j, rfl, rfl⟩
  · refine .inl ?_
    have : meaning ms s m = meaning ms' s' m := funext fun z => sim_mean h hs m z
    cases r with
    | ins xs =>
      unfold fullRow mean
      rw [this]
    | dat v =>
      cases v <;> first | rfl | (unfold fullRow; rw [this])
  · have e : ∀ (ms : MS) (s : Sc) (i : Int), fullRow ms s m (.ins [.str "set", x, .int i]) = .ins [.str "set", x, .int i] := fun ms s i => by
      show (match nplace [V.str "set", x, .int i] with
        | none => MR.ins [V.str "set", x, .int i]
        | some j => .ins ([V.str "set", x, .int i].take j ++ (optS (mean ms s m [V.str "set", x, .int i] j) :: [V.str "set", x, .int i].drop (j + 1)))) = _
      rw [nplace_set]
    rw [e, e]
    exact .inr (.inl ⟨x, i, j, rfl, rfl⟩)
  · exact .inr (.inr ⟨i, j, rfl, rfl⟩)
theorem sim_map {ms ms' : MS} (h : SimM ms ms') {s s' : Sc} (hs : SimS s s') (m : Str) : ∀ {rs rs' : List MR}, Paired SimR rs rs' → Paired SimR (rs.map (fullRow ms s m)) (rs'.map (fullRow ms' s' m))
  | _, _, .nil => .nil
  | _, _, .cons k t => .cons (sim_full h hs m k) (sim_map h hs m t)
theorem sim_rin {ms ms' : MS} (h : SimM ms ms') {s s' : Sc} (hs : SimS s s') (m : Str) : ∀ {ps ps' : List MP} {l l' : List (Str × List MR)}, Paired SimP ps ps' → SimK (Paired SimR) l l' → SimK (Paired SimR) (ps.foldl (rIn ms s m) l) (ps'.foldl (rIn ms' s' m) l')
  | _, _, l, l', .nil, k => k
  | _, _, l, l', .cons k t, q => by
    rw [List.foldl_cons, List.foldl_cons]
    exact sim_rin h hs m t (by unfold rIn; rw [k.1]; exact q.put _ (sim_map h hs m k.2.2))
theorem sim_rowsGo {ms ms' : MS} (h : SimM ms ms') {s s' : Sc} (hs : SimS s s') : ∀ {ns ns' : MS} {l l' : List (Str × List MR)}, SimM ns ns' → SimK (Paired SimR) l l' → SimK (Paired SimR) (ns.foldl (fun l m => m.2.ps.foldl (rIn ms s m.1) l) l) (ns'.foldl (fun l m => m.2.ps.foldl (rIn ms' s' m.1) l) l')
  | _, _, l, l', .nil, k => k
  | _, _, l, l', .cons (a := a) (b := b) k t, q => by
    rw [List.foldl_cons, List.foldl_cons]
    exact sim_rowsGo h hs t (by rw [← k.1]; exact sim_rin h hs a.1 k.2.ps q)
theorem sim_rowsM {ms ms' : MS} (h : SimM ms ms') {s s' : Sc} (hs : SimS s s') : SimK (Paired SimR) (rowsOfM ms s ms) (rowsOfM ms' s' ms') := sim_rowsGo h hs h .nil
theorem sim_taken (k : Str) {rs rs' : List MR} (h : Paired SimR rs rs') : takenOf k rs = takenOf k rs' := by
  unfold takenOf
  have e : ∀ {r r' : MR}, SimR r r' → tookD r = tookD r' ∧ tookI r = tookI r' := fun {r r'} h => by
    rcases h with rfl | ⟨x, i, j, rfl, rfl⟩ | ⟨i, j, rfl, rfl⟩
    · exact ⟨rfl, rfl⟩
    · refine ⟨rfl, ?_⟩
      show (if ("set" : Str) = "addr" then nameAt [V.str "set", x, .int i] 2 else none) = (if ("set" : Str) = "addr" then nameAt [V.str "set", x, .int j] 2 else none)
      rw [if_neg (by decide), if_neg (by decide)]
    · exact ⟨rfl, rfl⟩
  split
  · induction h with
    | nil => rfl
    | cons h _ ih => rw [List.filterMap_cons, List.filterMap_cons, (e h).1, ih]
  · induction h with
    | nil => rfl
    | cons h _ ih => rw [List.filterMap_cons, List.filterMap_cons, (e h).2, ih]
/-- the same program, but for the number -/
def Pr.on (p : Pr) (ms : MS) : Pr := ⟨ms, p.entry, p.pieces, p.taken⟩
theorem sim_pnames {p : Pr} {ms : MS} (h : SimM p.ms ms) : p.names = (p.on ms).names := by
  unfold Pr.names
  show _ = (p.pieces.map fun f => takenOf ((p.on ms).kind f) ((p.on ms).row f)).flatten
  congr 1
  refine List.map_congr_left fun f _ => ?_
  have e1 : p.kind f = (p.on ms).kind f := by
    unfold Pr.kind Pr.kinds
    rw [show kindsOf p.ms = kindsOf (p.on ms).ms from sim_kinds h]
  rw [e1]
  refine sim_taken _ ?_
  unfold Pr.row
  rcases (sim_rowsM h (sim_sc h)).look f with ⟨q1, q2⟩ | ⟨x, y, q1, q2, r⟩
  · rw [show look p.rows f = none from q1, show look (p.on ms).rows f = none from q2]
    exact .nil
  · rw [show look p.rows f = some x from q1, show look (p.on ms).rows f = some y from q2]
    exact r
end PG

set_option Elab.async false
set_option linter.all false
set_option maxRecDepth 100000
set_option maxHeartbeats 4000000
/-! Programs known but for a number: what is worked out at one number holds at each. -/
namespace PG
open PySem PySem.Spec PyProof.Rows L2 L2.FK FS TX
abbrev WS := List (Str × List (List Str))
def parseAll : WS → Option MS
  | [] => some []
  | w :: r => match parseW w.2 with
    | .error _ => none
    | .ok st => match parseAll r with
      | none => none
      | some ms => some ((w.1, st) :: ms)
def wdOf (W : WS) (m : Str) : List (List Str) := (look W m).getD []
theorem parseT_eq (t : Str) : parseT t = parseW (rowsOf t) := rfl
theorem sim_all {mods : List (Str × Str)} : ∀ {W : WS} {ms0 : MS}, parseAll W = some ms0 → (∀ w ∈ W, ∃ t, look mods w.1 = some t ∧ Paired SimW w.2 (rowsOf t)) → ∃ ms, SimM ms0 ms ∧ (∀ q ∈ ms, ∃ t, look mods q.1 = some t ∧ parseT t = .ok q.2)
  | [], ms0, h, _ => by
    cases h
    exact ⟨[], .nil, fun q h => nomatch h⟩
  | w :: r, ms0, h, k => by
    unfold parseAll at h
    split at h
    · cases h
    · rename_i st q
      split at h
      · cases h
      · rename_i ms1 q1
        cases h
        obtain ⟨ms, s1, s2⟩ := sim_all q1 fun x hx => k x (List.mem_cons_of_mem _ hx)
        obtain ⟨t, t1, t2⟩ := k w (List.mem_cons_self ..)
        obtain ⟨st', p1, p2⟩ := sim_parse q t2
        refine ⟨(w.1, st') :: ms, .cons ⟨rfl, p2⟩ s1, fun q hq => ?_⟩
        rcases List.mem_cons.mp hq with e | hq
        · rw [e]
          exact ⟨t, t1, p1⟩
        · exact s2 q hq
theorem all_keys : ∀ {W : WS} {ms0 : MS}, parseAll W = some ms0 → keys ms0 = keys W
  | [], ms0, h => by
    cases h
    rfl
  | w :: r, ms0, h => by
    unfold parseAll at h
    split at h
    · cases h
    · split at h
      · cases h
      · rename_i ms1 q1
        cases h
        show w.1 :: keys ms1 = w.1 :: keys r
        rw [all_keys q1]
theorem sim_tot : ∀ {ms ms' : MS}, SimM ms ms' → tot ms = tot ms'
  | _, _, .nil => rfl
  | _, _, .cons k t => by
    rw [tot_cons, tot_cons, sim_tot t, k.2.al, k.2.ex, Paired.length k.2.ps]
theorem look_of_mem {κ β : Type} [DecidableEq κ] : ∀ {l : List (κ × β)} {p : κ × β}, (keys l).Nodup → p ∈ l → look l p.1 = some p.2
  | [], _, _, h => nomatch h
  | x :: r, p, nd, h => by
    have nd' := List.nodup_cons.mp nd
    unfold look
    rcases List.mem_cons.mp h with e | h
    · rw [e, if_pos rfl]
    · rw [if_neg (fun e => nd'.1 (by show x.1 ∈ keys r; rw [e]; exact List.mem_map_of_mem h))]
      exact look_of_mem nd'.2 h
/-- the modules at hand are those of W, but for a number -/
structure Known (mods : List (Str × Str)) (W : WS) : Prop where
  name : ∀ p ∈ mods, isName p.1 = true
  fit : ∀ p ∈ mods, FitT p.2
  nd : (keys mods).Nodup
  few : mods.length < 64
  srt : sortedS (keys W) = true
  perm : (keys W).Perm (keys mods)
  words : ∀ w ∈ W, ∃ t, look mods w.1 = some t ∧ Paired SimW w.2 (rowsOf t)
/-- .. as Program takes them -/
structure At (mods : List (Str × Str)) (W : WS) (ms0 ms : MS) : Prop where
  sim : SimM ms0 ms
  ok : ModsOk mods ms
  pin : PrIn mods ms
  bad : badMod ms (scOf ms) mods ms = badW ms0 (scOf ms0) (wdOf W) (keys W)
theorem Known.at {mods : List (Str × Str)} {W : WS} (k : Known mods W) {ms0 : MS} (h : parseAll W = some ms0) (ht : tot ms0 ≤ 800) : ∃ ms, At mods W ms0 ms := by
  obtain ⟨ms, s1, s2⟩ := sim_all h k.words
  have ek := all_keys h
  have e2 := sim_keys s1
  have ok : ModsOk mods ms := ⟨k.name, k.fit, k.nd, k.few, by rw [← e2, ek]; exact k.srt, by rw [← e2, ek]; exact k.perm, s2⟩
  refine ⟨ms, s1, ok, prIn_of ok (by rw [← sim_tot s1]; exact ht), ?_⟩
  rw [badMod_eq, ← e2, ek]
  refine (sim_badW s1 (sim_sc s1) fun m hm => ?_).symm
  obtain ⟨p, hp, e⟩ := List.mem_map.mp hm
  obtain ⟨t, t1, t2⟩ := k.words p hp
  have ndW : (keys W).Nodup := k.perm.nodup_iff.mpr k.nd
  rw [← e, text_of t1]
  unfold wdOf
  rw [look_of_mem ndW hp]
  exact t2
/-- a right program, worked out -/
structure Fin0 (W : WS) (p : Pr) (z : Str) : Prop where
  par : parseAll W = some p.ms
  tot : tot p.ms ≤ 800
  bad : badW p.ms p.s (wdOf W) (keys W) = none
  ent : findEntry p.ms p.s z = some p.entry
  mean : (exps p.s z).all (fun y => (meaning p.ms p.s y z).isSome) = true
  srt : sortedS p.pieces = true
  perm : p.pieces.isPerm (keys p.s.pc) = true
  few : p.pieces.length ≤ 12
  tsrt : sortedS p.taken = true
  tnd : p.taken.Nodup
  tin : p.taken.all (fun x => p.names.contains x) = true
  tall : p.names.all (fun x => p.taken.contains x) = true
  nfew : p.names.length < 64
  tfew : p.taken.length ≤ 6
theorem Fin0.fin {mods : List (Str × Str)} {W : WS} {p : Pr} {z : Str} (f : Fin0 W p z) {ms : MS} (a : At mods W p.ms ms) :
    badMod ms (scOf ms) mods ms = none ∧ (∀ y r, look (scOf ms).ex z = some (y :: r) → (meaning ms (scOf ms) y z).isSome = true) ∧ findEntry ms (scOf ms) z = some p.entry ∧ PrFin (p.on ms) z := by
  have hb : badMod ms (scOf ms) mods ms = none := a.bad.trans f.bad
  have ss := sim_sc a.sim
  have he : findEntry ms (scOf ms) z = some p.entry := (sim_entry a.sim ss z).symm.trans f.ent
  have ep : keys p.s.pc = keys (scOf ms).pc := ss.pc.keys
  have hp : p.pieces.Perm (keys (scOf ms).pc) := by
    rw [← ep]
    exact List.isPerm_iff.mp f.perm
  have en := sim_pnames a.sim
  refine ⟨hb, fun y r e => ?_, he, he, f.srt, hp, f.few, fun x hx => res_of a.ok hb (hp.mem_iff.mp hx), f.tsrt, f.tnd, fun x => ?_, ?_, f.tfew⟩
  · rw [← sim_mean a.sim ss]
    have hy : y ∈ exps p.s z := by
      unfold exps
      rw [show p.s.ex = (scOf ms).ex from ss.ex, e]
      exact List.mem_cons_self ..
    exact List.all_eq_true.mp f.mean y hy
  · rw [← en]
    exact ⟨fun h => List.contains_iff_mem.mp (List.all_eq_true.mp f.tin x h), fun h => List.contains_iff_mem.mp (List.all_eq_true.mp f.tall x h)⟩
  · rw [← en]
    exact f.nfew
theorem on_mean {mods : List (Str × Str)} {W : WS} {p : Pr} {ms : MS} (a : At mods W p.ms ms) (m z : Str) : pMean (p.on ms) m z = pMean p m z := by
  unfold pMean
  show (if isName z && (keys ms).contains m then meaning ms (scOf ms) m z else none) = _
  rw [← sim_keys a.sim, ← sim_mean a.sim (sim_sc a.sim)]
  rfl
theorem on_kind {mods : List (Str × Str)} {W : WS} {p : Pr} {ms : MS} (a : At mods W p.ms ms) : (p.on ms).kinds = p.kinds := (sim_kinds a.sim).symm
theorem on_rows {mods : List (Str × Str)} {W : WS} {p : Pr} {ms : MS} (a : At mods W p.ms ms) : SimK (Paired SimR) p.rows (p.on ms).rows := sim_rowsM a.sim (sim_sc a.sim)
end PG

set_option Elab.async false
set_option linter.all false
set_option maxRecDepth 100000
set_option maxHeartbeats 4000000
/-! Texts made of rows. -/
namespace PG
open PySem PySem.Spec PyProof.Rows L2 L2.FK FS TX
def NL : Str := "\n"
def rowW (r : Str) : List Str := Txt.split r " "
theorem tl_NL : TL.tl NL = 10 :: [] := by decide +kernel
theorem split_rows {R : List Str} (ne : R ≠ []) (h : ∀ r ∈ R, r.cps.toList.contains 10 = false) : Txt.split (Txt.join NL R) NL = R :=
  TL.split_join tl_NL (by decide +kernel) ne fun p hp m => by
    have := h p hp
    rw [List.contains_iff_mem.mpr m] at this
    cases this
theorem joinL_len (S : List Nat) : ∀ ps : List (List Nat), (TL.joinL S ps).length ≤ (ps.map List.length).sum + ps.length * S.length
  | [] => Nat.zero_le _
  | [p] => by
    show p.length ≤ _
    simp
  | p :: q :: r => by
    have ih := joinL_len S (q :: r)
    show (p ++ (S ++ TL.joinL S (q :: r))).length ≤ _
    rw [List.length_append, List.length_append, List.map_cons, List.sum_cons, List.length_cons, Nat.succ_mul]
    omega
theorem join_len (R : List Str) : (Txt.join NL R).length ≤ (R.map (·.length)).sum + R.length := by
  rw [TL.join_eq]
  have h1 : (NL.join R).length = (TL.tl (NL.join R)).length := (Array.length_toList).symm
  rw [h1, TL.tl_join, tl_NL]
  have := joinL_len [10] (R.map TL.tl)
  rw [List.map_map, List.length_map] at this
  have e : (List.length ∘ TL.tl) = fun z : Str => z.length := funext fun z => Array.length_toList
  rw [e] at this
  simpa using this
/-- a row that is not too long -/
def rowOK (r : Str) : Bool := decide (r.length ≤ 100) && !r.cps.toList.contains 10 && decide (r ≠ "") && (rowW r).all (fun z => PyData.strOk z && decide (z.length ≤ 100)) && decide (rowW r ≠ []) && decide ((rowW r).length ≤ 10)
structure RowFine (r : Str) : Prop where
  len : r.length ≤ 100
  nl : r.cps.toList.contains 10 = false
  ne : r ≠ ""
  wd : ∀ z ∈ rowW r, PyData.strOk z = true ∧ z.length ≤ 100
  wn : rowW r ≠ []
  wl : (rowW r).length ≤ 10
theorem fine_of {r : Str} (h : rowOK r = true) : RowFine r := by
  unfold rowOK at h
  simp only [Bool.and_eq_true, decide_eq_true_eq, Bool.not_eq_true', List.all_eq_true] at h
  obtain ⟨⟨⟨⟨⟨h1, h2⟩, h3⟩, h4⟩, h5⟩, h6⟩ := h
  exact ⟨h1, h2, h3, fun z hz => ⟨(h4 z hz).1, (h4 z hz).2⟩, h5, h6⟩
theorem sum_le {α : Type} (f : α → Nat) (c : Nat) : ∀ {xs : List α}, (∀ x ∈ xs, f x ≤ c) → (xs.map f).sum ≤ xs.length * c
  | [], _ => Nat.zero_le _
  | x :: r, h => by
    have h1 := h x (List.mem_cons_self ..)
    have h2 := sum_le f c fun y hy => h y (List.mem_cons_of_mem _ hy)
    rw [List.map_cons, List.sum_cons, List.length_cons, Nat.succ_mul]
    omega
theorem rowsOf_join {R : List Str} (ne : R ≠ []) (h : ∀ r ∈ R, RowFine r) : rowsOf (Txt.join NL R) = R.map rowW := by
  have e := split_rows ne fun r hr => (h r hr).nl
  unfold rowsOf
  by_cases q : Txt.join NL R = ""
  · rw [q] at e
    have : Txt.split ("" : Str) NL = [("" : Str)] := by decide +kernel
    rw [this] at e
    exact absurd rfl (h "" (by rw [← e]; exact List.mem_cons_self ..)).ne
  · rw [if_neg q]
    show (Txt.split (Txt.join NL R) NL).map rowW = _
    rw [e]
theorem fitT_join {R : List Str} (ne : R ≠ []) (h : ∀ r ∈ R, RowFine r) (few : R.length ≤ 100) : FitT (Txt.join NL R) := by
  have e := split_rows ne fun r hr => (h r hr).nl
  have er := rowsOf_join ne h
  have hl := join_len R
  have hs := sum_le (fun z : Str => z.length) 100 fun r hr => (h r hr).len
  have big : sizeLine = 16777216 := rfl
  refine ⟨⟨?_, fun r hr => ?_⟩, fun ws hw => ?_, ?_, ?_⟩
  · rw [big]
    omega
  · have hr : r ∈ Txt.split (Txt.join NL R) NL := hr
    rw [e] at hr
    have := (h r hr).len
    rw [big]
    omega
  · rw [er] at hw
    obtain ⟨r, hr, rfl⟩ := List.mem_map.mp hw
    exact ⟨(h r hr).wn, fun z hz => ⟨by have := ((h r hr).wd z hz).2; unfold Wd; rw [big]; omega, ((h r hr).wd z hz).1⟩⟩
  · rw [er]
    unfold total
    have := sum_le (List.length) 10 (xs := R.map rowW) fun ws hw => by
      obtain ⟨r, hr, rfl⟩ := List.mem_map.mp hw
      exact (h r hr).wl
    rw [List.length_map] at this
    rw [big]
    omega
  · rw [er, List.length_map]
    omega
end PG

set_option Elab.async false
set_option linter.all false
set_option maxRecDepth 100000
set_option maxHeartbeats 4000000
/-! == and != by an own __eq__, whatever that answers. -/
namespace FS
open PySem PySem.Spec PyProof.Rows L2
section
variable {prog : Program} {w : World} {A : Around} {E : Value → Shared → Prop} {s : Shared} {K : PySem.W.Frag} {x y C f L : Addr} {h₀ : Heap} {m : Str → Option Value} {ox : Obj} {od : Option Obj}
theorem ne_body {Q : Fin → Shared → Prop} (hu : A.units < cLine) (X : K.In s.heap) (I : PySem.W.InstAt s.heap x ox C od) (hs : PySem.W.findIn K (.ref C) "__eq__" = some (some (.ref f))) (hf : PySem.W.isFn K (.ref f) = true)
    (hc : wpAny (model prog w) A (call (.ref f) [.ref x, .ref y]) (fun v s' => ∃ b, v = .bool b ∧ Q (.done (.ret (.bool (!b)))) s') E s) :
    wpAny (model prog w) A (Builtin.«object.__ne__» ⟨[.ref x, .ref y], []⟩) Q E s := by
  unfold Builtin.«object.__ne__»
  repeat (first
    | with_reducible refine wpAny_cRoomFor hu ?_
    | (refine wpAny_bind (m := callSpecialIfBound? (.ref x) (Str.ofString "__eq__") [.ref y])
        (PySem.W.ifBound_K X I hs hf (wpAny_mono hc (fun r s' hr => by
          obtain ⟨b, e, z⟩ := hr
          subst e
          repeat (first | exact z | exact wpAny_pure z | exact wpAny_truthy_bool z | (refine wpAny_bind (m := truthy (.bool _)) (wpAny_truthy_bool ?_)) | wp_step)) fun _ _ e => e)))
    | wp_step)
theorem ne_bound {args : List Value} {Q : Option Value → Shared → Prop} (X : K.In s.heap) (I : PySem.W.InstAt s.heap x ox C od) (hs : PySem.W.findIn K (.ref C) "__ne__" = some (some (.builtin "object.__ne__")))
    (hc : wpAny (model prog w) A (call (.builtin "object.__ne__") (.ref x :: args)) (fun v => Q (some v)) E s) : wpAny (model prog w) A (callSpecialIfBound? (.ref x) "__ne__" args) Q E s := by
  have rest : wpAny (model prog w) A (call (.builtin "object.__ne__") ([.ref x] ++ args) >>= fun v => pure (some v)) Q E s := wpAny_bind (wpAny_mono hc (fun v s' q => wpAny_pure q) fun _ _ q => q)
  simp only [callSpecialIfBound?, bindSpecialIfBound?]
  apply wpAny_holding
  apply wpAny_bind
  apply wpAny_bind
  apply wpAny_bind
  refine I.type.here ((PySem.W.looks_findIn X hs).here ?_)
  apply wpAny_bind
  apply wpAny_askSetting
  apply wpAny_ite
  split
  · exact wpAny_bind (wpAny_of_eq (F.cmp_object.ne.bind _) (wpAny_pure (by exact rest)))
  · exact wpAny_tryCatch (wpAny_bind (wpAny_of_eq (F.cmp_object.ne.bind _) (wpAny_pure (by exact rest))))
theorem ne_rich {Q : Value → Shared → Prop} (hu : A.units + 1 < cLine) (X : K.In s.heap) (I : PySem.W.InstAt s.heap x ox C od) (hy : PySem.W.Looks (model prog w) s.heap (typeOf (.ref y)) (.ref C))
    (hm : PySem.W.mroIn K C (.type "object") = some true) (hn : PySem.W.findIn K (.ref C) "__ne__" = some (some (.builtin "object.__ne__"))) (hs : PySem.W.findIn K (.ref C) "__eq__" = some (some (.ref f))) (hf : PySem.W.isFn K (.ref f) = true)
    (hc : wpAny (model prog w) A.in1 (call (.ref f) [.ref x, .ref y]) (fun v s' => ∃ b, v = .bool b ∧ Q (.bool (!b)) s') E s) : wpAny (model prog w) A (richCompare .NotEq (.ref x) (.ref y)) Q E s := by
  have one : wpAny (model prog w) A (tryCompare (.ref x) "__ne__" (.ref y)) (fun r s' => ∃ b, r = some (.bool b) ∧ Q (.bool b) s') E s := by
    unfold tryCompare
    apply wpAny_bind
    refine ne_bound X I hn ?_
    refine wpAny_call (codeAny_call_builtin F.cmp_object.ne.plain F.cmpEntry_ne (PySem.W.check_slot F.cmpKind_ne F.cmpSplit_ne (I.type.andThen (PySem.W.looks_mroIn X hm)) (F.cmpArgs_ne _ _) (ne_body (A := A.in1) (f := f) ?_ X I hs hf (wpAny_mono hc (fun v s' q => ?_) fun _ _ q => q))))
    · show A.units + 1 < cLine
      exact hu
    · obtain ⟨b, e, z⟩ := q
      exact ⟨b, e, wpAny_pure ⟨_, rfl, z⟩⟩
  unfold richCompare
  simp only [oneThing_ref]
  apply wpAny_holding
  apply wpAny_bind
  refine wpAny_cRoomFor (Nat.lt_of_succ_lt hu) ?_
  rw [cmpInfo_NotEq]
  dsimp only
  apply wpAny_bind
  refine I.type.here ?_
  apply wpAny_bind
  refine hy.here ?_
  split
  · rename_i z
    simp at z
  · apply wpAny_bind
    apply wpAny_pure
    simp only [Bool.false_eq_true, if_false]
    apply wpAny_bind
    refine wpAny_mono one (fun r s' q => ?_) fun _ _ q => q
    obtain ⟨b, e, z⟩ := q
    subst e
    exact wpAny_pure z
end
section
variable {X : Cx} {n : Nat} {C f : Addr} {fd : FuncData} {ps : List Str} {sp : Sp} {CX : CXT} {E : XK}
def rEqO (C : Addr) (sp : Sp) (E : XK) (g : Bool → Bool) : R2 := fun x y H Q => ∃ a b dx dy fs gs, x = .ref a ∧ y = .ref b ∧ H a = some (.ins C dx fs) ∧ H b = some (.ins C dy gs) ∧ sp [.ref a, .ref b] H (fun v H' => ∃ c, v = .bl c ∧ Q (.bl (g c)) H') E
/-- the own == runs -/
theorem run_eqO {A : Around} {pins : List (Addr × Obj)} {s : Shared} {σ : L2.St} {H : Hp} {a b : Addr} {Z : V → Hp → Prop} (F : FnOk X.prog X.w X.K X.mg X.base CX n f fd ps sp) (hb : Binds X.K fd ps []) (hx : Passes CX X E) (room : Room n A) (fr : A.frames = X.A.frames)
    (I : Inv X pins σ H s) (q : sp [.ref a, .ref b] H Z E) : wpAny (model X.prog X.w) A (call (.ref f) [.ref a, .ref b]) (EP X pins σ Z) X.xe s := by
  have r2 : Vals [V.ref a, V.ref b] [Value.ref a, Value.ref b] := .cons rfl (.cons rfl .nil)
  have hl := F.len _ _ _ _ q
  have e0 : Env0 X.prog X.w X.K X.mg X.base A X.stack s H := by
    have e := I.env0
    exact ⟨by rw [fr]; exact e.frames, e.mod, e.bs, e.bsz, e.funs, e.frf, e.hok, e.bare⟩
  have bd := hb s [.ref a, .ref b] I.kIn (by rw [List.append_nil]; exact hl)
  rw [List.append_nil] at bd
  refine wpAny_call (codeAny_mono (F.run A X.stack s H ⟨[.ref a, .ref b], []⟩ _ _ Z E room e0 bd r2 q) fun r s' o => ?_)
  match r, o with
  | .error er, o => exact hx pins σ H s er s' I o
  | .ok (.ret u), o => exact I.after o
  | .ok .next, o => exact o.elim
  | .ok .brk, o => exact o.elim
  | .ok .cont, o => exact o.elim
theorem op_eqO (F : FnOk X.prog X.w X.K X.mg X.base CX n f fd ps sp) (hs : PySem.W.findIn X.K (.ref C) "__eq__" = some (some (.ref f))) (hf : PySem.W.isFn X.K (.ref f) = true) (hb : Binds X.K fd ps []) (hx : Passes CX X E) (hr : Room n X.A) :
    OpR X (compareOp .Eq) (rEqO C sp E id) := by
  intro pins s σ H x y v u Q I rx ry hq
  obtain ⟨a, b, dx, dy, fs, gs, rfl, rfl, ha, hb', q⟩ := hq
  cases rx
  cases ry
  obtain ⟨mA, J, _⟩ := ins_get I.hok ha
  obtain ⟨mB, J', _⟩ := ins_get I.hok hb'
  obtain ⟨od, J, _⟩ := J.look
  obtain ⟨od', J', _⟩ := J'.look
  obtain ⟨m, hF⟩ := I.fr
  show wpAny (model X.prog X.w) X.A (richCompare .Eq (.ref a) (.ref b)) (EP X pins σ Q) X.xe s
  refine PySem.W.cmp_K (op := .Eq) (tb := .ref C) hr.units0 hF I.ok.mod.kin J J'.type (by simp [PySem.W.notFirst]) hs hf ?_
  refine thn (run_eqO F hb hx hr rfl I q) fun z s' ⟨v1, H', I', rz, c, ec, qc⟩ => ?_
  subst ec
  cases rz
  exact ⟨.bl c, H', I', rfl, qc⟩
theorem op_neO (F : FnOk X.prog X.w X.K X.mg X.base CX n f fd ps sp) (hm : PySem.W.mroIn X.K C (.type "object") = some true) (hn : PySem.W.findIn X.K (.ref C) "__ne__" = some (some (.builtin "object.__ne__"))) (hs : PySem.W.findIn X.K (.ref C) "__eq__" = some (some (.ref f))) (hf : PySem.W.isFn X.K (.ref f) = true)
    (hb : Binds X.K fd ps []) (hx : Passes CX X E) (hr : Room (n + 1) X.A) : OpR X (compareOp .NotEq) (rEqO C sp E (!·)) := by
  intro pins s σ H x y v u Q I rx ry hq
  obtain ⟨a, b, dx, dy, fs, gs, rfl, rfl, ha, hb', q⟩ := hq
  cases rx
  cases ry
  obtain ⟨mA, J, _⟩ := ins_get I.hok ha
  obtain ⟨mB, J', _⟩ := ins_get I.hok hb'
  obtain ⟨od, J, _⟩ := J.look
  obtain ⟨od', J', _⟩ := J'.look
  show wpAny (model X.prog X.w) X.A (richCompare .NotEq (.ref a) (.ref b)) (EP X pins σ Q) X.xe s
  refine ne_rich (f := f) (Nat.lt_of_le_of_lt (Nat.add_le_add_left (by decide : 1 ≤ 64) _) hr.units) I.kIn J J'.type hm hn hs hf ?_
  refine thn (run_eqO F hb hx hr.in1 rfl I q) fun z s' ⟨v1, H', I', rz, c, ec, qc⟩ => ?_
  subst ec
  cases rz
  exact ⟨c, rfl, .bl (!c), H', I', rfl, qc⟩
end
end FS

set_option Elab.async false
set_option linter.all false
set_option maxRecDepth 100000
set_option maxHeartbeats 4000000
/-! == of dicts that hold the same data. -/
namespace FS
open PySem PySem.Spec PyProof.Rows L2
def SameD (K : PySem.W.Frag) (H : Hp) (x y : V) : Prop := ∃ d, Dp K H x d ∧ Dp K H y d ∧ SeqAt.shaped d = true
def rEqDD (K : PySem.W.Frag) : R2 := fun x y H Q => ∃ a b ks ls, x = .ref a ∧ y = .ref b ∧ Rd H a (.dK ks) ∧ Rd H b (.dK ls) ∧ ks.length = ls.length ∧ (∀ p ∈ ks, ∃ u, valV ls p.1 = some u ∧ SameD K H p.2 u) ∧ Q (.bl true) H
theorem op_eqDD {X : Cx} {n : Nat} (hr : Room (n + 1) X.A) : OpR X (compareOp .Eq) (rEqDD X.K) := by
  rintro pins s σ H x y v u Q I rx ry ⟨a, b, ks, ls, rfl, rfl, ha, hb, hl, hp, q⟩
  cases rx
  cases ry
  obtain ⟨_, ya, va, ra, da⟩ := dk_rd I.hok ha
  obtain ⟨_, yb, vb, rb, db⟩ := dk_rd I.hok hb
  have same : ∀ x y v u, SameD X.K H x y → RelV x v → RelV y u → SeqAt.EqP X.prog X.w X.A.in1 s v u true := by
    rintro x y v u ⟨d, h1, h2, h3⟩ r1 r2
    obtain ⟨as, z1⟩ := Dp.reads I d x v h1 r1
    obtain ⟨bs, z2⟩ := Dp.reads I d y u h2 r2
    have e := PySem.W.keq_at (A := X.A) z1 z2 h3 h3 hr.in1.units
    rw [SeqAt.eqv_refl d (SeqAt.canLay_of_shaped h3)] at e
    exact e.eqP
  refine PySem.W.rcP_dicts (knd := mixKind X.prog X.w) (r := true) ya yb da db hr.units0 (fun _ => hits_run same rb ra hp) _ _ ?_
  have e : va.length = vb.length := by rw [← ra.length, ← rb.length]; exact hl
  rw [show (va.length == vb.length && true) = true by rw [e]; simp]
  exact ⟨.bl true, H, I, rfl, q⟩
end FS

set_option Elab.async false
set_option linter.all false
set_option maxRecDepth 100000
set_option maxHeartbeats 4000000
/-! Programs compared. -/
namespace PG
open PySem PySem.Spec PyProof.Rows L2 L2.FK FS TX
def FlatV (v : V) : Prop := (∃ z, v = .str z) ∨ ∃ i, v = .int i
def FlatR : MR → Prop
  | .ins xs => ∀ x ∈ xs, FlatV x
  | .dat v => FlatV v
def dV : V → PyData
  | .str z => .str z
  | .int i => .int i
  | _ => .none
def rowD : MR → PyData
  | .ins xs => .tuple (xs.map dV)
  | .dat v => dV v
def rowsD (rs : List MR) : PyData := .tuple (rs.map rowD)
section
variable {K : PySem.W.Frag} {H : Hp}
theorem dp_flat {v : V} (h : FlatV v) : Dp K H v (dV v) := by
  rcases h with ⟨z, rfl⟩ | ⟨i, rfl⟩
  · exact .str z
  · exact .int i
theorem dp_flats : ∀ {xs : List V}, (∀ x ∈ xs, FlatV x) → DpAll K H xs (xs.map dV)
  | [], _ => .nil
  | x :: r, h => .cons (dp_flat (h x (List.mem_cons_self ..))) (dp_flats fun y hy => h y (List.mem_cons_of_mem _ hy))
theorem dp_row {r : MR} {v : V} (h : RowAt H r v) (f : FlatR r) : Dp K H v (rowD r) := by
  cases r with
  | ins xs =>
    obtain ⟨q, rfl, e⟩ := h
    exact .tup (SqT.of e) (dp_flats f)
  | dat d =>
    have h : v = d := h
    rw [h]
    exact dp_flat f
theorem dp_rowl : ∀ {rs : List MR} {vs : List V}, Paired (RowAt H) rs vs → (∀ r ∈ rs, FlatR r) → DpAll K H vs (rs.map rowD)
  | _, _, .nil, _ => .nil
  | _, _, .cons h t, f => .cons (dp_row h (f _ (List.mem_cons_self ..))) (dp_rowl t fun y hy => f y (List.mem_cons_of_mem _ hy))
theorem dp_rowsG {rs : List MR} {v : V} (h : RowsR H rs v) (f : ∀ r ∈ rs, FlatR r) : Dp K H v (rowsD rs) := by
  obtain ⟨t, ts, rfl, e, p⟩ := h
  exact .tup (SqT.of e) (dp_rowl p f)
theorem paired_memR {α β : Type} {R : α → β → Prop} {l : List α} {m : List β} (h : Paired R l m) : ∀ y ∈ m, ∃ x ∈ l, R x y := by
  induction h with
  | nil => intro y hy; cases hy
  | @cons a b l m k t ih =>
    intro y hy
    rcases List.mem_cons.mp hy with e | hy
    · rw [e]; exact ⟨a, List.mem_cons_self .., k⟩
    · obtain ⟨x, h1, h2⟩ := ih y hy
      exact ⟨x, List.mem_cons_of_mem _ h1, h2⟩
theorem dr_same {β : Type} {R : β → V → Prop} {l : List (Str × β)} {kvs kvs' : List (Key × V)} (h : DR kS R l kvs) (h' : DR kS R l kvs') (nd : (keys l).Nodup) (f : ∀ p ∈ l, ∀ v v', R p.2 v → R p.2 v' → SameD K H v v') :
    kvs.length = kvs'.length ∧ ∀ q ∈ kvs, ∃ u, valV kvs' q.1 = some u ∧ SameD K H q.2 u := by
  refine ⟨h.len.symm.trans h'.len, fun q hq => ?_⟩
  obtain ⟨p, hp, e1, e2⟩ := paired_memR h q hq
  obtain ⟨v, g1, g2⟩ := h'.get kS_in (look_of_mem nd hp)
  exact ⟨v, by rw [e1]; exact g1, f p hp _ _ e2 g2⟩
end
theorem kit_self {K : PySem.W.Frag} {C : Addr} : PySem.W.kitOne K (.ref C) (.ref C) = some true := by
  unfold PySem.W.kitOne
  rw [if_pos (by simp)]
structure TEq (K : PySem.W.Frag) (mg : Str → Option Value) (CPr : Addr) : Prop where
  gP : mg "Program" = some (.ref CPr)
  zi : mg "isinstance" = none
  cC : PySem.W.findIn K (.ref CPr) "__class__" = some (some (.builtin "object.__class__"))
  hn : PySem.W.specialIn K (.builtin "object.__class__") "__get__" = some (some (.builtin "getset_descriptor.__get__"))
  ht : PySem.W.takesIn K (.builtin "object.__class__") = some true
  hm : PySem.W.mroIn K CPr (.type "object") = some true
/-- what makes two programs comparable: the same but for the entry, of plain values -/
structure PrEq (p p' : Pr) : Prop where
  pie : p.pieces = p'.pieces
  kin : p.kinds = p'.kinds
  row : p.rows = p'.rows
  nd1 : (keys p.kinds).Nodup
  nd2 : (keys p.rows).Nodup
  sh0 : SeqAt.shaped (.tuple (p.pieces.map PyData.str)) = true
  sh1 : ∀ q ∈ p.kinds, SeqAt.shaped (.str q.2) = true
  sh2 : ∀ q ∈ p.rows, SeqAt.shaped (rowsD q.2) = true ∧ ∀ r ∈ q.2, FlatR r
section
variable {P : Program} {w : World} {K : PySem.W.Frag} {mg : Str → Option Value} {base : Heap} {CPr CS CM CP fSI : Addr}
def spPEq (CPr CS CM CP : Addr) : Sp := fun vs H Q _ => ∃ x y p p', vs = [.ref x, .ref y] ∧ ProgAt CPr CS CM CP H x p ∧ ProgAt CPr CS CM CP H y p' ∧
  ((p.entry ≠ p'.entry ∧ Q (.bl false) H) ∨ (p.entry = p'.entry ∧ PrEq p p' ∧ Q (.bl true) H))
theorem scPE : FnScope ["self", "other"] ["self", "other"] (defScope (sProg 9)) := ⟨rfl, rfl, rfl, by decide +kernel, rfl, by decide +kernel, by decide +kernel⟩
theorem ok_peq {f : Addr} {fd : FuncData} (F : Fun K "__eq__" "Program.__eq__" (sProg 9) f fd) (T : TPr K mg CPr CS CM CP fSI) (E1 : TEq K mg CPr) : FnOk P w K mg base CX0 2 f fd ["self", "other"] (spPEq CPr CS CM CP) := by
  refine F.ok scPE (fun vs H Q E h => ?_) (fun cdv A outer s H vs Q E hr h => ?_)
  · obtain ⟨x, y, p, p', rfl, _⟩ := h
    rfl
  · obtain ⟨x, y, p, p', rfl, hx, hy, h⟩ := h
    refine ⟨_, pss_one (ps_ret (pe_and (pe_callB call_isi (by rfl) E1.zi b_isi (pa_cons (pv 1) (pa_cons (pe_glob rfl E1.gP (v := .ref CPr) rfl) pa_nil)))
      (pe_and (pe_cmpR op_eq (pe_fld (pv 0) rfl) (pe_fld (pv 1) rfl) (nomark _))
      (pe_and (pe_cmpR (op_eqD hr.units) (pe_fld (pv 0) rfl) (pe_fld (pv 1) rfl) (nomark _))
      (pe_and (pe_cmpR (op_eqDD (n := 0) hr) (pe_fld (pv 0) rfl) (pe_fld (pv 1) rfl) (nomark _))
      (pe_one (pe_cmpR (op_eqDD (n := 0) hr) (pe_fld (pv 0) rfl) (pe_fld (pv 1) rfl) (nomark _)))))))), ?_⟩
    obtain ⟨dx, sc, dp, tp, dk, dr, tt, h1, h2, h3, ⟨k1, h4, h5⟩, ⟨r1, h6, h7⟩, h8⟩ := hx
    obtain ⟨dx', sc', dp', tp', dk', dr', tt', g1, g2, g3, ⟨k1', g4, g5⟩, ⟨r1', g6, g7⟩, g8⟩ := hy
    refine ⟨.ref y, rfl, .ref y, .ref CPr, .ref CPr, .ref CPr, true, rfl, .own CPr, .base (.ins g1 T.cPr E1.cC E1.hn E1.ht E1.hm), kit_self, true, rfl, iteT ?_⟩
    refine ⟨.ref x, rfl, x, CPr, dx, _, .str p.entry, rfl, h1, T.cPr, T.nEn, rfl, .ref y, rfl, y, CPr, dx', _, .str p'.entry, rfl, g1, T.cPr, T.nEn, rfl, rfl, _, rfl, ?_⟩
    rcases h with ⟨ne, q⟩ | ⟨eq, e, q⟩
    · rw [decide_eq_false fun z => ne (V.str.inj z)]
      exact iteF q
    · rw [decide_eq_true (congrArg V.str eq)]
      refine iteT ?_
      refine ⟨.ref x, rfl, x, CPr, dx, _, .ref tp, rfl, h1, T.cPr, T.nPi, rfl, .ref y, rfl, y, CPr, dx', _, .ref tp', rfl, g1, T.cPr, T.nPi, rfl, .tuple (p.pieces.map PyData.str), .tuple (p.pieces.map PyData.str), .tup (SqT.of h3) (dp_txs _), ?_, e.sh0, e.sh0, _, rfl, ?_⟩
      · rw [← e.pie] at g3
        exact .tup (SqT.of g3) (dp_txs _)
      rw [SeqAt.eqv_refl _ (SeqAt.canLay_of_shaped e.sh0)]
      refine iteT ?_
      rw [← e.kin] at g5
      obtain ⟨a1, a2⟩ := dr_same (K := K) (H := H) h5 g5 e.nd1 (fun q hq v v' r r' => ⟨.str q.2, by rw [r]; exact .str _, by rw [r']; exact .str _, e.sh1 q hq⟩)
      refine ⟨.ref x, rfl, x, CPr, dx, _, .ref dk, rfl, h1, T.cPr, T.nKi, rfl, .ref y, rfl, y, CPr, dx', _, .ref dk', rfl, g1, T.cPr, T.nKi, rfl, dk, dk', k1, k1', rfl, rfl, h4, g4, a1, a2, true, rfl, iteT ?_⟩
      rw [← e.row] at g7
      obtain ⟨b1, b2⟩ := dr_same (K := K) (H := H) h7 g7 e.nd2 (fun q hq v v' r r' => ⟨rowsD q.2, dp_rowsG r (e.sh2 q hq).2, dp_rowsG r' (e.sh2 q hq).2, (e.sh2 q hq).1⟩)
      exact ⟨.ref x, rfl, x, CPr, dx, _, .ref dr, rfl, h1, T.cPr, T.nRo, rfl, .ref y, rfl, y, CPr, dx', _, .ref dr', rfl, g1, T.cPr, T.nRo, rfl, dr, dr', r1, r1', rfl, rfl, h6, g6, b1, b2, q⟩
end
end PG

set_option Elab.async false
set_option linter.all false
set_option maxRecDepth 100000
set_option maxHeartbeats 0
/-! Known names: what is worked out. -/
namespace PG
open PySem PySem.Spec PyProof.Rows L2 L2.FK FS TX
/-! ### texts that are known whole -/
theorem simT_refl (st : ST) : SimT st st := by
  refine ⟨paired_refl (fun p => ⟨rfl, rfl, paired_refl (fun r => .inl rfl) _⟩) _, rfl, rfl, rfl, ?_⟩
  cases st.op with
  | none => exact True.intro
  | some o => exact ⟨rfl, rfl, rfl, paired_refl (fun r => .inl rfl) _⟩
theorem simM_refl (ms : MS) : SimM ms ms := paired_refl (fun q => ⟨rfl, simT_refl _⟩) ms
theorem exact_all {mods : List (Str × Str)} : ∀ {W : WS} {ms : MS}, parseAll W = some ms → (∀ w ∈ W, ∃ t, look mods w.1 = some t ∧ w.2 = rowsOf t) → ∀ q ∈ ms, ∃ t, look mods q.1 = some t ∧ parseT t = .ok q.2
  | [], ms, h, _ => by
    cases h
    exact fun q h => nomatch h
  | w :: r, ms, h, k => by
    unfold parseAll at h
    split at h
    · cases h
    · rename_i st q0
      split at h
      · cases h
      · rename_i ms1 q1
        cases h
        intro q hq
        rcases List.mem_cons.mp hq with e | hq
        · rw [e]
          obtain ⟨t, t1, t2⟩ := k w (List.mem_cons_self ..)
          refine ⟨t, t1, ?_⟩
          rw [parseT_eq, ← t2]
          exact q0
        · exact exact_all q1 (fun x hx => k x (List.mem_cons_of_mem _ hx)) q hq
theorem Known.exact {mods : List (Str × Str)} {W : WS} (k : Known mods W) {ms : MS} (h : parseAll W = some ms) (ht : tot ms ≤ 800) (x : ∀ w ∈ W, ∃ t, look mods w.1 = some t ∧ w.2 = rowsOf t) : At mods W ms ms := by
  have ek := all_keys h
  have ok : ModsOk mods ms := ⟨k.name, k.fit, k.nd, k.few, by rw [ek]; exact k.srt, by rw [ek]; exact k.perm, exact_all h x⟩
  refine ⟨simM_refl ms, ok, prIn_of ok ht, ?_⟩
  rw [badMod_eq, ek]
  refine (sim_badW (simM_refl ms) (sim_sc (simM_refl ms)) fun m hm => ?_).symm
  obtain ⟨p, hp, e⟩ := List.mem_map.mp hm
  obtain ⟨t, t1, t2⟩ := x p hp
  have ndW : (keys W).Nodup := k.perm.nodup_iff.mpr k.nd
  rw [← e, text_of t1]
  unfold wdOf
  rw [look_of_mem ndW hp, ← t2]
  exact paired_refl (fun a => .inl rfl) _
instance instMR' : DecidableEq MR := fun a b => match a, b with
  | .ins xs, .ins ys => if h : xs = ys then isTrue (by rw [h]) else isFalse (fun e => h (by cases e; rfl))
  | .dat v, .dat u => if h : v = u then isTrue (by rw [h]) else isFalse (fun e => h (by cases e; rfl))
  | .ins _, .dat _ => isFalse (fun e => nomatch e)
  | .dat _, .ins _ => isFalse (fun e => nomatch e)
end PG
namespace KN
open PySem PySem.Spec PyProof.Rows L2 L2.FK FS TX PG
def nsI (n : Nat) : Str := Str.ofString (toString (n : Int))
def T1 (l : Str) : Str := ((((("export main x\nalias x y\nalias y f" : Str) ++ l) ++ ("\nfunc main\ncall x\naddr a q\nend" : Str)) ++ ("\nfunc f" : Str)) ++ l) ++ ("\nend" : Str)
def T2 : Str := "export q z\nalias q x\nalias z r\nfunc r\ncall q\nread a t 0\nend\nalias y q"
def T3 (w : Str) : Str := (("export t\nalias t s\ndata s\n" : Str) ++ w) ++ ("\nq\ny\nend\nexport u\nalias u x\nalias y u" : Str)
def mods (l w : Str) : List (Str × Str) := [("b", T2), ("a", T1 l), ("c", T3 w)]
def LETS : List Str := ["g", "h", "9", "z"]
def fn (l : Str) : Str := ("f" : Str) ++ l
def F (l : Str) : Str := ("a.f" : Str) ++ l
def W1 (l : Str) : List (List Str) := [["export", "main", "x"], ["alias", "x", "y"], ["alias", "y", fn l], ["func", "main"], ["call", "x"], ["addr", "a", "q"], ["end"], ["func", fn l], ["end"]]
def W2 : List (List Str) := [["export", "q", "z"], ["alias", "q", "x"], ["alias", "z", "r"], ["func", "r"], ["call", "q"], ["read", "a", "t", "0"], ["end"], ["alias", "y", "q"]]
def W3 (w : Str) : List (List Str) := [["export", "t"], ["alias", "t", "s"], ["data", "s"], [w], ["q"], ["y"], ["end"], ["export", "u"], ["alias", "u", "x"], ["alias", "y", "u"]]
def W (l w : Str) : WS := [("a", W1 l), ("b", W2), ("c", W3 w)]
def pr (l : Str) (ms : MS) (e : Str) : Pr := ⟨ms, e, [F l, "a.main", "b.r", "c.s"], [F l]⟩
/-- what each entry leads to -/
def ents (l : Str) : List (Str × Str) := [("main", "a.main"), ("x", F l), ("q", F l), ("z", "b.r"), ("u", F l)]
def bads : List Str := ["t", "r", "y", "s", "a.main", ""]
def due (l : Str) (n : Nat) : List (Str × List MR) := [("a.main", [.ins [.str "call", .str (F l)], .ins [.str "addr", .str "a", .str (F l)]]), (F l, []), ("b.r", [.ins [.str "call", .str (F l)], .ins [.str "read", .str "a", .str "c.s", .int 0]]), ("c.s", [.dat (.int (n : Int)), .dat (.str (F l)), .dat (.str (F l))])]
def asked (l : Str) : List (Str × Str × Option Str) := [("a", "q", some (F l)), ("a", "u", some (F l)), ("a", "y", some (F l)), ("a", "t", some "c.s"), ("b", "y", some (F l)), ("b", "main", some "a.main"), ("c", "z", some "b.r"), ("c", "s", some "c.s"), ("b", "s", none)]
def shrow (rs : List MR) : Bool := SeqAt.shaped (rowsD rs)
def okFin (W : WS) (p : Pr) (z : Str) : Bool :=
  decide (findEntry p.ms p.s z = some p.entry) && (exps p.s z).all fun y => (meaning p.ms p.s y z).isSome
def okBase (W : WS) (p : Pr) : Bool := decide (tot p.ms ≤ 800) && decide (badW p.ms p.s (wdOf W) (keys W) = none) &&
  sortedS p.pieces && p.pieces.isPerm (keys p.s.pc) && decide (p.pieces.length ≤ 12) && sortedS p.taken && decide p.taken.Nodup && p.taken.all (fun x => p.names.contains x) && p.names.all (fun x => p.taken.contains x) && decide (p.names.length < 64) && decide (p.taken.length ≤ 6)
def okBad (p : Pr) (z : Str) : Bool := decide (findEntry p.ms p.s z = none) && (exps p.s z).all fun y => (meaning p.ms p.s y z).isSome
def okRows (l : Str) (n : Nat) (p : Pr) : Bool := decide (p.rows = due l n) && p.kinds.all (fun q => decide (q.2 = "func") || decide (q.2 = "data")) && decide (keys p.kinds = [("a.main" : Str), F l, "b.r", "c.s"])
def chk (l : Str) (n : Nat) : Bool := match parseAll (W l (nsI n)) with
  | none => false
  | some ms => okBase (W l (nsI n)) (pr l ms "a.main") && (ents l).all (fun e => okFin (W l (nsI n)) (pr l ms e.2) e.1) && bads.all (okBad (pr l ms "a.main")) && okRows l n (pr l ms "a.main") && (asked l).all (fun q => decide (pMean (pr l ms "a.main") q.1 q.2.1 = q.2.2))
theorem chk_g : (List.range 100).all (chk "g") = true := by decide +kernel
theorem chk_h : (List.range 100).all (chk "h") = true := by decide +kernel
theorem chk_9 : (List.range 100).all (chk "9") = true := by decide +kernel
theorem chk_z : (List.range 100).all (chk "z") = true := by decide +kernel
theorem chk_all {l : Str} {n : Nat} (hl : l ∈ LETS) (hn : n < 100) : chk l n = true := by
  have : l = "g" ∨ l = "h" ∨ l = "9" ∨ l = "z" := by
    unfold LETS at hl
    simpa using hl
  rcases this with rfl | rfl | rfl | rfl
  · exact List.all_eq_true.mp chk_g n (List.mem_range.mpr hn)
  · exact List.all_eq_true.mp chk_h n (List.mem_range.mpr hn)
  · exact List.all_eq_true.mp chk_9 n (List.mem_range.mpr hn)
  · exact List.all_eq_true.mp chk_z n (List.mem_range.mpr hn)
end KN

set_option Elab.async false
set_option linter.all false
set_option maxRecDepth 100000
set_option maxHeartbeats 4000000
/-! Known names: what holds of them. -/
namespace KN
open PySem PySem.Spec PyProof.Rows L2 L2.FK FS TX PG
def fitB (t : Str) : Bool := decide (t.length ≤ 1000) && (Txt.split t "\n").all (fun r => decide (r.length ≤ 1000)) && (rowsOf t).all (fun ws => !ws.isEmpty && ws.all fun z => decide (z.length ≤ 1000) && PyData.strOk z) && decide (total (rowsOf t) < 1000) && decide ((rowsOf t).length ≤ 1000)
theorem fit_dec {t : Str} (h : fitB t = true) : FitT t := by
  obtain ⟨h, h5⟩ := Bool.and_eq_true_iff.mp h
  obtain ⟨h, h4⟩ := Bool.and_eq_true_iff.mp h
  obtain ⟨h, h3⟩ := Bool.and_eq_true_iff.mp h
  obtain ⟨h1, h2⟩ := Bool.and_eq_true_iff.mp h
  have sz : sizeLine = 16777216 := sizeLine_eq
  have h1 : t.length ≤ 1000 := of_decide_eq_true h1
  have h4 : total (rowsOf t) < 1000 := of_decide_eq_true h4
  refine ⟨⟨by omega, fun r hr => ?_⟩, fun ws hws => ?_, by omega, of_decide_eq_true h5⟩
  · have : r.length ≤ 1000 := of_decide_eq_true (List.all_eq_true.mp h2 r hr)
    omega
  · obtain ⟨k1, k2⟩ := Bool.and_eq_true_iff.mp (List.all_eq_true.mp h3 ws hws)
    refine ⟨fun e => by rw [e] at k1; simp at k1, fun z hz => ?_⟩
    obtain ⟨k3, k4⟩ := Bool.and_eq_true_iff.mp (List.all_eq_true.mp k2 z hz)
    exact ⟨Nat.le_of_lt (small1000 (of_decide_eq_true k3)), k4⟩
theorem t1_all : ∀ l ∈ LETS, fitB (T1 l) = true ∧ rowsOf (T1 l) = W1 l := by decide +kernel
theorem t2_all : fitB T2 = true ∧ rowsOf T2 = W2 := by decide +kernel
def R3 (w : Str) : List Str := ["export t", "alias t s", "data s", w, "q", "y", "end", "export u", "alias u x", "alias y u"]
theorem r3_join (w : Str) : T3 w = Txt.join NL (R3 w) := by
  have e1 : ((((("export t" : Str) ++ NL) ++ "alias t s") ++ NL) ++ "data s") ++ NL = ("export t\nalias t s\ndata s\n" : Str) := by decide +kernel
  have e2 : ((((((((((NL ++ ("q" : Str)) ++ NL) ++ "y") ++ NL) ++ "end") ++ NL) ++ "export u") ++ NL) ++ "alias u x") ++ NL) ++ "alias y u" = ("\nq\ny\nend\nexport u\nalias u x\nalias y u" : Str) := by decide +kernel
  show ((("export t\nalias t s\ndata s\n" : Str) ++ w) ++ ("\nq\ny\nend\nexport u\nalias u x\nalias y u" : Str)) = ((((((((("export t" : Str) ++ NL ++ "alias t s") ++ NL ++ "data s") ++ NL ++ w) ++ NL ++ "q") ++ NL ++ "y") ++ NL ++ "end") ++ NL ++ "export u") ++ NL ++ "alias u x") ++ NL ++ "alias y u"
  rw [← e1, ← e2]
  simp only [PySem.Str.append_assoc]
theorem r3_num : ∀ n < 100, rowOK (nsI n) = true ∧ rowW (nsI n) = [nsI n] := by decide +kernel
theorem r3_row : ([("export t" : Str), "alias t s", "data s", "q", "y", "end", "export u", "alias u x", "alias y u"]).all rowOK = true := by decide +kernel
theorem r3_w : rowW "export t" = [("export" : Str), "t"] ∧ rowW "alias t s" = [("alias" : Str), "t", "s"] ∧ rowW "data s" = [("data" : Str), "s"] ∧ rowW "q" = [("q" : Str)] ∧ rowW "y" = [("y" : Str)] ∧ rowW "end" = [("end" : Str)] ∧ rowW "export u" = [("export" : Str), "u"] ∧ rowW "alias u x" = [("alias" : Str), "u", "x"] ∧ rowW "alias y u" = [("alias" : Str), "y", "u"] := by decide +kernel
theorem t3_all (n : Nat) (hn : n < 100) : FitT (T3 (nsI n)) ∧ rowsOf (T3 (nsI n)) = W3 (nsI n) := by
  have fine : ∀ r ∈ R3 (nsI n), RowFine r := fun r hr => by
    have hr : r = "export t" ∨ r = "alias t s" ∨ r = "data s" ∨ r = nsI n ∨ r = "q" ∨ r = "y" ∨ r = "end" ∨ r = "export u" ∨ r = "alias u x" ∨ r = "alias y u" := by
      unfold R3 at hr
      simpa using hr
    have st : ∀ r ∈ [("export t" : Str), "alias t s", "data s", "q", "y", "end", "export u", "alias u x", "alias y u"], RowFine r := fun r hr => fine_of (List.all_eq_true.mp r3_row r hr)
    by_cases e : r = nsI n
    · rw [e]
      exact fine_of (r3_num n hn).1
    · refine st r ?_
      rcases hr with h | h | h | h | h | h | h | h | h | h
      all_goals first | exact absurd h e | (rw [h]; simp)
  rw [r3_join]
  refine ⟨fitT_join (List.cons_ne_nil _ _) fine (by show 10 ≤ 100; decide), ?_⟩
  rw [rowsOf_join (R := R3 (nsI n)) (List.cons_ne_nil _ _) fine]
  obtain ⟨h1, h2, h3, h4, h5, h6, h7, h8, h9⟩ := r3_w
  show [rowW "export t", rowW "alias t s", rowW "data s", rowW (nsI n), rowW "q", rowW "y", rowW "end", rowW "export u", rowW "alias u x", rowW "alias y u"] = _
  rw [h1, h2, h3, h4, h5, h6, h7, h8, h9, (r3_num n hn).2]
  rfl
theorem exact_w {l : Str} {n : Nat} (hl : l ∈ LETS) (hn : n < 100) : ∀ w ∈ W l (nsI n), ∃ t, look (mods l (nsI n)) w.1 = some t ∧ w.2 = rowsOf t := by
  intro w hw
  have hw : w = (("a" : Str), W1 l) ∨ w = (("b" : Str), W2) ∨ w = (("c" : Str), W3 (nsI n)) := by
    unfold W at hw
    simpa using hw
  rcases hw with rfl | rfl | rfl
  · exact ⟨T1 l, rfl, (t1_all l hl).2.symm⟩
  · exact ⟨T2, rfl, t2_all.2.symm⟩
  · exact ⟨T3 (nsI n), rfl, (t3_all n hn).2.symm⟩
theorem known {l : Str} {n : Nat} (hl : l ∈ LETS) (hn : n < 100) : Known (mods l (nsI n)) (W l (nsI n)) := by
  have m3 : ∀ p ∈ mods l (nsI n), p = (("b" : Str), T2) ∨ p = (("a" : Str), T1 l) ∨ p = (("c" : Str), T3 (nsI n)) := fun p hp => by
    unfold mods at hp
    simpa using hp
  refine ⟨fun p hp => ?_, fun p hp => ?_, ?_, (by show 3 < 64; decide), ?_, ?_, fun w hw => ?_⟩
  · rcases m3 p hp with rfl | rfl | rfl
    · show isName "b" = true; decide +kernel
    · show isName "a" = true; decide +kernel
    · show isName "c" = true; decide +kernel
  · rcases m3 p hp with rfl | rfl | rfl
    · exact fit_dec t2_all.1
    · exact fit_dec (t1_all l hl).1
    · exact (t3_all n hn).1
  · show ([("b" : Str), "a", "c"]).Nodup
    decide +kernel
  · show sortedS [("a" : Str), "b", "c"] = true
    decide +kernel
  · show ([("a" : Str), "b", "c"]).Perm [("b" : Str), "a", "c"]
    exact List.Perm.swap ..
  · obtain ⟨t, t1, t2⟩ := exact_w hl hn w hw
    exact ⟨t, t1, by rw [t2]; exact paired_refl (fun a => .inl rfl) _⟩
structure Works (l : Str) (n : Nat) (ms : MS) : Prop where
  pin : PrIn (mods l (nsI n)) ms
  bad : badMod ms (scOf ms) (mods l (nsI n)) ms = none
  right : ∀ z e, (z, e) ∈ ents l → (∀ y r, look (scOf ms).ex z = some (y :: r) → (meaning ms (scOf ms) y z).isSome = true) ∧ findEntry ms (scOf ms) z = some e ∧ PrFin (pr l ms e) z
  wrong : ∀ z ∈ bads, (∀ y r, look (scOf ms).ex z = some (y :: r) → (meaning ms (scOf ms) y z).isSome = true) ∧ findEntry ms (scOf ms) z = none
  rows : ∀ e, (pr l ms e).rows = due l n
  kin : ∀ e, ∀ q ∈ (pr l ms e).kinds, q.2 = "func" ∨ q.2 = "data"
  kk : ∀ e, PG.keys (pr l ms e).kinds = [("a.main" : Str), F l, "b.r", "c.s"]
  ask : ∀ e m z o, (m, z, o) ∈ asked l → pMean (pr l ms e) m z = o
theorem nd_all : ∀ l ∈ LETS, ([("a.main" : Str), F l, "b.r", "c.s"]).Nodup := by decide +kernel
theorem works {l : Str} {n : Nat} (hl : l ∈ LETS) (hn : n < 100) : ∃ ms, Works l n ms := by
  have c := chk_all hl hn
  unfold chk at c
  cases e : parseAll (W l (nsI n)) with
  | none => rw [e] at c; cases c
  | some ms =>
    rw [e] at c
    dsimp only at c
    obtain ⟨c, a5⟩ := Bool.and_eq_true_iff.mp c
    obtain ⟨c, a4⟩ := Bool.and_eq_true_iff.mp c
    obtain ⟨c, a3⟩ := Bool.and_eq_true_iff.mp c
    obtain ⟨a1, a2⟩ := Bool.and_eq_true_iff.mp c
    unfold okBase at a1
    obtain ⟨a1, b11⟩ := Bool.and_eq_true_iff.mp a1
    obtain ⟨a1, b10⟩ := Bool.and_eq_true_iff.mp a1
    obtain ⟨a1, b9⟩ := Bool.and_eq_true_iff.mp a1
    obtain ⟨a1, b8⟩ := Bool.and_eq_true_iff.mp a1
    obtain ⟨a1, b7⟩ := Bool.and_eq_true_iff.mp a1
    obtain ⟨a1, b6⟩ := Bool.and_eq_true_iff.mp a1
    obtain ⟨a1, b5⟩ := Bool.and_eq_true_iff.mp a1
    obtain ⟨a1, b4⟩ := Bool.and_eq_true_iff.mp a1
    obtain ⟨a1, b3⟩ := Bool.and_eq_true_iff.mp a1
    obtain ⟨b1, b2⟩ := Bool.and_eq_true_iff.mp a1
    have at_ := (known hl hn).exact e (of_decide_eq_true b1) (exact_w hl hn)
    have hbad : badMod ms (scOf ms) (mods l (nsI n)) ms = none := at_.bad.trans (of_decide_eq_true b2)
    unfold okRows at a4
    obtain ⟨a4, r3⟩ := Bool.and_eq_true_iff.mp a4
    obtain ⟨r1, r2⟩ := Bool.and_eq_true_iff.mp a4
    have hmean : ∀ z, ((exps (scOf ms) z).all fun y => (meaning ms (scOf ms) y z).isSome) = true → ∀ y r, look (scOf ms).ex z = some (y :: r) → (meaning ms (scOf ms) y z).isSome = true := fun z h y r hy => by
      refine List.all_eq_true.mp h y ?_
      unfold exps
      rw [hy]
      exact List.mem_cons_self ..
    refine ⟨ms, at_.pin, hbad, fun z e' he => ?_, fun z hz => ?_, fun e' => of_decide_eq_true r1, fun e' q hq => ?_, fun e' => of_decide_eq_true r3, fun e' m z o ho => ?_⟩
    · have h := List.all_eq_true.mp a2 (z, e') he
      unfold okFin at h
      obtain ⟨h1, h2⟩ := Bool.and_eq_true_iff.mp h
      have f0 : Fin0 (W l (nsI n)) (pr l ms e') z := ⟨e, of_decide_eq_true b1, of_decide_eq_true b2, of_decide_eq_true h1, h2, b3, b4, of_decide_eq_true b5, b6, of_decide_eq_true b7, b8, b9, of_decide_eq_true b10, of_decide_eq_true b11⟩
      obtain ⟨_, g2, g3, g4⟩ := f0.fin (ms := ms) at_
      exact ⟨g2, g3, g4⟩
    · have h := List.all_eq_true.mp a3 z hz
      unfold okBad at h
      obtain ⟨h1, h2⟩ := Bool.and_eq_true_iff.mp h
      exact ⟨hmean z h2, of_decide_eq_true h1⟩
    · have h := List.all_eq_true.mp r2 q hq
      rcases Bool.or_eq_true_iff.mp h with h | h
      · exact .inl (of_decide_eq_true h)
      · exact .inr (of_decide_eq_true h)
    · exact of_decide_eq_true (List.all_eq_true.mp a5 (m, z, o) ho)
end KN


set_option Elab.async false
set_option linter.all false
set_option maxRecDepth 100000
set_option maxHeartbeats 4000000
namespace FS
open PySem PySem.Spec PyProof.Rows L2 L2.FK
section
variable {X : Cx} {CX : CXT} {k : Nat} {f C : Addr} {fd : FuncData} {ps : List Str} {sp : Sp} {E : L2.St → XK} {x : Str} {p pos : Pos} {e : Expr} {es : List Expr} {t : TA}
/-- a new one of a class, where what its making lets out is told by the slots -/
def tMkE (C : Addr) (sp : Sp) (E : L2.St → XK) (t : TA) : TE := fun σ H Q => t σ H fun vs G =>
  ∀ q d, G q = none → G d = none → d ≠ q → sp (.ref q :: vs) (upd (upd G d (.own q)) q (.ins C d [])) (fun u G2 => u = .non ∧ Q (.ref q) G2) (E σ)
theorem pe_mkE (M : Mk X.K C f) (F : FnOk X.prog X.w X.K X.mg X.base CX k f fd ps sp) (room : Room (k + 1) X.A) (gl : Gl X x) (at_ : X.mg x = some (.ref C)) (bd : Binds X.K fd ps []) (out : ∀ σ, PassesAt CX X σ (E σ))
    (args : PA X (e :: es) t) (nd : (x == ("__debug__" : Str)) = false := by decide) (st : starEach (e :: es) X.env = (false, eval e X.env) :: starEach es X.env := by rfl)
    (pl : (backTo pos (starEach es X.env)).any (·.1) = false := by rfl) : PE X (.Call (.Name x p) (e :: es) [] pos) (tMkE C sp E t) := by
  constructor
  intro pins s σ H Q I h
  apply wpAny_Call_Name_kw
  refine ld_glob I gl at_ ?_ nd
  refine PySem.W.callWith_K (h₀ := X.base) I.ok.mod.kin M.kp (thn (args.run pos pins s σ H _ I h) ?_) st pl
  rintro us s1 ⟨vs, G, J, r, q⟩
  refine ⟨J.kIn, ?_⟩
  have here := q (s1.heap.objs.size + 1) s1.heap.objs.size (J.hok.fresh (Nat.le_succ _)) (J.hok.fresh Nat.le.refl) (Nat.ne_of_lt (Nat.lt_succ_self _))
  have J2 := Inv.made (C := C) J
  have r2 : Vals (V.ref (s1.heap.objs.size + 1) :: vs) (Value.ref (s1.heap.objs.size + 1) :: us) := .cons rfl r
  have len : (Value.ref (s1.heap.objs.size + 1) :: us).length = ps.length := r2.length.symm.trans (F.len _ _ _ _ here)
  have b := bd _ (Value.ref (s1.heap.objs.size + 1) :: us) J2.kIn (by rw [List.append_nil]; exact len)
  rw [List.append_nil] at b
  have run := F.run _ X.stack _ _ ⟨Value.ref (s1.heap.objs.size + 1) :: us, []⟩ _ _ _ (E σ) (room.make C us []) (J2.env0.make C us []) b r2 here
  refine wpAny_call (make_map (f := f) J.kIn M.makes M.init (beq_iff_eq.mp M.fn) (codeAny_mono run fun z s' o => ?_))
  match z, o with
  | .error er, o => exact out σ pins _ _ er s' J2 o
  | .ok (.ret u), o =>
    obtain ⟨v, G', J3, rv, ev, q3⟩ := J2.after o
    cases ev
    exact ⟨rv, V.ref (s1.heap.objs.size + 1), G', J3, rfl, q3⟩
  | .ok .next, o => exact o.elim
  | .ok .brk, o => exact o.elim
  | .ok .cont, o => exact o.elim
end
end FS

set_option Elab.async false
set_option linter.all false
set_option maxRecDepth 100000
set_option maxHeartbeats 4000000
/-! Known names: the law's modules, and what is told. -/
namespace KN
open PySem PySem.Spec PyProof.Rows L2 L2.FK FS TX PG
abbrev sModules : Stmt := TX.top 46
abbrev sTold : Stmt := TX.top 47
section
variable {X : Cx}
theorem b_repr : bootBuiltins "repr" = some (.builtin "repr") := by decide +kernel
def rReprS : List V → Hp → VK → Prop := fun xs H Q => ∃ z : Str, xs = [.str z] ∧ (reprText z).length ≤ sizeLine ∧ Q (.str (reprText z)) H
theorem call_reprS : CallR X (.builtin "repr") rReprS := by
  intro pins s σ H xs us Q I r h
  obtain ⟨z, rfl, hz, q⟩ := h
  obtain ⟨u, rfl, rv⟩ := vals1 r
  obtain ⟨t', rfl⟩ := rv
  exact PySem.P.repr_of_str ⟨.str _, H, I.tok _, ⟨_, rfl⟩, q⟩ hz
end
theorem len_mods : ∀ l ∈ LETS, ("export main x\nalias x y\nalias y f" : Str).length + l.length ≤ 1000 ∧ (("export main x\nalias x y\nalias y f" : Str) ++ l).length + ("\nfunc main\ncall x\naddr a q\nend" : Str).length ≤ 1000 ∧
    ((("export main x\nalias x y\nalias y f" : Str) ++ l) ++ ("\nfunc main\ncall x\naddr a q\nend" : Str)).length + ("\nfunc f" : Str).length ≤ 1000 ∧ (((("export main x\nalias x y\nalias y f" : Str) ++ l) ++ ("\nfunc main\ncall x\naddr a q\nend" : Str)) ++ ("\nfunc f" : Str)).length + l.length ≤ 1000 ∧
    ((((("export main x\nalias x y\nalias y f" : Str) ++ l) ++ ("\nfunc main\ncall x\naddr a q\nend" : Str)) ++ ("\nfunc f" : Str)) ++ l).length + ("\nend" : Str).length ≤ 1000 := by decide +kernel
theorem len_nsI : ∀ n < 100, (nsI n).length ≤ 2 := by decide +kernel
theorem len_th : ("export t\nalias t s\ndata s\n" : Str).length ≤ 100 ∧ ("\nq\ny\nend\nexport u\nalias u x\nalias y u" : Str).length ≤ 100 := by decide +kernel
theorem le1000 {n : Nat} (h : n ≤ 1000) : n ≤ sizeLine := Nat.le_of_lt (small1000 h)
theorem app_len (a b : Str) : (a ++ b).length = a.length + b.length := by
  show (a ++ b).cps.size = a.cps.size + b.cps.size
  exact Array.size_append ..
section
variable {P : Program} {w : World} {K : PySem.W.Frag} {mg : Str → Option Value} {base : Heap} {CPr CS CM CP CBM CBN fBN fPr : Addr}
def spModules : Sp := fun vs H Q _ => ∃ (l : Str) (n : Nat), vs = [.str l, .str (nsI n)] ∧ l ∈ LETS ∧ n < 100 ∧ ∀ H' d, Same H H' → H d = none → H' d = some (.dK (txK (mods l (nsI n)))) → Q (.ref d) H'
theorem scMo : FnScope ["_law_letter", "_law_number", "_law_first", "_law_second", "_law_third"] ["_law_letter", "_law_number"] (defScope sModules) := ⟨rfl, rfl, rfl, by decide +kernel, rfl, by decide +kernel, by decide +kernel⟩
theorem ok_modules {f : Addr} {fd : FuncData} (F : Fun K "_law_modules" "_law_modules" sModules f fd) : FnOk P w K mg base CX0 1 f fd ["_law_letter", "_law_number"] spModules := by
  refine F.ok scMo (fun vs H Q E h => ?_) (fun cdv A outer s H vs Q E hr h => ?_)
  · obtain ⟨l, n, rfl, _⟩ := h
    rfl
  · obtain ⟨l, n, rfl, hl, hn, q⟩ := h
    refine ⟨_, pss_cons (ps_set (i := 2) scMo.nd rfl (.inl rfl) (pe_op op_add_str (pe_op op_add_str pe_str (pv 0)) pe_str))
      (pss_cons (ps_set (i := 2) scMo.nd rfl (.inl rfl) (pe_op op_add_str (pe_op op_add_str (pe_op op_add_str (pv 2) pe_str) (pv 0)) pe_str))
      (pss_cons (ps_set (i := 3) scMo.nd rfl (.inl rfl) pe_str)
      (pss_cons (ps_set (i := 4) scMo.nd rfl (.inl rfl) (pe_op op_add_str (pe_op op_add_str pe_str (pv 1)) pe_str))
      (pss_one (ps_ret (pe_disp (pps_cons pe_str (pv 3) (pps_cons pe_str (pv 2) (pps_cons pe_str (pv 4) pps_nil))) rfl rfl (by simp) (by show 3 ≤ 15; decide))))))), ?_⟩
    obtain ⟨h1, h2, h3, h4, h5⟩ := len_mods l hl
    have hN := len_nsI n hn
    refine ⟨_, rfl, _, _, rfl, rfl, le1000 h1, _, _, rfl, rfl, le1000 h2, ?_⟩
    refine ⟨_, rfl, _, _, rfl, rfl, le1000 h3, _, rfl, _, _, rfl, rfl, le1000 h4, _, _, rfl, rfl, le1000 h5, ?_⟩
    refine ⟨_, rfl, _, _, rfl, rfl, le1000 (by have := len_th.1; omega), _, _, rfl, rfl, le1000 (by rw [app_len]; have := len_th.1; have := len_th.2; omega), ?_⟩
    refine fun d hd => ⟨_, rfl, _, rfl, _, rfl, upd_same, [(kS "b", .str T2), (kS "a", .str (T1 l)), (kS "c", .str (T3 (nsI n)))], rfl, (by show 3 ≤ 15; decide), ?_⟩
    refine q _ d (fun b o e => ?_) hd ?_
    · rw [upd_ne (ne_of_none e hd), upd_ne (ne_of_none e hd)]
      exact e
    · rw [upd_same]
      rfl
structure TLd (K : PySem.W.Frag) (mg : Str → Option Value) (CBN fBN CPr fPr : Addr) : Prop where
  ec : EC K mg "BadName" CBN fBN
  nVa : PySem.W.findIn K (.ref CBN) "value" = some none
  te : PySem.W.exmOne K (.ref CBN) (.ref CBN) = some true
  gP : mg "Program" = some (.ref CPr)
  mkP : Mk K CPr fPr
  cP : Cls K CPr
  nEn : NoAttr K CPr "entry"
  zr : mg "repr" = none
def spTold (CPr CS CM CP : Addr) : Sp := fun vs H Q _ => ∃ (dt : Addr) (mods : List (Str × Str)) (ms : MS) (z : Str), vs = [.ref dt, .str z] ∧ H dt = some (.dK (txK mods)) ∧ z.length ≤ 1000 ∧ PrIn mods ms ∧ badMod ms (scOf ms) mods ms = none ∧
  (∀ y r, look (scOf ms).ex z = some (y :: r) → (meaning ms (scOf ms) y z).isSome = true) ∧
  ((∃ p : Pr, findEntry ms (scOf ms) z = some p.entry ∧ p.ms = ms ∧ PrFin p z ∧ ∀ H', Same H H' → Q (.str p.entry) H') ∨
    (findEntry ms (scOf ms) z = none ∧ (reprText z).length ≤ sizeLine ∧ ∀ H' l, Same H H' → H l = none → H' l = some (.lst [.str "name", .str (reprText z)]) → Q (.ref l) H'))
theorem scTl : FnScope ["_law_modules_here", "_law_entry", "e"] ["_law_modules_here", "_law_entry"] (defScope sTold) := ⟨rfl, rfl, rfl, by decide +kernel, rfl, by decide +kernel, by decide +kernel⟩
def tSuite (K : PySem.W.Frag) (CB a : Addr) (cls : Value) (d : Option Addr) : TS := tRet (tLstS (tCons (tC (.str "name")) (tCons (tCB rReprS (tCons (tXf a cls d CB "value" (tVar 2)) tNil)) tNil)))
theorem ok_told {f : Addr} {fd fdPr : FuncData} (F : Fun K "_law_told" "_law_told" sTold f fd) (L : TLd K mg CBN fBN CPr fPr)
    (GP : FnOk P w K mg base (L2.CX P w) 9 fPr fdPr ["self", "modules", "entry"] (spProg CPr CS CM CP CBM CBN)) (bP : Binds K fdPr ["self", "modules", "entry"] []) : FnOk P w K mg base CX0 11 f fd ["_law_modules_here", "_law_entry"] (spTold CPr CS CM CP) := by
  refine F.ok scTl (fun vs H Q E h => ?_) (fun cdv A0 outer s H vs Q E hr h => ?_)
  · obtain ⟨dt, mods, ms, z, rfl, _⟩ := h
    rfl
  · obtain ⟨dt, mods, ms, z, rfl, hd, hz, hp, hb, hme, h⟩ := h
    refine ⟨_, pss_one (ps_try_as (i := 2) (tb := fun W => tRet (tFld K (tMkE CPr (spProg CPr CS CM CP CBM CBN) (WE W) (tCons (tVar 0) (tCons (tVar 1) tNil))) "entry")) (ts := tSuite K CBN) (Wout := fun _ _ _ _ => False) rfl rfl scTl.nd rfl rfl ⟨rfl, by decide, Or.inl L.ec.gC⟩ takes0
          (fun W pn xe tk _ => pss_one (ps_ret (by exact (pe_fld (pe_mkE L.mkP GP hr rfl L.gP bP (fun σ => passAt tk σ) (by exact (pa_cons (pv 0) (pa_cons (pv 1) pa_nil)))) rfl))))
          (fun a oe cls d pn hz hf => pss_one (ps_ret (by exact (pe_lstS (pa_cons pe_str (pa_cons (pe_callB call_reprS (by rfl) L.zr b_repr (pa_cons (pe_xf L.ec.xf L.nVa hz hf (pv 2)) pa_nil)) pa_nil))))))), ?_⟩
    refine ⟨.ref dt, rfl, .str z, rfl, fun x dx nx ndx ne => ?_⟩
    have s1 : Same H (upd (upd H dx (.own x)) x (.ins CPr dx [])) := fun b o e => by rw [upd_ne (ne_of_none e nx), upd_ne (ne_of_none e ndx)]; exact e
    have ex : upd (upd H dx (.own x)) x (.ins CPr dx []) x = some (.ins CPr dx []) := upd_same
    refine ⟨x, dx, dt, mods, ms, z, rfl, hz, ex, s1 _ _ hd, hp, fun m i e => ?_, fun _ => ⟨hme, fun en d H' o' e9 => ?_, fun e he => ?_⟩⟩
    · rw [hb] at e
      cases e
    · rcases h with ⟨p, g1, _⟩ | ⟨_, hl, q⟩
      · rw [en] at g1
        cases g1
      · have s2 : Same H H' := fun b o eb => o' _ _ (ne_of_none eb nx) (s1 _ _ eb)
        refine ⟨true, L.te, fun _ a na => ?_, fun q => Bool.noConfusion q⟩
        refine ⟨.ref a, rfl, rfl, rfl, d, _, .str z, rfl, e9, rfl, z, rfl, hl, by simp, fun l H2 s3 n3 e3 => ?_⟩
        exact q H2 l (s2.trans s3) (same_none s2 n3) e3
    · rcases h with ⟨p, g1, g2, g3, q⟩ | ⟨g1, _⟩
      · rw [g1] at he
        cases he
        refine ⟨p, g2, rfl, g3, fun H2 o2 pa => ⟨rfl, ?_⟩⟩
        obtain ⟨dx', sc, dp, tp, dk, dr, tt, h1, _⟩ := pa
        exact ⟨x, CPr, dx', _, _, rfl, h1, L.cP, L.nEn, rfl, q H2 fun b o eb => o2 _ _ (ne_of_none eb nx) (s1 _ _ eb)⟩
      · rw [g1] at he
        cases he
end
end KN

set_option Elab.async false
set_option linter.all false
set_option maxRecDepth 100000
set_option maxHeartbeats 4000000
/-! The defs of this law's text that draw. -/
namespace TopL
open PySem PySem.Spec PyProof.Rows L2
abbrev sPool : Stmt := TX.top 44
abbrev sTake : Stmt := TX.top 45
end TopL

set_option Elab.async false
set_option linter.all false
set_option maxRecDepth 100000
set_option maxHeartbeats 4000000
/-! What laws by cells draw with. -/
namespace LP
open PySem PySem.Spec PyProof.Rows L2 FS
/-- a pool of numbers -/
def PAt (p : Addr) (H : Hp) : Prop := ∃ g s : Int, H p = some (.lst [.int g, .int s]) ∧ 0 ≤ g ∧ 0 ≤ s ∧ s < 2147483647
theorem PAt.mono {p : Addr} {H H' : Hp} (h : PAt p H) (s : Same H H') : PAt p H' := by
  obtain ⟨g, t, e, l⟩ := h
  exact ⟨g, t, s _ _ e, l⟩
section
variable {P : Program} {w : World} {K : PySem.W.Frag} {mg : Str → Option Value} {base : Heap}
theorem b01 (c : Bool) : 0 ≤ (if c = true then (1 : Int) else 0) := by cases c <;> decide
theorem b01w (c : Bool) : -2 ^ 64 < (if c = true then (1 : Int) else 0) ∧ (if c = true then (1 : Int) else 0) < 2 ^ 64 := by cases c <;> decide
theorem sq5 (k : Nat) (h : k < 5) : 0 ≤ 104729 * (k : Int) * (k : Int) ∧ 104729 * (k : Int) * (k : Int) ≤ 2000000 := by
  have : k = 0 ∨ k = 1 ∨ k = 2 ∨ k = 3 ∨ k = 4 := by omega
  rcases this with rfl | rfl | rfl | rfl | rfl <;> decide
/-! ### _law_pool -/
def spPool (K : PySem.W.Frag) : Sp := fun vs H Q _ => ∃ (a : Addr) (ns : List Int) (k : Nat), vs = [.ref a, .int k] ∧ SqL K H a (ns.map V.int) ∧ k < 5 ∧ ns.length ≤ 63 ∧
  ∀ H' p, Same H H' → H p = none → PAt p H' → Q (.ref p) H'
theorem scP : FnScope ["_law_script", "_law_k", "_law_cell", "_law_great", "_law_seed"] ["_law_script", "_law_k"] (defScope TopL.sPool) := ⟨rfl, rfl, rfl, by decide +kernel, rfl, by decide +kernel, by decide +kernel⟩
theorem ok_pool {f : Addr} {fd : FuncData} {k : Nat} (F : Fun K "_law_pool" "_law_pool" TopL.sPool f fd) (ml : mg "len" = none) (ma : mg "abs" = none) (mi : mg "int" = none) : FnOk P w K mg base CX0 (k + 1) f fd ["_law_script", "_law_k"] (spPool K) := by
  refine F.ok scP (fun vs H Q E h => ?_) (fun cdv A outer s H vs Q E hr h => ?_)
  · obtain ⟨a, ns, k, rfl, _⟩ := h
    rfl
  · obtain ⟨a, ns, k, rfl, hS, hk, hlen, q0⟩ := h
    have q : ∀ H' p (g s : Int), Same H H' → H p = none → H' p = some (.lst [.int g, .int s]) → 0 ≤ g → 0 ≤ s → s < 2147483647 → Q (.ref p) H' := fun H' p g s e n h a b c => q0 H' p e n ⟨g, s, h, a, b, c⟩
    refine ⟨_, pss_cons (ps_set (i := 2) scP.nd rfl (.inl rfl) pe_int)
      (pss_cons (ps_if (pt_cmpR op_lt (pv 1) (pe_callB call_len_seq (by rfl) ml PySem.boot_len (pa_cons (pv 0) pa_nil)) (nomark _))
          (pss_one (ps_set (i := 2) scP.nd rfl (.inl rfl) (pe_ix ix_list (pv 0) (pv 1) (fun _ _ => rfl)))) pss_nil)
      (pss_cons (ps_set (i := 3) scP.nd rfl (.inl rfl) (pe_callB call_abs (by rfl) ma (by decide +kernel) (pa_cons (pv 2) pa_nil)))
      (pss_cons (ps_set (i := 4) scP.nd rfl (.inl rfl) (pe_op op_mod (pe_op op_pow (pe_op op_add (pe_op op_add (pe_op op_add (pe_op op_mod (pv 2) pe_int) (pe_op op_mul (pe_op op_mul pe_int (pv 1)) (pv 1))) (pe_op op_mul pe_int (pv 1))) pe_int) pe_int) pe_int))
      (pss_one (ps_ret (pe_lst (pa_cons (pe_op op_mul (pv 3) (pe_callTy call_int1 (by rfl) mi (by decide +kernel) (pa_cons (pe_cmpR op_ge (pv 3) (pe_op op_pow pe_int pe_int) (nomark _)) pa_nil)))
        (pa_cons (pv 4) pa_nil)))))))), ?_⟩
    refine ⟨_, rfl, _, rfl, a, _, rfl, .inl hS, _, _, rfl, rfl, _, rfl, ?_⟩
    have hk0 : (0 : Int) ≤ (k : Int) := Int.natCast_nonneg _
    have hk3 : (k : Int) < 5 := by omega
    have hkk := sq5 k hk
    refine ite2 (fun hc => ?_) (fun _ => ?_)
    · have hk2 : k < ns.length := by
        have h1 := of_decide_eq_true hc
        rw [List.length_map] at h1
        omega
      have g : (ns.map V.int)[k]? = some (V.int ns[k]) := by
        rw [List.getElem?_map, List.getElem?_eq_getElem hk2]
        rfl
      refine ⟨_, rfl, _, rfl, a, _, _, _, rfl, rfl, hS, atI_nat g, ?_⟩
      have hm : 0 ≤ ns[k] % 2147483629 ∧ ns[k] % 2147483629 < 2147483629 := ⟨Int.emod_nonneg _ (by decide), Int.emod_lt_of_pos _ (by decide)⟩
      refine ⟨_, rfl, ns[k], rfl, ?_⟩
      refine ⟨_, rfl, _, _, rfl, rfl, (show (0 : Int) < 2147483629 by decide), _, rfl, _, _, rfl, rfl, .inl ⟨by decide, by decide⟩, _, rfl, _, _, rfl, rfl, .inr ⟨by omega, by omega⟩, _, _, rfl, rfl, _, rfl, _, _, rfl, rfl, .inl ⟨by decide, by decide⟩, _, _, rfl, rfl, _, _, rfl, rfl, _, _, rfl, rfl, ⟨by decide, by decide, ?_⟩, _, _, rfl, rfl, (show (0 : Int) < 2147483647 by decide), ?_⟩
      · omega
      refine ⟨_, rfl, _, rfl, _, _, rfl, rfl, ⟨by decide, by decide, by decide⟩, _, _, rfl, rfl, .inr ⟨_, rfl, _, _, rfl, rfl, .inr ⟨?_, ?_⟩, _, rfl, (by show 2 ≤ sizeLine; decide), fun p hp => ?_⟩⟩
      · exact (b01w _).1
      · exact (b01w _).2
      refine q _ p _ _ (same_new hp) hp upd_same ?_ (Int.emod_nonneg _ (by decide)) (Int.emod_lt_of_pos _ (by decide))
      refine Int.mul_nonneg ?_ ?_
      · split <;> omega
      · exact b01 _
    · have hm : 0 ≤ (0 : Int) % 2147483629 ∧ (0 : Int) % 2147483629 < 2147483629 := ⟨Int.emod_nonneg _ (by decide), Int.emod_lt_of_pos _ (by decide)⟩
      refine ⟨_, rfl, (0 : Int), rfl, ?_⟩
      refine ⟨_, rfl, _, _, rfl, rfl, (show (0 : Int) < 2147483629 by decide), _, rfl, _, _, rfl, rfl, .inl ⟨by decide, by decide⟩, _, rfl, _, _, rfl, rfl, .inr ⟨by omega, by omega⟩, _, _, rfl, rfl, _, rfl, _, _, rfl, rfl, .inl ⟨by decide, by decide⟩, _, _, rfl, rfl, _, _, rfl, rfl, _, _, rfl, rfl, ⟨by decide, by decide, ?_⟩, _, _, rfl, rfl, (show (0 : Int) < 2147483647 by decide), ?_⟩
      · omega
      refine ⟨_, rfl, _, rfl, _, _, rfl, rfl, ⟨by decide, by decide, by decide⟩, _, _, rfl, rfl, .inr ⟨_, rfl, _, _, rfl, rfl, .inr ⟨?_, ?_⟩, _, rfl, (by show 2 ≤ sizeLine; decide), fun p hp => ?_⟩⟩
      · exact (b01w _).1
      · exact (b01w _).2
      refine q _ p _ _ (same_new hp) hp upd_same ?_ (Int.emod_nonneg _ (by decide)) (Int.emod_lt_of_pos _ (by decide))
      refine Int.mul_nonneg ?_ ?_
      · split <;> omega
      · exact b01 _
/-! ### _law_take -/
def spTake : Sp := fun vs H Q _ => ∃ (p : Addr) (m : Nat), vs = [.ref p, .int m] ∧ 0 < m ∧ m ≤ 1000 ∧ PAt p H ∧ ∀ H' (r : Nat), Off p H H' → PAt p H' → r < m → Q (.int r) H'
theorem scT : FnScope ["_law_pool_here", "_law_many", "_law_found"] ["_law_pool_here", "_law_many"] (defScope TopL.sTake) := ⟨rfl, rfl, rfl, by decide +kernel, rfl, by decide +kernel, by decide +kernel⟩
theorem toN {x : Int} {m : Nat} (h : 0 ≤ x) (h2 : x < (m : Int)) : ∃ r : Nat, x = (r : Int) ∧ r < m := ⟨x.toNat, by omega, by omega⟩
theorem ok_take {f : Addr} {fd : FuncData} {k : Nat} (F : Fun K "_law_take" "_law_take" TopL.sTake f fd) : FnOk P w K mg base CX0 (k + 1) f fd ["_law_pool_here", "_law_many"] spTake := by
  refine F.ok scT (fun vs H Q E h => ?_) (fun cdv A outer s H vs Q E hr h => ?_)
  · obtain ⟨a, m, rfl, _⟩ := h
    rfl
  · obtain ⟨p, m, rfl, hm, hm2, ⟨g, s, hp, hg, hs, hs2⟩, q0⟩ := h
    have hmi : (0 : Int) < (m : Int) := by omega
    have hmn : (m : Int) ≠ 0 := by omega
    have q : ∀ (H2 : Hp) (g' s' : Int) (r : Nat), Off p H H2 → H2 p = some (.lst [.int g', .int s']) → 0 ≤ g' → 0 ≤ s' → s' < 2147483647 → r < m → Q (.int r) H2 := fun H2 g' s' r o e a b c d => q0 H2 r o ⟨g', s', e, a, b, c⟩ d
    refine ⟨_, pss_cons (ps_if (pt_cmpR op_gt (pe_ix ix_list (pv 0) pe_int (fun _ _ => rfl)) pe_int (nomark _))
        (pss_cons (ps_set (i := 2) scT.nd rfl (.inl rfl) (pe_op op_mod (pe_ix ix_list (pv 0) pe_int (fun _ _ => rfl)) (pv 1)))
          (pss_cons (ps_asg (pe_op op_fdiv (pe_ix ix_list (pv 0) pe_int (fun _ _ => rfl)) (pv 1)) (pg_sub (pv 0) pe_int set_list (fun _ => rfl)))
          (pss_one (ps_ret (pv 2))))) pss_nil)
      (pss_cons (ps_asg (pe_op op_mod (pe_op op_add (pe_op op_mul (pe_ix ix_list (pv 0) pe_int (fun _ _ => rfl)) pe_int) pe_int) pe_int) (pg_sub (pv 0) pe_int set_list (fun _ => rfl)))
      (pss_one (ps_ret (pe_op op_mod (pe_op op_fdiv (pe_op op_mod (pe_op op_mul (pe_ix ix_list (pv 0) pe_int (fun _ _ => rfl)) (pe_ix ix_list (pv 0) pe_int (fun _ _ => rfl))) pe_int) pe_int) (pv 1))))), ?_⟩
    have e0 : atI [V.int g, V.int s] 0 = some (.int g) := rfl
    have e1 : atI [V.int g, V.int s] 1 = some (.int s) := rfl
    have hL : SqL K H p [.int g, .int s] := SqL.of hp
    refine ⟨_, rfl, p, _, 0, _, rfl, rfl, hL, e0, _, _, rfl, rfl, _, rfl, ?_⟩
    refine ite2 (fun hc => ?_) (fun hc => ?_)
    · refine ⟨_, rfl, p, _, 0, _, rfl, rfl, hL, e0, _, rfl, _, _, rfl, rfl, hmi, ?_⟩
      refine ⟨_, rfl, p, _, 0, _, rfl, rfl, hL, e0, _, rfl, _, _, rfl, rfl, ⟨hmi, by omega⟩, ?_⟩
      refine ⟨_, rfl, p, _, 0, 0, rfl, rfl, hp, rfl, ?_⟩
      obtain ⟨r, er, hr11⟩ := toN (Int.emod_nonneg g hmn) (Int.emod_lt_of_pos g hmi)
      refine ⟨_, rfl, ?_⟩
      have hq := q _ (g / (m : Int)) s r Off.put upd_same (Int.ediv_nonneg hg (by omega)) hs hs2 hr11
      rw [← er] at hq
      exact hq
    · refine ⟨_, rfl, p, _, 1, _, rfl, rfl, hL, e1, _, _, rfl, rfl, .inl ⟨by omega, by omega⟩, _, _, rfl, rfl, _, _, rfl, rfl, (show (0 : Int) < 2147483647 by decide), ?_⟩
      refine ⟨_, rfl, p, _, 1, 1, rfl, rfl, hp, rfl, ?_⟩
      have hz0 : 0 ≤ (s * 48271 + 11) % 2147483647 := Int.emod_nonneg _ (by decide)
      have hz1 : (s * 48271 + 11) % 2147483647 < 2147483647 := Int.emod_lt_of_pos _ (by decide)
      have hL2 : SqL K (upd H p (.lst ([V.int g, V.int s].set 1 (.int ((s * 48271 + 11) % 2147483647))))) p [.int g, .int ((s * 48271 + 11) % 2147483647)] := SqL.of upd_same
      have e2 : atI [V.int g, V.int ((s * 48271 + 11) % 2147483647)] 1 = some (.int ((s * 48271 + 11) % 2147483647)) := rfl
      refine ⟨_, rfl, p, _, 1, _, rfl, rfl, hL2, e2, _, rfl, p, _, 1, _, rfl, rfl, hL2, e2, _, _, rfl, rfl, .inl ⟨by omega, by omega⟩, _, _, rfl, rfl, (show (0 : Int) < 2147483629 by decide), _, _, rfl, rfl, ⟨by decide, by decide⟩, _, rfl, _, _, rfl, rfl, hmi, ?_⟩
      obtain ⟨r, er, hr11⟩ := toN (Int.emod_nonneg (((s * 48271 + 11) % 2147483647) * ((s * 48271 + 11) % 2147483647) % 2147483629 / 64) hmn) (Int.emod_lt_of_pos (((s * 48271 + 11) % 2147483647) * ((s * 48271 + 11) % 2147483647) % 2147483629 / 64) hmi)
      have hq := q _ g ((s * 48271 + 11) % 2147483647) r Off.put upd_same hg hz0 hz1 hr11
      rw [← er] at hq
      exact hq
end
end LP

set_option Elab.async false
set_option linter.all false
set_option maxRecDepth 100000
set_option maxHeartbeats 8000000
/-! Known names: the law. -/
namespace KN
open PySem PySem.Spec PyProof.Rows L2 L2.FK FS TX PG
abbrev sLaw : Stmt := TX.top 48
def NLw : List Str := ["_law_script", "_law_k", "_law_pool_here", "_law_letter", "_law_number", "_law_modules_here", "_law_f", "_law_program", "_law_due", "_law_name", "_law_asked", "_law_found", "_law_module", "_law_entry", "_law_told_here"]
theorem let_at : ∀ r : Nat, r < 4 → ∃ c, ("gh9z" : Str).cps[r]? = some c ∧ (⟨#[c]⟩ : Str) ∈ LETS := by
  intro r hr
  match r, hr with
  | 0, _ => exact ⟨103, by decide +kernel, by decide +kernel⟩
  | 1, _ => exact ⟨104, by decide +kernel, by decide +kernel⟩
  | 2, _ => exact ⟨57, by decide +kernel, by decide +kernel⟩
  | 3, _ => exact ⟨122, by decide +kernel, by decide +kernel⟩
def dueP (l : Str) (n : Nat) : List (List MR) := [[], [.ins [.str "call", .str (F l)], .ins [.str "addr", .str "a", .str (F l)]], [.ins [.str "call", .str (F l)], .ins [.str "read", .str "a", .str "c.s", .int 0]], [.dat (.int (n : Int)), .dat (.str (F l)), .dat (.str (F l))]]
def pieP (l : Str) : List Str := [F l, "a.main", "b.r", "c.s"]
def dueD (l : Str) (n : Nat) : PyData := .list ((dueP l n).map rowsD)
def foundV (l : Str) : List V := (asked l).map fun q => optS q.2.2
def oD : Option Str → PyData
  | some z => .str z
  | none => .none
def foundD (l : Str) : PyData := .list ((asked l).map fun q => oD q.2.2)
theorem lets {l : Str} (hl : l ∈ LETS) : l = "g" ∨ l = "h" ∨ l = "9" ∨ l = "z" := by
  unfold LETS at hl
  simpa using hl
theorem sh_pie : ∀ l ∈ LETS, SeqAt.shaped (.tuple ((pieP l).map PyData.str)) = true ∧ SeqAt.shaped (.tuple ([F l].map PyData.str)) = true ∧ SeqAt.shaped (foundD l) = true ∧ ("a.f" : Str).length + l.length ≤ 1000 := by decide +kernel
theorem sh_due : ∀ l ∈ LETS, ∀ n < 100, SeqAt.shaped (dueD l n) = true ∧ (due l n).all (fun q => SeqAt.shaped (rowsD q.2)) = true := by decide +kernel
theorem sh_rows {l : Str} (hl : l ∈ LETS) {n : Nat} (hn : n < 100) : ∀ q ∈ due l n, SeqAt.shaped (rowsD q.2) = true ∧ ∀ r ∈ q.2, FlatR r := by
  intro q hq0
  have hq := hq0
  have hq : q = (("a.main" : Str), [.ins [.str "call", .str (F l)], .ins [.str "addr", .str "a", .str (F l)]]) ∨ q = (F l, []) ∨ q = (("b.r" : Str), [.ins [.str "call", .str (F l)], .ins [.str "read", .str "a", .str "c.s", .int 0]]) ∨ q = (("c.s" : Str), [.dat (.int (n : Int)), .dat (.str (F l)), .dat (.str (F l))]) := by
    unfold due at hq
    simpa using hq
  have st : ∀ z : Str, FlatV (.str z) := fun z => .inl ⟨z, rfl⟩
  refine ⟨List.all_eq_true.mp (sh_due l hl n hn).2 q hq0, ?_⟩
  rcases hq with rfl | rfl | rfl | rfl
  · intro r hr
    have hr : r = .ins [.str "call", .str (F l)] ∨ r = .ins [.str "addr", .str "a", .str (F l)] := by simpa using hr
    rcases hr with rfl | rfl
    · intro x hx
      have hx : x = .str "call" ∨ x = .str (F l) := by simpa using hx
      rcases hx with rfl | rfl <;> exact st _
    · intro x hx
      have hx : x = .str "addr" ∨ x = .str "a" ∨ x = .str (F l) := by simpa using hx
      rcases hx with rfl | rfl | rfl <;> exact st _
  · exact fun r hr => nomatch hr
  · intro r hr
    have hr : r = .ins [.str "call", .str (F l)] ∨ r = .ins [.str "read", .str "a", .str "c.s", .int 0] := by simpa using hr
    rcases hr with rfl | rfl
    · intro x hx
      have hx : x = .str "call" ∨ x = .str (F l) := by simpa using hx
      rcases hx with rfl | rfl <;> exact st _
    · intro x hx
      have hx : x = .str "read" ∨ x = .str "a" ∨ x = .str "c.s" ∨ x = .int 0 := by simpa using hx
      rcases hx with rfl | rfl | rfl | rfl
      · exact st _
      · exact st _
      · exact st _
      · exact .inr ⟨0, rfl⟩
  · intro r hr
    have hr : r = .dat (.int (n : Int)) ∨ r = .dat (.str (F l)) := by simpa using hr
    rcases hr with rfl | rfl
    · exact .inr ⟨_, rfl⟩
    · exact st _
theorem flat_due {l : Str} (hl : l ∈ LETS) {n : Nat} (hn : n < 100) : ∀ rs ∈ dueP l n, ∀ r ∈ rs, FlatR r := by
  intro rs hrs
  have h : rs = [] ∨ rs = [.ins [.str "call", .str (F l)], .ins [.str "addr", .str "a", .str (F l)]] ∨ rs = [.ins [.str "call", .str (F l)], .ins [.str "read", .str "a", .str "c.s", .int 0]] ∨ rs = [.dat (.int (n : Int)), .dat (.str (F l)), .dat (.str (F l))] := by
    unfold dueP at hrs
    simpa using hrs
  rcases h with rfl | rfl | rfl | rfl
  · exact fun r hr => nomatch hr
  · exact (sh_rows hl hn (("a.main" : Str), _) (by unfold due; simp)).2
  · exact (sh_rows hl hn (("b.r" : Str), _) (by unfold due; simp)).2
  · exact (sh_rows hl hn (("c.s" : Str), _) (by unfold due; simp)).2
/-- the rows of each piece -/
theorem due_at {l : Str} (hl : l ∈ LETS) (n : Nat) : ∀ (i : Nat) (f : Str) (rs : List MR), (pieP l)[i]? = some f → (dueP l n)[i]? = some rs → look (due l n) f = some rs ∧ f ∈ ([("a.main" : Str), F l, "b.r", "c.s"] : List Str) := by
  intro i f rs h1 h2
  match i, h1, h2 with
  | 0, h1, h2 =>
    cases h1; cases h2
    rcases lets hl with rfl | rfl | rfl | rfl <;> exact ⟨rfl, by decide +kernel⟩
  | 1, h1, h2 =>
    cases h1; cases h2
    exact ⟨rfl, List.mem_cons_self ..⟩
  | 2, h1, h2 =>
    cases h1; cases h2
    rcases lets hl with rfl | rfl | rfl | rfl <;> exact ⟨rfl, by decide +kernel⟩
  | 3, h1, h2 =>
    cases h1; cases h2
    rcases lets hl with rfl | rfl | rfl | rfl <;> exact ⟨rfl, by decide +kernel⟩
  | i + 4, h1, h2 => cases h1
theorem bad_ok : ∀ z ∈ bads, z.length ≤ 1000 ∧ (reprText z).length ≤ 1000 ∧ SeqAt.shaped (.list ([("name" : Str), reprText z].map PyData.str)) = true := by decide +kernel
theorem log_i : ∀ i < 101, ((i : Nat) : Int).natAbs.log2 < 1920 := by decide +kernel
theorem pa_none {H : Hp} {p b : Addr} (L : LP.PAt p H) (h : H b = none) : b ≠ p := fun z => by
  subst z
  obtain ⟨g, s, hm, _⟩ := L
  rw [hm] at h
  cases h
def TwoAt (H : Hp) (q : Str × Str × Option Str) (v : V) : Prop := ∃ t, v = .ref t ∧ H t = some (.tup [.str q.1, .str q.2.1])
def EntAt (H : Hp) (q : Str × Str) (v : V) : Prop := ∃ t, v = .ref t ∧ H t = some (.tup [.str q.1, .str q.2])
theorem TwoAt.mono {H H' : Hp} {q : Str × Str × Option Str} {v : V} (s : Same H H') (h : TwoAt H q v) : TwoAt H' q v := by
  obtain ⟨t, e, h⟩ := h
  exact ⟨t, e, s _ _ h⟩
theorem EntAt.mono {H H' : Hp} {q : Str × Str} {v : V} (s : Same H H') (h : EntAt H q v) : EntAt H' q v := by
  obtain ⟨t, e, h⟩ := h
  exact ⟨t, e, s _ _ h⟩
theorem short_all : ∀ l ∈ LETS, (asked l).all (fun q => decide (q.2.1.length ≤ 1000)) = true ∧ (ents l).all (fun q => decide (q.1.length ≤ 1000)) = true ∧ decide (F l ≠ "a.main") = true := by decide +kernel
theorem mk_prog {CPr CS CM CP CBM CBN d : Addr} {l : Str} {n : Nat} {ms : MS} (R : Works l n ms) {G : Hp} {Z : VK} {z e : Str} (hz : (z, e) ∈ ents l) (lz : z.length ≤ 1000) (hd : G d = some (.dK (txK (mods l (nsI n))))) {x dx : Addr} (nx : G x = none) (ndx : G dx = none)
    (q : ∀ H', Same G H' → ProgAt CPr CS CM CP H' x (pr l ms e) → Z .non H') :
    spProg CPr CS CM CP CBM CBN [.ref x, .ref d, .str z] (upd (upd G dx (.own x)) x (.ins CPr dx [])) Z (fun _ _ _ => False) := by
  obtain ⟨m1, m2, m3⟩ := R.right z e hz
  have s6 : Same G (upd (upd G dx (.own x)) x (.ins CPr dx [])) := fun b o e => by rw [upd_ne (ne_of_none e nx), upd_ne (ne_of_none e ndx)]; exact e
  refine ⟨x, dx, d, _, ms, z, rfl, lz, upd_same, s6 _ _ hd, R.pin, fun m i e => ?_, fun _ => ⟨m1, fun e => ?_, fun e' he => ?_⟩⟩
  · rw [R.bad] at e
    cases e
  · rw [m2] at e
    cases e
  rw [m2] at he
  cases he
  exact ⟨pr l ms e, rfl, rfl, m3, fun H8 o8 pa => q H8 (fun b o e => o8 _ _ (ne_of_none e nx) (s6 _ _ e)) pa⟩
theorem pr_eq {l : Str} (hl : l ∈ LETS) {n : Nat} (hn : n < 100) {ms : MS} (R : Works l n ms) (e e' : Str) : PrEq (pr l ms e) (pr l ms e') := by
  have nd := nd_all l hl
  refine ⟨rfl, rfl, rfl, ?_, ?_, (sh_pie l hl).1, fun q hq => ?_, fun q hq => ?_⟩
  · rw [R.kk]
    exact nd
  · rw [R.rows]
    exact nd
  · rcases R.kin e q hq with h | h <;> rw [h] <;> decide +kernel
  · rw [R.rows] at hq
    exact sh_rows hl hn q hq
section
variable {P : Program} {w : World} {K : PySem.W.Frag} {mg : Str → Option Value} {base : Heap} {CPr CS CM CP CBM CBN fBN fPr fSI : Addr}
def spLaw (K : PySem.W.Frag) : Sp := fun vs H Q _ => ∃ (a : Addr) (ns : List Int), vs = [.ref a] ∧ SqL K H a (ns.map V.int) ∧ ns.length ≤ 63 ∧ ∀ H', Q (.bl true) H'
theorem scLaw : FnScope NLw ["_law_script"] (defScope sLaw) := ⟨rfl, rfl, rfl, by decide +kernel, rfl, by decide +kernel, by decide +kernel⟩
theorem ok_law {f fPo fD fM19 fO fRo fMe fEq : Addr} {fd fdPo fdD fdM19 fdO fdPr fdRo fdMe fdEq : FuncData} {ds1 : List Value} (F : Fun K "law" "law" sLaw f fd) (zr : mg "range" = none) (zM : mg "max" = none) (zm : mg "min" = none) (zl : mg "len" = none) (zs : mg "str" = none)
    (L : TLd K mg CBN fBN CPr fPr) (T : TPr K mg CPr CS CM CP fSI)
    (GPo : FnOk P w K mg base CX0 1 fPo fdPo ["_law_script", "_law_k"] (LP.spPool K)) (bPo : Binds K fdPo ["_law_script", "_law_k"] []) (gPo : mg "_law_pool" = some (.ref fPo)) (kPo : PySem.W.keepIn K (.ref fPo) = true)
    (GD : FnOk P w K mg base CX0 1 fD fdD ["_law_pool_here", "_law_many"] LP.spTake) (bD : Binds K fdD ["_law_pool_here", "_law_many"] []) (gD : mg "_law_take" = some (.ref fD)) (kD : PySem.W.keepIn K (.ref fD) = true)
    (GM19 : FnOk P w K mg base CX0 1 fM19 fdM19 ["_law_letter", "_law_number"] spModules) (bM19 : Binds K fdM19 ["_law_letter", "_law_number"] []) (gM19 : mg "_law_modules" = some (.ref fM19)) (kM19 : PySem.W.keepIn K (.ref fM19) = true)
    (GO : FnOk P w K mg base CX0 11 fO fdO ["_law_modules_here", "_law_entry"] (spTold CPr CS CM CP)) (bO : Binds K fdO ["_law_modules_here", "_law_entry"] []) (gO : mg "_law_told" = some (.ref fO)) (kO : PySem.W.keepIn K (.ref fO) = true)
    (GP : FnOk P w K mg base (L2.CX P w) 9 fPr fdPr ["self", "modules", "entry"] (spProg CPr CS CM CP CBM CBN)) (bP : Binds K fdPr ["self", "modules", "entry"] []) (hv1 : Vals [V.str "main"] ds1) (bP1 : Binds K fdPr ["self", "modules", "entry"] ds1)
    (GR : FnOk P w K mg base CX0 2 fRo fdRo ["self", "name"] (spRows CPr CS CM CP)) (bR : Binds K fdRo ["self", "name"] []) (mR : Meth K CPr "rows_of" fRo)
    (GM : FnOk P w K mg base CX0 4 fMe fdMe ["self", "module", "name"] (spPMean CPr CS CM CP)) (bM : Binds K fdMe ["self", "module", "name"] []) (mM : Meth K CPr "meaning" fMe)
    (GE : FnOk P w K mg base CX0 2 fEq fdEq ["self", "other"] (spPEq CPr CS CM CP)) (bE : Binds K fdEq ["self", "other"] []) (sE : PySem.W.findIn K (.ref CPr) "__eq__" = some (some (.ref fEq))) (iE : PySem.W.isFn K (.ref fEq) = true) (eM : PySem.W.mroIn K CPr (.type "object") = some true) (eN : PySem.W.findIn K (.ref CPr) "__ne__" = some (some (.builtin "object.__ne__"))) :
    FnOk P w K mg base CX0 12 f fd ["_law_script"] (spLaw K) := by
  refine F.ok scLaw (fun vs H Q E h => ?_) (fun cdv A0 outer s H vs Q E hr h => ?_)
  · obtain ⟨a, ns, rfl, _⟩ := h
    rfl
  · obtain ⟨a, ns, rfl, hS, hlen, q⟩ := h
    have hr1 : Room 1 _ := hr.mono (by decide)
    have hr2 : Room 2 _ := hr.mono (by decide)
    have hr3 : Room 3 _ := hr.mono (by decide)
    have hr4 : Room 4 _ := hr.mono (by decide)
    have hr10 : Room 10 _ := hr.mono (by decide)
    refine ⟨_, pss_cons (ps_for PassesOwn.never rfl (pi_range1 rfl zr (pa_cons (pe_callB (call_max2 rfl) (by rfl) zM (by decide +kernel) (pa_cons pe_int (pa_cons (pe_callB (call_min2 rfl) (by rfl) zm (by decide +kernel) (pa_cons (pe_callB call_len_seq (by rfl) zl PySem.boot_len (pa_cons (pv 0) pa_nil)) (pa_cons pe_int pa_nil))) pa_nil))) pa_nil)) (pg_name (i := 1) scLaw.nd rfl (Or.inl rfl))
        (pss_cons (ps_set (i := 2) scLaw.nd rfl (.inl rfl) (pe_call GPo hr1 rfl gPo kPo bPo .nil pass0 (pa_cons (pv 0) (pa_cons (pv 1) pa_nil))))
        (pss_cons (ps_par (i := 3) (j := 4) rfl scLaw.nd rfl rfl (by decide) rfl rfl (pa_cons (pe_item_str pe_str (pe_call GD hr1 rfl gD kD bD .nil pass0 (pa_cons (pv 2) (pa_cons pe_int pa_nil))) (fun _ _ => rfl)) (pa_cons (pe_call GD hr1 rfl gD kD bD .nil pass0 (pa_cons (pv 2) (pa_cons pe_int pa_nil))) pa_nil)) (by rfl))
        (pss_cons (ps_par (i := 5) (j := 6) rfl scLaw.nd rfl rfl (by decide) rfl rfl (pa_cons (pe_call GM19 hr1 rfl gM19 kM19 bM19 .nil pass0 (pa_cons (pv 3) (pa_cons (pe_callTy call_str_int (by rfl) zs b_str (pa_cons (pv 4) pa_nil)) pa_nil))) (pa_cons (pe_op op_add_str pe_str (pv 3)) pa_nil)) (by rfl))
        (pss_cons (ps_set (i := 7) scLaw.nd rfl (.inr rfl) (pe_make (E := fun _ _ _ => False) L.mkP GP hr10 rfl L.gP bP1 hv1 (passes_call takes0 (fun _ _ _ _ h => h)) (pa_cons (pv 5) pa_nil)))
        (pss_cons (ps_if (PW.pt (pw_or (pt_cmpR (op_neD hr.units) (pe_fld (pv 7) rfl) (pe_tupS (pa_cons (pv 6) (pa_cons pe_str (pa_cons pe_str (pa_cons pe_str pa_nil))))) (nomark _)) (pw_or (pt_cmpR (op_neD hr.units) (pe_fld (pv 7) rfl) (pe_tupS (pa_cons (pv 6) pa_nil)) (nomark _)) (pw_or1 (pt_cmpR op_ne (pe_fld (pv 7) rfl) pe_str (nomark _)))))) (pss_one (ps_ret pe_bl)) pss_nil)
        (pss_cons (ps_set (i := 8) scLaw.nd rfl (.inl rfl) (pe_lstS (pa_cons (pe_tupS pa_nil) (pa_cons (pe_tupS (pa_cons (pe_tupS (pa_cons pe_str (pa_cons (pv 6) pa_nil))) (pa_cons (pe_tupS (pa_cons pe_str (pa_cons pe_str (pa_cons (pv 6) pa_nil)))) pa_nil))) (pa_cons (pe_tupS (pa_cons (pe_tupS (pa_cons pe_str (pa_cons (pv 6) pa_nil))) (pa_cons (pe_tupS (pa_cons pe_str (pa_cons pe_str (pa_cons pe_str (pa_cons pe_int pa_nil))))) pa_nil))) (pa_cons (pe_tupS (pa_cons (pv 4) (pa_cons (pv 6) (pa_cons (pv 6) pa_nil)))) pa_nil))))))
        (pss_cons (ps_if (pt_cmpR (op_neD hr.units) (pe_lc (own := [("_law_name", 9)]) (g := gName 9) (tt := tYes) rfl scLaw.nd (pi_tup (pe_fld (pv 7) rfl)) (blkOk_by (N := NLw) (sc := defScope sLaw) (by decide +kernel)) (fun _ _ _ _ _ => pg_name (i := 9) scLaw.nd rfl (Or.inl rfl)) (fun _ _ _ _ _ => pts_nil)
            (fun _ _ _ _ _ => pe_meth (pv 7) T.cPr mR GR hr2 bR .nil pass0 (pa_cons (pv 9) pa_nil))) (pv 8) (nomark _)) (pss_one (ps_ret pe_bl)) pss_nil)
        (pss_cons (ps_set (i := 10) scLaw.nd rfl (.inl rfl) (pe_lstS (pa_cons (pe_tupS (pa_cons pe_str (pa_cons pe_str pa_nil))) (pa_cons (pe_tupS (pa_cons pe_str (pa_cons pe_str pa_nil))) (pa_cons (pe_tupS (pa_cons pe_str (pa_cons pe_str pa_nil))) (pa_cons (pe_tupS (pa_cons pe_str (pa_cons pe_str pa_nil))) (pa_cons (pe_tupS (pa_cons pe_str (pa_cons pe_str pa_nil))) (pa_cons (pe_tupS (pa_cons pe_str (pa_cons pe_str pa_nil))) (pa_cons (pe_tupS (pa_cons pe_str (pa_cons pe_str pa_nil))) (pa_cons (pe_tupS (pa_cons pe_str (pa_cons pe_str pa_nil))) pa_nil))))))))))
        (pss_cons (ps_setLc (i := 11) (own := [("_law_module", 12), ("_law_name", 9)]) (g := gTup K 2 (gCons (gName 12) (gCons (gName 9) gNil))) (tt := tYes) rfl scLaw.nd rfl rfl (sw_true rfl rfl rfl (by decide +kernel)) (pi_list (pe_op op_catS (pv 10) (pe_lstS (pa_cons (pe_tupS (pa_cons pe_str (pa_cons pe_str pa_nil))) pa_nil)))) (blkOk_by (N := NLw) (sc := defScope sLaw) (by decide +kernel))
            (fun _ _ _ _ _ => pg_tup rfl (pgs_cons (pg_name (i := 12) scLaw.nd rfl (Or.inl rfl)) (pgs_cons (pg_name (i := 9) scLaw.nd rfl (Or.inl rfl)) pgs_nil))) (fun _ _ _ _ _ => pts_nil)
            (fun _ _ _ _ _ => pe_meth (pv 7) T.cPr mM GM hr4 bM .nil pass0 (pa_cons (pv 12) (pa_cons (pv 9) pa_nil))))
        (pss_cons (ps_if (pt_cmpR (op_neD hr.units) (pv 11) (pe_lstS (pa_cons (pv 6) (pa_cons (pv 6) (pa_cons (pv 6) (pa_cons pe_str (pa_cons (pv 6) (pa_cons pe_str (pa_cons pe_str (pa_cons pe_str (pa_cons pe_non pa_nil)))))))))) (nomark _)) (pss_one (ps_ret pe_bl)) pss_nil)
        (pss_cons (ps_for PassesOwn.never rfl (pi_list (pe_lstS (pa_cons (pe_tupS (pa_cons pe_str (pa_cons pe_str pa_nil))) (pa_cons (pe_tupS (pa_cons pe_str (pa_cons (pv 6) pa_nil))) (pa_cons (pe_tupS (pa_cons pe_str (pa_cons (pv 6) pa_nil))) (pa_cons (pe_tupS (pa_cons pe_str (pa_cons pe_str pa_nil))) (pa_cons (pe_tupS (pa_cons pe_str (pa_cons (pv 6) pa_nil))) pa_nil))))))) (pg_tup rfl (pgs_cons (pg_name (i := 13) scLaw.nd rfl (Or.inl rfl)) (pgs_cons (pg_name (i := 14) scLaw.nd rfl (Or.inl rfl)) pgs_nil)))
            (pss_one (ps_if (pt_cmpR op_ne (pe_call GO hr rfl gO kO bO .nil pass0 (pa_cons (pv 5) (pa_cons (pv 13) pa_nil))) (pv 14) (nomark _)) (pss_one (ps_ret pe_bl)) pss_nil)))
        (pss_cons (ps_for PassesOwn.never rfl (pi_list (pe_lstS (pa_cons pe_str (pa_cons pe_str (pa_cons pe_str (pa_cons pe_str (pa_cons pe_str (pa_cons pe_str pa_nil)))))))) (pg_name (i := 13) scLaw.nd rfl (Or.inl rfl))
            (pss_one (ps_if (pt_cmpR (op_neD hr.units) (pe_call GO hr rfl gO kO bO .nil pass0 (pa_cons (pv 5) (pa_cons (pv 13) pa_nil))) (pe_lstS (pa_cons pe_str (pa_cons (pe_callB (r := rReprS) call_reprS (by rfl) L.zr b_repr (pa_cons (pv 13) pa_nil)) pa_nil))) (nomark _)) (pss_one (ps_ret pe_bl)) pss_nil)))
        (pss_one (ps_if (PW.pt (pw_or (pt_cmpR (op_eqO GE sE iE bE pass0 hr2) (pe_make (E := fun _ _ _ => False) L.mkP GP hr10 rfl L.gP bP .nil (passes_call takes0 (fun _ _ _ _ h => h)) (pa_cons (pv 5) (pa_cons pe_str pa_nil))) (pv 7) (nomark _)) (pw_or1 (pt_cmpR (op_neO GE eM eN sE iE bE pass0 hr3) (pe_make (E := fun _ _ _ => False) L.mkP GP hr10 rfl L.gP bP .nil (passes_call takes0 (fun _ _ _ _ h => h)) (pa_cons (pv 5) (pa_cons pe_str pa_nil))) (pe_make (E := fun _ _ _ => False) L.mkP GP hr10 rfl L.gP bP .nil (passes_call takes0 (fun _ _ _ _ h => h)) (pa_cons (pv 5) (pa_cons pe_str pa_nil))) (nomark _))))) (pss_one (ps_ret pe_bl)) pss_nil)))))))))))))))
      (pss_one (ps_ret pe_bl)), ?main⟩
    case main =>
      have hJ : ∀ L : Int, 0 ≤ L → 1 ≤ (if (if (3 : Int) < L then 3 else L) > 1 then (if (3 : Int) < L then 3 else L) else 1) ∧ (if (if (3 : Int) < L then 3 else L) > 1 then (if (3 : Int) < L then 3 else L) else 1) ≤ 3 := by
        intro L hL
        repeat' split
        all_goals omega
      have hJ1 := hJ ((ns.map V.int).length : Int) (Int.natCast_nonneg _)
      refine ⟨.ref a, rfl, a, _, rfl, .inl hS, _, _, rfl, _, _, rfl, _, rfl, ?_, ?_, ?_⟩
      · show -(2 ^ 62) ≤ (if (if (3 : Int) < ((ns.map V.int).length : Int) then 3 else ((ns.map V.int).length : Int)) > 1 then (if (3 : Int) < ((ns.map V.int).length : Int) then 3 else ((ns.map V.int).length : Int)) else 1)
        omega
      · show (if (if (3 : Int) < ((ns.map V.int).length : Int) then 3 else ((ns.map V.int).length : Int)) > 1 then (if (3 : Int) < ((ns.map V.int).length : Int) then 3 else ((ns.map V.int).length : Int)) else 1) < 2 ^ 62
        omega
      refine for_range (fun i σ H' => ∃ y1 y2 y3 y4 y5 y6 y7 y8 y9 y10 y11 y12 y13 y14, σ = [some (.ref a), y1, y2, y3, y4, y5, y6, y7, y8, y9, y10, y11, y12, y13, y14] ∧ Same H H') ⟨_, _, _, _, _, _, _, _, _, _, _, _, _, _, rfl, Same.refl H⟩ ?turn (fun σ H' _ => q H')
      rintro i σ H1 hi ⟨y1, y2, y3, y4, y5, y6, y7, y8, y9, y10, y11, y12, y13, y14, rfl, s1⟩
      have hi3 : i < 3 := by
        have : i < (if (if (3 : Int) < ((ns.map V.int).length : Int) then 3 else ((ns.map V.int).length : Int)) > 1 then (if (3 : Int) < ((ns.map V.int).length : Int) then 3 else ((ns.map V.int).length : Int)) else 1).toNat := hi
        omega
      clear hi hJ hJ1
      refine ⟨.ref a, rfl, .int (0 + (i : Int)), rfl, a, ns, i, by simp, s1.seq hS, by omega, hlen, fun H2 p s2 np L2 => ?_⟩
      have np0 : H p = none := s1.free np
      have s02 : Same H H2 := s1.trans s2
      -- the letter, the number
      refine ⟨.ref p, rfl, p, 4, rfl, by decide, by decide, L2, fun H3 r o3 L3 hr4' => ?_⟩
      obtain ⟨c, hc, hl⟩ := let_at r hr4'
      have l4 : ("gh9z" : Str).length = 4 := by decide +kernel
      refine ⟨_, (r : Int), c, rfl, rfl, by omega, by omega, by omega, hc, .ref p, rfl, p, 100, rfl, by decide, by decide, L3, fun H4 n o4 L4 hn => ⟨_, _, rfl, ?_⟩⟩
      generalize (⟨#[c]⟩ : Str) = l at hl
      have s04 : Same H H4 := Off.same s02 np0 (o3.trans o4)
      have shp := sh_pie l hl
      -- the modules
      refine ⟨.str l, rfl, .int (n : Int), rfl, _, rfl, log_i n (by omega), l, n, rfl, hl, hn, fun H5 d s5 n5 e5 => ⟨_, rfl, _, _, rfl, rfl, le1000 shp.2.2.2, _, _, rfl, ?_⟩⟩
      obtain ⟨ms, R⟩ := works hl hn
      obtain ⟨m1, m2, m3⟩ := R.right "main" "a.main" (List.mem_cons_self ..)
      refine ⟨.ref d, rfl, fun x dx nx ndx ne => ?_⟩
      have s6 : Same H5 (upd (upd H5 dx (.own x)) x (.ins CPr dx [])) := fun b o e => by rw [upd_ne (ne_of_none e nx), upd_ne (ne_of_none e ndx)]; exact e
      have ex : upd (upd H5 dx (.own x)) x (.ins CPr dx []) x = some (.ins CPr dx []) := upd_same
      refine ⟨x, dx, d, _, ms, "main", rfl, by decide, ex, s6 _ _ e5, R.pin, fun m i e => ?_, fun _ => ⟨m1, fun e => ?_, fun e he => ?_⟩⟩
      · rw [R.bad] at e
        cases e
      · rw [m2] at e
        cases e
      rw [m2] at he
      cases he
      refine ⟨pr l ms "a.main", rfl, rfl, m3, fun H8 o8 pa => ⟨rfl, ?_⟩⟩
      have s58 : Same H5 H8 := fun b o e => o8 _ _ (ne_of_none e nx) (s6 _ _ e)
      have s08 : Same H H8 := s04.trans (s5.trans s58)
      have e8 := s58 _ _ e5
      have pa' := pa
      obtain ⟨dxp, sc, dp, tp, dk, dr, tt, g1, g2, g3, g4, g5, g6⟩ := pa'
      clear o8 s6 ex o3 o4 L2 L3 L4 hc
      -- pieces, taken, entry
      refine ⟨.ref x, rfl, x, CPr, dxp, _, .ref tp, rfl, g1, T.cPr, T.nPi, rfl, _, rfl, (by show 4 ≤ 1000; decide), fun t1 G1 u1 w1 f1 => ?_⟩
      refine ⟨.tuple ((pieP l).map PyData.str), .tuple ((pieP l).map PyData.str), .tup (SqT.of (u1 _ _ g3)) (dp_txs (pieP l)), .tup (SqT.of f1) (dp_txs (pieP l)), shp.1, shp.1, _, rfl, ?_⟩
      rw [SeqAt.eqv_refl _ (SeqAt.canLay_of_shaped shp.1)]
      refine iteF ?_
      refine ⟨.ref x, rfl, x, CPr, dxp, _, .ref tt, rfl, u1 _ _ g1, T.cPr, T.nTa, rfl, _, rfl, (by show 1 ≤ 1000; decide), fun t2 G2 u2 w2 f2 => ?_⟩
      refine ⟨.tuple ([KN.F l].map PyData.str), .tuple ([KN.F l].map PyData.str), .tup (SqT.of (u2 _ _ (u1 _ _ g6))) (dp_txs [KN.F l]), .tup (SqT.of f2) (dp_txs [KN.F l]), shp.2.1, shp.2.1, _, rfl, ?_⟩
      rw [SeqAt.eqv_refl _ (SeqAt.canLay_of_shaped shp.2.1)]
      refine iteF ?_
      have u12 := u1.trans u2
      refine ⟨.ref x, rfl, x, CPr, dxp, _, _, rfl, u12 _ _ g1, T.cPr, T.nEn, rfl, rfl, _, rfl, iteNS rfl ?_⟩
      -- the rows
      refine ⟨(by show 0 ≤ 1000; decide), fun a0 A0' v0 x0 h0 => ⟨_, rfl, (by show 2 ≤ 1000; decide), fun a1 A1 v1 x1 h1 => ⟨_, rfl, (by show 3 ≤ 1000; decide), fun a2 A2 v2 x2 h2 => ⟨(by show 2 ≤ 1000; decide), fun a3 A3 v3 x3 h3 => ?_⟩⟩⟩⟩
      refine ⟨_, rfl, (by show 2 ≤ 1000; decide), fun b1 B1 v4 x4 h4 => ⟨(by show 4 ≤ 1000; decide), fun b2 B2 v5 x5 h5 => ⟨(by show 2 ≤ 1000; decide), fun b3 B3 v6 x6 h6 => ⟨_, rfl, _, rfl, _, rfl, (by show 3 ≤ 1000; decide), fun c1 C1 v7 x7 h7 => ⟨(by show 4 ≤ 1000; decide), fun dl G3 u3' x8 f3 => ?_⟩⟩⟩⟩⟩
      have w67 := v7.trans u3'
      have w57 := v6.trans w67
      have w47 := v5.trans w57
      have w37 := v4.trans w47
      have w27 := v3.trans w37
      have w17 := v2.trans w27
      have w07 := v1.trans w17
      have u3 : Same H8 G3 := u12.trans (v0.trans w07)
      have dpD : Dp K G3 (.ref dl) (dueD l n) := by
        refine .lst (SqL.of f3) (.cons ?_ (.cons ?_ (.cons ?_ (.cons ?_ .nil))))
        · exact .tup (SqT.of (w07 _ _ h0)) .nil
        · exact .tup (SqT.of (w37 _ _ h3)) (.cons (.tup (SqT.of (w17 _ _ h1)) (.cons (.str _) (.cons (.str _) .nil))) (.cons (.tup (SqT.of (w27 _ _ h2)) (.cons (.str _) (.cons (.str _) (.cons (.str _) .nil)))) .nil))
        · exact .tup (SqT.of (w67 _ _ h6)) (.cons (.tup (SqT.of (w47 _ _ h4)) (.cons (.str _) (.cons (.str _) .nil))) (.cons (.tup (SqT.of (w57 _ _ h5)) (.cons (.str _) (.cons (.str _) (.cons (.str _) (.cons (.int _) .nil))))) .nil))
        · exact .tup (SqT.of (u3' _ _ h7)) (.cons (.int _) (.cons (.str _) (.cons (.str _) .nil)))
      have gx := u3 _ _ g1
      have pa3 := pa.mono (Ke.of u3)
      clear h0 h1 h2 h3 h4 h5 h6 h7 f1 f2 f3 w07 w17 w27 w37 w47 w57 w67 v0 v1 v2 v3 v4 v5 v6 v7 u3' u12 u1 u2 x0 x1 x2 x3 x4 x5 x6 x7 x8 w1 w2
      refine ⟨.ref x, rfl, x, CPr, dxp, _, .ref tp, rfl, gx, T.cPr, T.nPi, rfl, tp, rfl, ⟨_, SqT.of (u3 _ _ g3)⟩, fun D hD => ?_⟩
      refine lc_tup (xs := (pieP l).map V.str) (fun j H' => Same G3 H' ∧ ∃ acc, H' D = some (.lst acc) ∧ Paired (RowsR H') ((dueP l n).take j) acc) ⟨same_new hD, [], upd_same, .nil⟩ (fun _ _ _ h => SqT.of (h.1 _ _ (u3 _ _ g3))) (fun j y H' hy hh => ?_) (fun H' hh => ?_)
      · obtain ⟨sj, acc, eD, pacc⟩ := hh
        obtain ⟨fj, hfj, rfl⟩ : ∃ fj, (pieP l)[j]? = some fj ∧ y = .str fj := by
          rw [List.getElem?_map] at hy
          cases e : (pieP l)[j]? with
          | none => rw [e] at hy; cases hy
          | some z => rw [e] at hy; cases hy; exact ⟨z, rfl, rfl⟩
        have hj4 : j < 4 := (List.getElem?_eq_some_iff.mp hfj).1
        obtain ⟨rs, hrs⟩ : ∃ rs, (dueP l n)[j]? = some rs := ⟨_, List.getElem?_eq_getElem (show j < (dueP l n).length from hj4)⟩
        obtain ⟨d1, d2⟩ := due_at hl n j fj rs hfj hrs
        refine ⟨rfl, .ref x, rfl, x, dxp, _, rfl, sj _ _ gx, rfl, .str fj, rfl, x, pr l ms "a.main", fj, rs, rfl, pa3.mono (Ke.of sj), ?_, ?_, fun v hv => ⟨acc, eD, ?_, fun b o eb => ?_, acc ++ [v], upd_same, ?_⟩⟩
        · exact look_mem.mpr (by rw [R.kk]; exact d2)
        · rw [R.rows]
          exact d1
        · rw [← pacc.length, List.length_take]
          exact small1000 (by have : (dueP l n).length = 4 := rfl; omega)
        · rw [upd_ne (ne_of_none eb hD)]
          exact sj _ _ eb
        · have fD : Fix CP H' (upd H' D (.lst (acc ++ [v]))) := Fix.lst eD
          rw [List.take_add_one, hrs]
          exact pair_snoc (pair_mono (fun _ _ h => h.mono fD) pacc) (hv.mono fD)
      obtain ⟨s4, acc, eD, pacc⟩ := hh
      rw [show (dueP l n).take ((pieP l).map V.str).length = dueP l n from rfl] at pacc
      have dps : ∀ {rl : List (List MR)} {vl : List V}, Paired (RowsR H') rl vl → (∀ rs ∈ rl, ∀ r ∈ rs, FlatR r) → DpAll K H' vl (rl.map rowsD) := by
        intro rl vl h
        induction h with
        | nil => intro _; exact .nil
        | cons k t ih => intro fl; exact .cons (dp_rowsG k (fl _ (List.mem_cons_self ..))) (ih fun rs hr => fl rs (List.mem_cons_of_mem _ hr))
      have shd := (sh_due l hl n hn).1
      refine ⟨_, rfl, dueD l n, dueD l n, .lst (SqL.of eD) (dps pacc (flat_due hl hn)), Dp_mono s4 _ _ dpD, shd, shd, _, rfl, ?_⟩
      rw [SeqAt.eqv_refl _ (SeqAt.canLay_of_shaped shd)]
      refine iteF ?_
      -- what is asked
      have pa4 := pa3.mono (Ke.of s4)
      have gx4 := s4 _ _ gx
      clear dps pacc eD dpD pa3
      refine ⟨(by show 2 ≤ 1000; decide), fun a1 A1 v1 x1 h1 => ⟨(by show 2 ≤ 1000; decide), fun a2 A2 v2 x2 h2 => ⟨(by show 2 ≤ 1000; decide), fun a3 A3 v3 x3 h3 => ⟨(by show 2 ≤ 1000; decide), fun a4 A4 v4 x4 h4 => ?_⟩⟩⟩⟩
      refine ⟨(by show 2 ≤ 1000; decide), fun a5 A5 v5 x5 h5 => ⟨(by show 2 ≤ 1000; decide), fun a6 A6 v6 x6 h6 => ⟨(by show 2 ≤ 1000; decide), fun a7 A7 v7 x7 h7 => ⟨(by show 2 ≤ 1000; decide), fun a8 A8 v8 x8 h8 => ⟨(by show 8 ≤ 1000; decide), fun al G5 v9 x9 h9 => ?_⟩⟩⟩⟩⟩
      refine ⟨_, rfl, (by show 2 ≤ 1000; decide), fun a9 A9 v10 x10 h10 => ⟨(by show 1 ≤ 1000; decide), fun bl A10 v11 x11 h11 => ⟨al, bl, _, _, rfl, rfl, v11 _ _ (v10 _ _ h9), h11, (by show 8 + 1 ≤ 1000; decide), fun cl G6 v12 x12 h12 => ⟨cl, rfl, ⟨_, SqL.of h12⟩, fun D2 hD2 => ?_⟩⟩⟩⟩
      have z67 : Same A8 G6 := v9.trans (v10.trans (v11.trans v12))
      have z57 := v8.trans z67
      have z47 := v7.trans z57
      have z37 := v6.trans z47
      have z27 := v5.trans z37
      have z17 := v4.trans z27
      have z07 := v3.trans z17
      have zz7 := v2.trans z07
      have sG6 : Same H' G6 := v1.trans zz7
      have tw : Paired (TwoAt G6) (asked l) ([V.ref a1, .ref a2, .ref a3, .ref a4, .ref a5, .ref a6, .ref a7, .ref a8] ++ [.ref a9]) :=
        .cons ⟨a1, rfl, zz7 _ _ h1⟩ (.cons ⟨a2, rfl, z07 _ _ h2⟩ (.cons ⟨a3, rfl, z17 _ _ h3⟩ (.cons ⟨a4, rfl, z27 _ _ h4⟩ (.cons ⟨a5, rfl, z37 _ _ h5⟩ (.cons ⟨a6, rfl, z47 _ _ h6⟩ (.cons ⟨a7, rfl, z57 _ _ h7⟩ (.cons ⟨a8, rfl, z67 _ _ h8⟩ (.cons ⟨a9, rfl, (v11.trans v12) _ _ h10⟩ .nil))))))))
      have pa6 := pa4.mono (Ke.of sG6)
      have gx6 := sG6 _ _ gx4
      have sokP : ScOk (pr l ms "a.main").ms (pr l ms "a.main").s := R.pin.sok
      have sho := short_all l hl
      clear h1 h2 h3 h4 h5 h6 h7 h8 h9 h10 h11 z67 z57 z47 z37 z27 z17 z07 zz7 v1 v2 v3 v4 v5 v6 v7 v8 v9 v10 v11 v12 x1 x2 x3 x4 x5 x6 x7 x8 x9 x10 x11 x12 pa4
      refine lc_list (xs := [V.ref a1, .ref a2, .ref a3, .ref a4, .ref a5, .ref a6, .ref a7, .ref a8] ++ [.ref a9]) (fun j H7 => Same G6 H7 ∧ H7 D2 = some (.lst ((foundV l).take j))) ⟨same_new hD2, upd_same⟩ (fun _ _ _ h => SqL.of (h.1 _ _ h12)) (fun j y H7 hy hh => ?_) (fun H7 hh => ?_)
      · obtain ⟨s7, eD2⟩ := hh
        obtain ⟨⟨m, z, o⟩, hq, t, ht, et⟩ := pair_get tw hy
        subst ht
        have et7 := s7 _ _ et
        have hm := List.mem_of_getElem? hq
        refine ⟨t, [.str m, .str z], rfl, SqT.of et7, rfl, _, [.str z], rfl, _, [], rfl, rfl, rfl, .ref x, rfl, x, dxp, _, rfl, s7 _ _ gx6, rfl, .str m, rfl, .str z, rfl, x, pr l ms "a.main", m, z, rfl, pa6.mono (Ke.of s7), sokP, of_decide_eq_true (List.all_eq_true.mp sho.1 _ hm), fun H9 s9 => ?_⟩
        rw [R.ask "a.main" m z o hm]
        refine ⟨_, s9 _ _ eD2, ?_, fun b ob eb => ?_, ?_⟩
        · rw [List.length_take]
          exact small1000 (by have : (foundV l).length = 9 := rfl; omega)
        · rw [upd_ne (ne_of_none eb hD2)]
          exact s9 _ _ (s7 _ _ eb)
        · rw [upd_same, List.take_add_one]
          have : (foundV l)[j]? = some (optS o) := by
            unfold foundV
            rw [List.getElem?_map, hq]
            rfl
          rw [this]
          rfl
      obtain ⟨s7, eD2⟩ := hh
      have eD2 : H7 D2 = some (.lst (foundV l)) := eD2
      refine ⟨_, rfl, _, rfl, _, rfl, _, rfl, _, rfl, (by show 9 ≤ 1000; decide), fun fl G7 k7 j7 f7 => ?_⟩
      have dpF : ∀ {H : Hp} {b : Addr}, H b = some (.lst (foundV l)) → Dp K H (.ref b) (foundD l) := fun {H b} e => .lst (SqL.of e) (.cons (.str _) (.cons (.str _) (.cons (.str _) (.cons (.str _) (.cons (.str _) (.cons (.str _) (.cons (.str _) (.cons (.str _) (.cons .non .nil)))))))))
      refine ⟨foundD l, foundD l, dpF (k7 _ _ eD2), dpF f7, shp.2.2.1, shp.2.2.1, _, rfl, ?_⟩
      rw [SeqAt.eqv_refl _ (SeqAt.canLay_of_shaped shp.2.2.1)]
      refine iteF ?_
      -- the entries
      refine ⟨(by show 2 ≤ 1000; decide), fun a1' A1 v1 x1 h1 => ⟨_, rfl, (by show 2 ≤ 1000; decide), fun a2' A2 v2 x2 h2 => ⟨_, rfl, (by show 2 ≤ 1000; decide), fun a3' A3 v3 x3 h3 => ⟨(by show 2 ≤ 1000; decide), fun a4' A4 v4 x4 h4 => ⟨_, rfl, (by show 2 ≤ 1000; decide), fun a5' A5 v5 x5 h5 => ⟨(by show 5 ≤ 1000; decide), fun el G8 v6 x6 h6 => ⟨el, rfl, ⟨_, SqL.of h6⟩, ?_⟩⟩⟩⟩⟩⟩⟩
      have en : Paired (EntAt G8) (ents l) [V.ref a1', .ref a2', .ref a3', .ref a4', .ref a5'] :=
        .cons ⟨a1', rfl, (v2.trans (v3.trans (v4.trans (v5.trans v6)))) _ _ h1⟩ (.cons ⟨a2', rfl, (v3.trans (v4.trans (v5.trans v6))) _ _ h2⟩ (.cons ⟨a3', rfl, (v4.trans (v5.trans v6)) _ _ h3⟩ (.cons ⟨a4', rfl, (v5.trans v6) _ _ h4⟩ (.cons ⟨a5', rfl, v6 _ _ h5⟩ .nil))))
      have s88 : Same H8 G8 := u3.trans (s4.trans (sG6.trans (s7.trans (k7.trans (v1.trans (v2.trans (v3.trans (v4.trans (v5.trans v6)))))))))
      have e88 := s88 _ _ e8
      clear h1 h2 h3 h4 h5 v1 v2 v3 v4 v5 v6 x1 x2 x3 x4 x5 x6 dpF eD2 f7 tw
      refine for_list (xs := [V.ref a1', .ref a2', .ref a3', .ref a4', .ref a5']) (fun j σ H' => ∃ y13 y14, σ = [some (.ref a), some (.int (0 + (i : Int))), some (.ref p), some (.str l), some (.int (n : Int)), some (.ref d), some (.str (KN.F l)), some (.ref x), some (.ref dl), y9, some (.ref al), some (.ref D2), y12, y13, y14] ∧ Same G8 H')
        ⟨_, _, rfl, Same.refl G8⟩ (fun _ _ _ _ ⟨_, _, _, o⟩ => SqL.of (o _ _ h6)) (fun j y σ H9 hy ⟨z13, z14, hσ, s9⟩ => ?_) (fun σ H9 ⟨z13, z14, hσ, s9⟩ => ?_)
      · subst hσ
        obtain ⟨⟨z, e⟩, hq, t, ht, et⟩ := pair_get en hy
        subst ht
        have et9 := s9 _ _ et
        have hm := List.mem_of_getElem? hq
        obtain ⟨m1, m2, m3⟩ := R.right z e hm
        refine ⟨t, [.str z, .str e], rfl, SqT.of et9, rfl, _, [.str e], rfl, _, [], rfl, rfl, ?_⟩
        refine ⟨.ref d, rfl, .str z, rfl, d, _, ms, z, rfl, s9 _ _ e88, of_decide_eq_true (List.all_eq_true.mp sho.2.1 _ hm), R.pin, R.bad, m1, .inl ⟨pr l ms e, m2, rfl, m3, fun H' s' => ⟨_, rfl, rfl, _, rfl, iteNS rfl ⟨_, _, rfl, s9.trans s'⟩⟩⟩⟩
      · subst hσ
        refine ⟨(by show 6 ≤ 1000; decide), fun bl' G9 k9 j9 f9 => ⟨bl', rfl, ⟨_, SqL.of f9⟩, ?_⟩⟩
        have s89 := s9.trans k9
        refine for_list (xs := bads.map V.str) (fun j σ H' => ∃ y13 y14, σ = [some (.ref a), some (.int (0 + (i : Int))), some (.ref p), some (.str l), some (.int (n : Int)), some (.ref d), some (.str (KN.F l)), some (.ref x), some (.ref dl), y9, some (.ref al), some (.ref D2), y12, y13, y14] ∧ Same G9 H')
          ⟨_, _, rfl, Same.refl G9⟩ (fun _ _ _ _ ⟨_, _, _, o⟩ => SqL.of (o _ _ f9)) (fun j y σ H10 hy ⟨z13, z14, hσ, s10⟩ => ?_) (fun σ H10 ⟨z13, z14, hσ, s10⟩ => ?_)
        · subst hσ
          obtain ⟨z, hz, rfl⟩ : ∃ z, z ∈ bads ∧ y = .str z := by
            obtain ⟨z, h1, h2⟩ := List.mem_map.mp (List.mem_of_getElem? hy)
            exact ⟨z, h1, h2.symm⟩
          obtain ⟨b1, b2, b3⟩ := bad_ok z hz
          obtain ⟨w1, w2⟩ := R.wrong z hz
          have b2' : (reprText z).length ≤ sizeLine := le1000 b2
          refine ⟨.ref d, rfl, .str z, rfl, d, _, ms, z, rfl, s10 _ _ (s89 _ _ e88), b1, R.pin, R.bad, w1, .inr ⟨w2, b2', fun H' l1 s' n' e' => ?_⟩⟩
          refine ⟨_, rfl, z, rfl, b2', (by show 2 ≤ 1000; decide), fun l2 H2 s2' n2 e2' => ?_⟩
          refine ⟨_, _, dp_list (l := [("name" : Str), reprText z]) (SqL.of (s2' _ _ e')), dp_list (l := [("name" : Str), reprText z]) (SqL.of e2'), b3, b3, _, rfl, ?_⟩
          rw [SeqAt.eqv_refl _ (SeqAt.canLay_of_shaped b3)]
          exact iteF ⟨_, _, rfl, s10.trans (s'.trans s2')⟩
        · subst hσ
          -- compared with each other
          have s810 := s88.trans (s89.trans s10)
          have pa10 := pa.mono (Ke.of s810)
          have e810 := s810 _ _ e8
          have hx1 : (("x" : Str), KN.F l) ∈ ents l := by unfold ents; simp
          have hu1 : (("u" : Str), KN.F l) ∈ ents l := by unfold ents; simp
          have gOf : ∀ {H : Hp} {b : Addr} {pp : Pr}, ProgAt CPr CS CM CP H b pp → ∃ dx fs, H b = some (.ins CPr dx fs) := fun {H b pp} h => by
            obtain ⟨dx, _, _, _, _, _, _, h, _⟩ := h
            exact ⟨dx, _, h⟩
          refine ⟨.ref d, rfl, fun xa dxa nxa ndxa nea => ?_⟩
          refine mk_prog (d := d) R hx1 (by decide) e810 nxa ndxa (fun H11 s11 paA => ⟨rfl, ?_⟩)
          obtain ⟨qa, fa, ga⟩ := gOf paA
          obtain ⟨qx, fx, gx0⟩ := gOf (pa10.mono (Ke.of s11))
          refine ⟨.ref x, rfl, xa, x, _, _, _, _, rfl, rfl, ga, gx0, xa, x, _, _, rfl, paA, pa10.mono (Ke.of s11), .inl ⟨of_decide_eq_true sho.2.2, false, rfl, _, rfl, iteF ?_⟩⟩
          have e811 := s11 _ _ e810
          refine ⟨.ref d, rfl, fun xb dxb nxb ndxb neb => ?_⟩
          refine mk_prog (d := d) R hx1 (by decide) e811 nxb ndxb (fun H12 s12 paB => ⟨rfl, ?_⟩)
          refine ⟨.ref d, rfl, fun xc dxc nxc ndxc nec => ?_⟩
          refine mk_prog (d := d) R hu1 (by decide) (s12 _ _ e811) nxc ndxc (fun H13 s13 paC => ⟨rfl, ?_⟩)
          obtain ⟨qb, fb, gb⟩ := gOf (paB.mono (Ke.of s13))
          obtain ⟨qc, fc, gc⟩ := gOf paC
          refine ⟨xb, xc, _, _, _, _, rfl, rfl, gb, gc, xb, xc, _, _, rfl, paB.mono (Ke.of s13), paC, .inr ⟨rfl, pr_eq hl hn R _ _, true, rfl, _, rfl, iteF ?_⟩⟩
          exact ⟨_, _, _, _, _, _, _, _, _, _, _, _, _, _, rfl, (s08.trans s810).trans (s11.trans (s12.trans s13))⟩
end
end KN

set_option Elab.async false
set_option linter.all false
set_option maxRecDepth 100000
set_option maxHeartbeats 8000000
namespace KN
open PySem PySem.Spec PyProof.Rows L2 L2.FK FS TX PG
def entKey (e : DictEntry) : Option Str := match e.key with
  | .str x _ => some x
  | _ => none
def tFn (as : List Addr) (z : Str) : Addr := (((FORM.map Prod.fst).zip as).lookup z).getD 0
theorem find_none {z : Str} : ∀ {es : List DictEntry} {ks : List Str}, es.map entKey = ks.map some → ks.contains z = false → es.find? (·.key.isStr z) = none ∧ es.any (·.refKey) = false
  | [], [], _, _ => ⟨rfl, rfl⟩
  | e :: es, k :: ks, h, hz => by
    have h1 : entKey e = some k := by injection h
    have h2 : es.map entKey = ks.map some := by injection h
    rw [List.contains_cons, Bool.or_eq_false_iff] at hz
    obtain ⟨i1, i2⟩ := find_none h2 hz.2
    unfold entKey at h1
    split at h1
    · rename_i x t ek
      have ex : x = k := Option.some.inj h1
      subst ex
      have hne : (x == z) = false := by
        have := hz.1
        rw [Bool.beq_comm] at this
        exact this
      constructor
      · rw [List.find?_cons]
        have : e.key.isStr z = false := by rw [ek]; exact hne
        rw [this]
        exact i1
      · rw [List.any_cons, i2, Bool.or_false]
        unfold DictEntry.refKey
        rw [ek]
        try rfl
    · cases h1
theorem ns_none {K : PySem.W.Frag} {d : Addr} {es : Array DictEntry} {n : Nat} {oc : Value} {od : Option Addr} {sl : Array (Option Value)} {z : Str} {ks : List Str} (l : K.lookup d = some ⟨oc, od, .dict es n, sl⟩) (h : es.toList.map entKey = ks.map some) (hz : ks.contains z = false) : PySem.W.nsIn K d z = some none := by
  obtain ⟨h1, h2⟩ := find_none h hz
  unfold PySem.W.nsIn
  rw [l]
  show (match es.toList.find? (·.key.isStr z) with | some e => some (some e.val) | none => if es.toList.any (·.refKey) then none else some none) = _
  rw [h1]
  show (if es.toList.any (·.refKey) = true then none else some none) = _
  rw [h2]
  rfl
theorem exm_own {K : PySem.W.Frag} {C : Addr} (a : PySem.W.subIn K (.ref C) (.type "BaseException") = some true) (b : PySem.W.isClsIn K C = true) (c : PySem.W.typeIn K (.ref C) = some (.type "type")) (d : PySem.W.subIn K (.ref C) (.ref C) = some true) : PySem.W.exmOne K (.ref C) (.ref C) = some true := by
  have b' : (PySem.W.clsIn K C).isSome = true := b
  simp [PySem.W.exmOne, PySem.W.kitCls, a, b', c, d]
theorem kt_mk {K : PySem.W.Frag} {a : Addr} {xs : List V} {o : Obj} {its : Array Value} {n : Nat} (x : K.lookup a = some o) (y : o.cls = .type "tuple") (d : o.data = .seq its n) (s : its.size ≤ sizeLine) (v : Vals xs its.toList) : KT K a xs := ⟨o, its, n, x, y, d, s, v⟩
theorem all_mk {l : PySem.W.OpenLaw} {w : World} {K : PySem.W.Frag} {h : Heap} {mg : Str → Option Value} {fa aO aR aK dF g0 g1 g2 g3 g4 g5 g6 g7 g8 g9 g10 g11 fNm fRi fRp fRs fIn fDa fTa fSp fPa fNP fMeR fTkN fPMo fCkm fFnE fLPo fLTk fLMo fLTo fLa CB fB CBM fBM CBN fBN CP CM CD CS CQ fPI fPL fMI fMC fMit fDI fTk fBt fEx fAl fTn fOp fWi fCl fSI fSE fSH fSM fSF fSX fSN fSR fQI fQR fQM fQC fQE : Addr} (X : K.In h) (G : h.Ns mainGlobals mg) (hfa : mg "law" = some (.ref fa))
    {tLE : Tok}
    {tDI : Tok}
    {tL8 : Tok}
    {tMR : Tok}
    {tMP : Tok}
    {tPP : Tok}
    {tMT : Tok}
    {otOT : Obj} {itOT : Array Value} {nnOT : Nat}
    {otRE : Obj} {itRE : Array Value} {nnRE : Nat}
    {otKI : Obj} {itKI : Array Value} {nnKI : Nat}
    {es : Array DictEntry} {nF : Nat}
    {of0 : Obj} {if0 : Array Value} {nf0 : Nat}
    {of1 : Obj} {if1 : Array Value} {nf1 : Nat}
    {of2 : Obj} {if2 : Array Value} {nf2 : Nat}
    {of3 : Obj} {if3 : Array Value} {nf3 : Nat}
    {of4 : Obj} {if4 : Array Value} {nf4 : Nat}
    {of5 : Obj} {if5 : Array Value} {nf5 : Nat}
    {of6 : Obj} {if6 : Array Value} {nf6 : Nat}
    {of7 : Obj} {if7 : Array Value} {nf7 : Nat}
    {of8 : Obj} {if8 : Array Value} {nf8 : Nat}
    {of9 : Obj} {if9 : Array Value} {nf9 : Nat}
    {of10 : Obj} {if10 : Array Value} {nf10 : Nat}
    {of11 : Obj} {if11 : Array Value} {nf11 : Nat}
    {ocNm kVNm dcNm pmNm cdNm ctNm : Value} {odNm anNm : Option Addr} {slNm : Array (Option Value)}
    {ocRi kVRi dcRi pmRi cdRi ctRi : Value} {odRi anRi : Option Addr} {slRi : Array (Option Value)}
    {ocRp kVRp dcRp pmRp cdRp ctRp : Value} {odRp anRp : Option Addr} {slRp : Array (Option Value)}
    {ocRs kVRs dcRs pmRs cdRs ctRs : Value} {odRs anRs : Option Addr} {slRs : Array (Option Value)}
    {ocIn kVIn dcIn pmIn cdIn ctIn : Value} {odIn anIn : Option Addr} {slIn : Array (Option Value)}
    {ocDa kVDa dcDa pmDa cdDa ctDa : Value} {odDa anDa : Option Addr} {slDa : Array (Option Value)}
    {ocTa kVTa dcTa pmTa cdTa ctTa : Value} {odTa anTa : Option Addr} {slTa : Array (Option Value)}
    {ocSp kVSp dcSp pmSp cdSp ctSp : Value} {odSp anSp : Option Addr} {slSp : Array (Option Value)}
    {ocPa kVPa dcPa pmPa cdPa ctPa : Value} {odPa anPa : Option Addr} {slPa : Array (Option Value)}
    {ocNP kVNP dcNP pmNP cdNP ctNP : Value} {odNP anNP : Option Addr} {slNP : Array (Option Value)}
    {ocMeR kVMeR dcMeR pmMeR cdMeR ctMeR : Value} {odMeR anMeR : Option Addr} {slMeR : Array (Option Value)}
    {ocTkN kVTkN dcTkN pmTkN cdTkN ctTkN : Value} {odTkN anTkN : Option Addr} {slTkN : Array (Option Value)}
    {ocPMo kVPMo dcPMo pmPMo cdPMo ctPMo : Value} {odPMo anPMo : Option Addr} {slPMo : Array (Option Value)}
    {ocCkm kVCkm dcCkm pmCkm cdCkm ctCkm : Value} {odCkm anCkm : Option Addr} {slCkm : Array (Option Value)}
    {ocFnE kVFnE dcFnE pmFnE cdFnE ctFnE : Value} {odFnE anFnE : Option Addr} {slFnE : Array (Option Value)}
    {ocLPo kVLPo dcLPo pmLPo cdLPo ctLPo : Value} {odLPo anLPo : Option Addr} {slLPo : Array (Option Value)}
    {ocLTk kVLTk dcLTk pmLTk cdLTk ctLTk : Value} {odLTk anLTk : Option Addr} {slLTk : Array (Option Value)}
    {ocLMo kVLMo dcLMo pmLMo cdLMo ctLMo : Value} {odLMo anLMo : Option Addr} {slLMo : Array (Option Value)}
    {ocLTo kVLTo dcLTo pmLTo cdLTo ctLTo : Value} {odLTo anLTo : Option Addr} {slLTo : Array (Option Value)}
    {ocLa kVLa dcLa pmLa cdLa ctLa : Value} {odLa anLa : Option Addr} {slLa : Array (Option Value)}
    {nxB qB : Str} {NB : Addr} {bsB bmB : List Value} {snB : List Str} {subB : List Value} {abB : Bool} {colB : Option Bool} {ddB : Option Addr} {m0B m1B m2B m3B m5B : Option Value}
    {ocB kVB dcB pmB cdB ctB : Value} {odB anB : Option Addr} {slB : Array (Option Value)}
    {nxBM qBM : Str} {NBM : Addr} {bsBM bmBM : List Value} {snBM : List Str} {subBM : List Value} {abBM : Bool} {colBM : Option Bool} {ddBM : Option Addr} {m0BM m1BM m2BM m3BM m5BM : Option Value}
    {ocBM kVBM dcBM pmBM cdBM ctBM : Value} {odBM anBM : Option Addr} {slBM : Array (Option Value)}
    {nxBN qBN : Str} {NBN : Addr} {bsBN bmBN : List Value} {snBN : List Str} {subBN : List Value} {abBN : Bool} {colBN : Option Bool} {ddBN : Option Addr} {m0BN m1BN m2BN m3BN m5BN : Option Value}
    {ocBN kVBN dcBN pmBN cdBN ctBN : Value} {odBN anBN : Option Addr} {slBN : Array (Option Value)}
    {ocPI kVPI dcPI pmPI cdPI ctPI : Value} {odPI anPI : Option Addr} {slPI : Array (Option Value)}
    {ocPL kVPL dcPL pmPL cdPL ctPL : Value} {odPL anPL : Option Addr} {slPL : Array (Option Value)}
    {ocMI kVMI dcMI pmMI cdMI ctMI : Value} {odMI anMI : Option Addr} {slMI : Array (Option Value)}
    {ocMC kVMC dcMC pmMC cdMC ctMC : Value} {odMC anMC : Option Addr} {slMC : Array (Option Value)}
    {ocMit kVMit dcMit pmMit cdMit ctMit : Value} {odMit anMit : Option Addr} {slMit : Array (Option Value)}
    {ocDI kVDI dcDI pmDI cdDI ctDI : Value} {odDI anDI : Option Addr} {slDI : Array (Option Value)}
    {ocTk kVTk dcTk pmTk cdTk ctTk : Value} {odTk anTk : Option Addr} {slTk : Array (Option Value)}
    {ocBt kVBt dcBt pmBt cdBt ctBt : Value} {odBt anBt : Option Addr} {slBt : Array (Option Value)}
    {ocEx kVEx dcEx pmEx cdEx ctEx : Value} {odEx anEx : Option Addr} {slEx : Array (Option Value)}
    {ocAl kVAl dcAl pmAl cdAl ctAl : Value} {odAl anAl : Option Addr} {slAl : Array (Option Value)}
    {ocTn kVTn dcTn pmTn cdTn ctTn : Value} {odTn anTn : Option Addr} {slTn : Array (Option Value)}
    {ocOp kVOp dcOp pmOp cdOp ctOp : Value} {odOp anOp : Option Addr} {slOp : Array (Option Value)}
    {ocWi kVWi dcWi pmWi cdWi ctWi : Value} {odWi anWi : Option Addr} {slWi : Array (Option Value)}
    {ocCl kVCl dcCl pmCl cdCl ctCl : Value} {odCl anCl : Option Addr} {slCl : Array (Option Value)}
    {ocSI kVSI dcSI pmSI cdSI ctSI : Value} {odSI anSI : Option Addr} {slSI : Array (Option Value)}
    {ocSE kVSE dcSE pmSE cdSE ctSE : Value} {odSE anSE : Option Addr} {slSE : Array (Option Value)}
    {ocSH kVSH dcSH pmSH cdSH ctSH : Value} {odSH anSH : Option Addr} {slSH : Array (Option Value)}
    {ocSM kVSM dcSM pmSM cdSM ctSM : Value} {odSM anSM : Option Addr} {slSM : Array (Option Value)}
    {ocSF kVSF dcSF pmSF cdSF ctSF : Value} {odSF anSF : Option Addr} {slSF : Array (Option Value)}
    {ocSX kVSX dcSX pmSX cdSX ctSX : Value} {odSX anSX : Option Addr} {slSX : Array (Option Value)}
    {ocSN kVSN dcSN pmSN cdSN ctSN : Value} {odSN anSN : Option Addr} {slSN : Array (Option Value)}
    {ocSR kVSR dcSR pmSR cdSR ctSR : Value} {odSR anSR : Option Addr} {slSR : Array (Option Value)}
    {ocQI kVQI dcQI pmQI cdQI ctQI : Value} {odQI anQI : Option Addr} {slQI : Array (Option Value)} {TQI : Addr} {oTQI : Obj} {iTQI : Array Value} {nTQI : Nat}
    {ocQR kVQR dcQR pmQR cdQR ctQR : Value} {odQR anQR : Option Addr} {slQR : Array (Option Value)}
    {ocQM kVQM dcQM pmQM cdQM ctQM : Value} {odQM anQM : Option Addr} {slQM : Array (Option Value)}
    {ocQC kVQC dcQC pmQC cdQC ctQC : Value} {odQC anQC : Option Addr} {slQC : Array (Option Value)}
    {ocQE kVQE dcQE pmQE cdQE ctQE : Value} {odQE anQE : Option Addr} {slQE : Array (Option Value)}
    (aLE : PySem.W.nsIn K mainGlobals "LETTERS" = some (some (.str LET tLE)))
    (aDI : PySem.W.nsIn K mainGlobals "DIGITS" = some (some (.str DIG tDI)))
    (aL8 : PySem.W.nsIn K mainGlobals "LONGEST_NAME" = some (some (.int 8 tL8)))
    (aMR : PySem.W.nsIn K mainGlobals "MOST_ROWS" = some (some (.int 16 tMR)))
    (aMP : PySem.W.nsIn K mainGlobals "MOST_PIECES_texts" = some (some (.int 12 tMP)))
    (aPP : PySem.W.nsIn K mainGlobals "MOST_PIECES_programs" = some (some (.int 12 tPP)))
    (aMT : PySem.W.nsIn K mainGlobals "MOST_TAKEN" = some (some (.int 6 tMT)))
    (aOT : PySem.W.nsIn K mainGlobals "OTHER_WORDS" = some (some (.ref aO)))
    (xOT : K.lookup aO = some otOT) (yOT : otOT.cls = .type "tuple") (dOT : otOT.data = .seq itOT nnOT) (sOT : itOT.size ≤ sizeLine) (vOT : Vals (OTHERS.map V.str) itOT.toList)
    (aRE : PySem.W.nsIn K mainGlobals "REGISTERS" = some (some (.ref aR)))
    (xRE : K.lookup aR = some otRE) (yRE : otRE.cls = .type "tuple") (dRE : otRE.data = .seq itRE nnRE) (sRE : itRE.size ≤ sizeLine) (vRE : Vals (REGS.map V.str) itRE.toList)
    (aKI : PySem.W.nsIn K mainGlobals "KINDS" = some (some (.ref aK)))
    (xKI : K.lookup aK = some otKI) (yKI : otKI.cls = .type "tuple") (dKI : otKI.data = .seq itKI nnKI) (sKI : itKI.size ≤ sizeLine) (vKI : Vals ([.str "func", .str "data"]) itKI.toList)
    (aFO : PySem.W.nsIn K mainGlobals "FORMS" = some (some (.ref dF)))
    (xFO : K.lookup dF = some ⟨.type "dict", none, .dict es nF, #[]⟩) (keFO : es.toList.map entKey = FORM.map fun p => some p.1) (klFO : PySem.W.KeysLit w.params es.toList) (lwFO : (dF == sysModules) = false)
    (e0 : PySem.W.nsIn K dF "call" = some (some (.ref g0))) (x0 : K.lookup g0 = some of0) (y0 : of0.cls = .type "tuple") (d0 : of0.data = .seq if0 nf0) (s0 : if0.size ≤ sizeLine) (v0 : Vals ((["name"] : List Str).map V.str) if0.toList) (u0 : of0.dict = none)
    (e1 : PySem.W.nsIn K dF "callr" = some (some (.ref g1))) (x1 : K.lookup g1 = some of1) (y1 : of1.cls = .type "tuple") (d1 : of1.data = .seq if1 nf1) (s1 : if1.size ≤ sizeLine) (v1 : Vals ((["reg"] : List Str).map V.str) if1.toList) (u1 : of1.dict = none)
    (e2 : PySem.W.nsIn K dF "ret" = some (some (.ref g2))) (x2 : K.lookup g2 = some of2) (y2 : of2.cls = .type "tuple") (d2 : of2.data = .seq if2 nf2) (s2 : if2.size ≤ sizeLine) (v2 : Vals (([] : List Str).map V.str) if2.toList) (u2 : of2.dict = none)
    (e3 : PySem.W.nsIn K dF "addr" = some (some (.ref g3))) (x3 : K.lookup g3 = some of3) (y3 : of3.cls = .type "tuple") (d3 : of3.data = .seq if3 nf3) (s3 : if3.size ≤ sizeLine) (v3 : Vals ((["reg", "name"] : List Str).map V.str) if3.toList) (u3 : of3.dict = none)
    (e4 : PySem.W.nsIn K dF "set" = some (some (.ref g4))) (x4 : K.lookup g4 = some of4) (y4 : of4.cls = .type "tuple") (d4 : of4.data = .seq if4 nf4) (s4 : if4.size ≤ sizeLine) (v4 : Vals ((["reg", "integer"] : List Str).map V.str) if4.toList) (u4 : of4.dict = none)
    (e5 : PySem.W.nsIn K dF "move" = some (some (.ref g5))) (x5 : K.lookup g5 = some of5) (y5 : of5.cls = .type "tuple") (d5 : of5.data = .seq if5 nf5) (s5 : if5.size ≤ sizeLine) (v5 : Vals ((["reg", "reg"] : List Str).map V.str) if5.toList) (u5 : of5.dict = none)
    (e6 : PySem.W.nsIn K dF "read" = some (some (.ref g6))) (x6 : K.lookup g6 = some of6) (y6 : of6.cls = .type "tuple") (d6 : of6.data = .seq if6 nf6) (s6 : if6.size ≤ sizeLine) (v6 : Vals ((["reg", "name", "integer"] : List Str).map V.str) if6.toList) (u6 : of6.dict = none)
    (e7 : PySem.W.nsIn K dF "readr" = some (some (.ref g7))) (x7 : K.lookup g7 = some of7) (y7 : of7.cls = .type "tuple") (d7 : of7.data = .seq if7 nf7) (s7 : if7.size ≤ sizeLine) (v7 : Vals ((["reg", "reg", "integer"] : List Str).map V.str) if7.toList) (u7 : of7.dict = none)
    (e8 : PySem.W.nsIn K dF "same" = some (some (.ref g8))) (x8 : K.lookup g8 = some of8) (y8 : of8.cls = .type "tuple") (d8 : of8.data = .seq if8 nf8) (s8 : if8.size ≤ sizeLine) (v8 : Vals ((["reg", "reg", "to"] : List Str).map V.str) if8.toList) (u8 : of8.dict = none)
    (e9 : PySem.W.nsIn K dF "choose" = some (some (.ref g9))) (x9 : K.lookup g9 = some of9) (y9 : of9.cls = .type "tuple") (d9 : of9.data = .seq if9 nf9) (s9 : if9.size ≤ sizeLine) (v9 : Vals ((["to"] : List Str).map V.str) if9.toList) (u9 : of9.dict = none)
    (e10 : PySem.W.nsIn K dF "tell" = some (some (.ref g10))) (x10 : K.lookup g10 = some of10) (y10 : of10.cls = .type "tuple") (d10 : of10.data = .seq if10 nf10) (s10 : if10.size ≤ sizeLine) (v10 : Vals ((["reg"] : List Str).map V.str) if10.toList) (u10 : of10.dict = none)
    (e11 : PySem.W.nsIn K dF "go" = some (some (.ref g11))) (x11 : K.lookup g11 = some of11) (y11 : of11.cls = .type "tuple") (d11 : of11.data = .seq if11 nf11) (s11 : if11.size ≤ sizeLine) (v11 : Vals ((["to"] : List Str).map V.str) if11.toList) (u11 : of11.dict = none)
    (zisinstance : PySem.W.nsIn K mainGlobals "isinstance" = some none)
    (zstr : PySem.W.nsIn K mainGlobals "str" = some none)
    (zlen : PySem.W.nsIn K mainGlobals "len" = some none)
    (zall : PySem.W.nsIn K mainGlobals "all" = some none)
    (zany : PySem.W.nsIn K mainGlobals "any" = some none)
    (zint : PySem.W.nsIn K mainGlobals "int" = some none)
    (zzip : PySem.W.nsIn K mainGlobals "zip" = some none)
    (ztuple : PySem.W.nsIn K mainGlobals "tuple" = some none)
    (zenumerate : PySem.W.nsIn K mainGlobals "enumerate" = some none)
    (zrange : PySem.W.nsIn K mainGlobals "range" = some none)
    (zlist : PySem.W.nsIn K mainGlobals "list" = some none)
    (zsorted : PySem.W.nsIn K mainGlobals "sorted" = some none)
    (zset : PySem.W.nsIn K mainGlobals "set" = some none)
    (ziter : PySem.W.nsIn K mainGlobals "iter" = some none)
    (zmax : PySem.W.nsIn K mainGlobals "max" = some none)
    (zmin : PySem.W.nsIn K mainGlobals "min" = some none)
    (zabs : PySem.W.nsIn K mainGlobals "abs" = some none)
    (zrepr : PySem.W.nsIn K mainGlobals "repr" = some none)
    (aNm : PySem.W.nsIn K mainGlobals "is_name" = some (some (.ref fNm)))
    (lNm : K.lookup fNm = some ⟨ocNm, odNm, .func (PySem.W.fnOf "is_name" "is_name" (defArgs sIsName) (defBody sIsName) (defScope sIsName) .none kVNm dcNm pmNm anNm cdNm ctNm), slNm⟩) (cNm : PySem.W.codeIn K cdNm "is_name" = true) (kNm : PySem.W.keepIn K (.ref fNm) = true)
    (aRi : PySem.W.nsIn K mainGlobals "read_integer" = some (some (.ref fRi)))
    (lRi : K.lookup fRi = some ⟨ocRi, odRi, .func (PySem.W.fnOf "read_integer" "read_integer" (defArgs sReadInt) (defBody sReadInt) (defScope sReadInt) .none kVRi dcRi pmRi anRi cdRi ctRi), slRi⟩) (cRi : PySem.W.codeIn K cdRi "read_integer" = true) (kRi : PySem.W.keepIn K (.ref fRi) = true)
    (aRp : PySem.W.nsIn K mainGlobals "read_part" = some (some (.ref fRp)))
    (lRp : K.lookup fRp = some ⟨ocRp, odRp, .func (PySem.W.fnOf "read_part" "read_part" (defArgs sReadPart) (defBody sReadPart) (defScope sReadPart) .none kVRp dcRp pmRp anRp cdRp ctRp), slRp⟩) (cRp : PySem.W.codeIn K cdRp "read_part" = true) (kRp : PySem.W.keepIn K (.ref fRp) = true)
    (aRs : PySem.W.nsIn K mainGlobals "read_parts" = some (some (.ref fRs)))
    (lRs : K.lookup fRs = some ⟨ocRs, odRs, .func (PySem.W.fnOf "read_parts" "read_parts" (defArgs sReadParts) (defBody sReadParts) (defScope sReadParts) .none kVRs dcRs pmRs anRs cdRs ctRs), slRs⟩) (cRs : PySem.W.codeIn K cdRs "read_parts" = true) (kRs : PySem.W.keepIn K (.ref fRs) = true)
    (aIn : PySem.W.nsIn K mainGlobals "read_instruction" = some (some (.ref fIn)))
    (lIn : K.lookup fIn = some ⟨ocIn, odIn, .func (PySem.W.fnOf "read_instruction" "read_instruction" (defArgs sReadIns) (defBody sReadIns) (defScope sReadIns) .none kVIn dcIn pmIn anIn cdIn ctIn), slIn⟩) (cIn : PySem.W.codeIn K cdIn "read_instruction" = true) (kIn : PySem.W.keepIn K (.ref fIn) = true)
    (aDa : PySem.W.nsIn K mainGlobals "read_datum" = some (some (.ref fDa)))
    (lDa : K.lookup fDa = some ⟨ocDa, odDa, .func (PySem.W.fnOf "read_datum" "read_datum" (defArgs sReadDat) (defBody sReadDat) (defScope sReadDat) .none kVDa dcDa pmDa anDa cdDa ctDa), slDa⟩) (cDa : PySem.W.codeIn K cdDa "read_datum" = true) (kDa : PySem.W.keepIn K (.ref fDa) = true)
    (aTa : PySem.W.nsIn K mainGlobals "target_of" = some (some (.ref fTa)))
    (lTa : K.lookup fTa = some ⟨ocTa, odTa, .func (PySem.W.fnOf "target_of" "target_of" (defArgs sTarget) (defBody sTarget) (defScope sTarget) .none kVTa dcTa pmTa anTa cdTa ctTa), slTa⟩) (cTa : PySem.W.codeIn K cdTa "target_of" = true) (kTa : PySem.W.keepIn K (.ref fTa) = true)
    (aSp : PySem.W.nsIn K mainGlobals "split_rows" = some (some (.ref fSp)))
    (lSp : K.lookup fSp = some ⟨ocSp, odSp, .func (PySem.W.fnOf "split_rows" "split_rows" (defArgs sSplit) (defBody sSplit) (defScope sSplit) .none kVSp dcSp pmSp anSp cdSp ctSp), slSp⟩) (cSp : PySem.W.codeIn K cdSp "split_rows" = true) (kSp : PySem.W.keepIn K (.ref fSp) = true)
    (aPa : PySem.W.nsIn K mainGlobals "parse_module" = some (some (.ref fPa)))
    (lPa : K.lookup fPa = some ⟨ocPa, odPa, .func (PySem.W.fnOf "parse_module" "parse_module" (defArgs sParse) (defBody sParse) (defScope sParse) .none kVPa dcPa pmPa anPa cdPa ctPa), slPa⟩) (cPa : PySem.W.codeIn K cdPa "parse_module" = true) (kPa : PySem.W.keepIn K (.ref fPa) = true)
    (aNP : PySem.W.nsIn K mainGlobals "name_place" = some (some (.ref fNP)))
    (lNP : K.lookup fNP = some ⟨ocNP, odNP, .func (PySem.W.fnOf "name_place" "name_place" (defArgs PG.sPlace) (defBody PG.sPlace) (defScope PG.sPlace) .none kVNP dcNP pmNP anNP cdNP ctNP), slNP⟩) (cNP : PySem.W.codeIn K cdNP "name_place" = true) (kNP : PySem.W.keepIn K (.ref fNP) = true)
    (aMeR : PySem.W.nsIn K mainGlobals "means_right" = some (some (.ref fMeR)))
    (lMeR : K.lookup fMeR = some ⟨ocMeR, odMeR, .func (PySem.W.fnOf "means_right" "means_right" (defArgs PG.sRight) (defBody PG.sRight) (defScope PG.sRight) .none kVMeR dcMeR pmMeR anMeR cdMeR ctMeR), slMeR⟩) (cMeR : PySem.W.codeIn K cdMeR "means_right" = true) (kMeR : PySem.W.keepIn K (.ref fMeR) = true)
    (aTkN : PySem.W.nsIn K mainGlobals "taken_names" = some (some (.ref fTkN)))
    (lTkN : K.lookup fTkN = some ⟨ocTkN, odTkN, .func (PySem.W.fnOf "taken_names" "taken_names" (defArgs PG.sTaken) (defBody PG.sTaken) (defScope PG.sTaken) .none kVTkN dcTkN pmTkN anTkN cdTkN ctTkN), slTkN⟩) (cTkN : PySem.W.codeIn K cdTkN "taken_names" = true) (kTkN : PySem.W.keepIn K (.ref fTkN) = true)
    (aPMo : PySem.W.nsIn K mainGlobals "parse_modules" = some (some (.ref fPMo)))
    (lPMo : K.lookup fPMo = some ⟨ocPMo, odPMo, .func (PySem.W.fnOf "parse_modules" "parse_modules" (defArgs PG.sMods) (defBody PG.sMods) (defScope PG.sMods) .none kVPMo dcPMo pmPMo anPMo cdPMo ctPMo), slPMo⟩) (cPMo : PySem.W.codeIn K cdPMo "parse_modules" = true) (kPMo : PySem.W.keepIn K (.ref fPMo) = true)
    (aCkm : PySem.W.nsIn K mainGlobals "check_modules" = some (some (.ref fCkm)))
    (lCkm : K.lookup fCkm = some ⟨ocCkm, odCkm, .func (PySem.W.fnOf "check_modules" "check_modules" (defArgs PG.sCheck) (defBody PG.sCheck) (defScope PG.sCheck) .none kVCkm dcCkm pmCkm anCkm cdCkm ctCkm), slCkm⟩) (cCkm : PySem.W.codeIn K cdCkm "check_modules" = true) (kCkm : PySem.W.keepIn K (.ref fCkm) = true)
    (aFnE : PySem.W.nsIn K mainGlobals "find_entry" = some (some (.ref fFnE)))
    (lFnE : K.lookup fFnE = some ⟨ocFnE, odFnE, .func (PySem.W.fnOf "find_entry" "find_entry" (defArgs PG.sEntry) (defBody PG.sEntry) (defScope PG.sEntry) .none kVFnE dcFnE pmFnE anFnE cdFnE ctFnE), slFnE⟩) (cFnE : PySem.W.codeIn K cdFnE "find_entry" = true) (kFnE : PySem.W.keepIn K (.ref fFnE) = true)
    (aLPo : PySem.W.nsIn K mainGlobals "_law_pool" = some (some (.ref fLPo)))
    (lLPo : K.lookup fLPo = some ⟨ocLPo, odLPo, .func (PySem.W.fnOf "_law_pool" "_law_pool" (defArgs TopL.sPool) (defBody TopL.sPool) (defScope TopL.sPool) .none kVLPo dcLPo pmLPo anLPo cdLPo ctLPo), slLPo⟩) (cLPo : PySem.W.codeIn K cdLPo "_law_pool" = true) (kLPo : PySem.W.keepIn K (.ref fLPo) = true)
    (aLTk : PySem.W.nsIn K mainGlobals "_law_take" = some (some (.ref fLTk)))
    (lLTk : K.lookup fLTk = some ⟨ocLTk, odLTk, .func (PySem.W.fnOf "_law_take" "_law_take" (defArgs TopL.sTake) (defBody TopL.sTake) (defScope TopL.sTake) .none kVLTk dcLTk pmLTk anLTk cdLTk ctLTk), slLTk⟩) (cLTk : PySem.W.codeIn K cdLTk "_law_take" = true) (kLTk : PySem.W.keepIn K (.ref fLTk) = true)
    (aLMo : PySem.W.nsIn K mainGlobals "_law_modules" = some (some (.ref fLMo)))
    (lLMo : K.lookup fLMo = some ⟨ocLMo, odLMo, .func (PySem.W.fnOf "_law_modules" "_law_modules" (defArgs KN.sModules) (defBody KN.sModules) (defScope KN.sModules) .none kVLMo dcLMo pmLMo anLMo cdLMo ctLMo), slLMo⟩) (cLMo : PySem.W.codeIn K cdLMo "_law_modules" = true) (kLMo : PySem.W.keepIn K (.ref fLMo) = true)
    (aLTo : PySem.W.nsIn K mainGlobals "_law_told" = some (some (.ref fLTo)))
    (lLTo : K.lookup fLTo = some ⟨ocLTo, odLTo, .func (PySem.W.fnOf "_law_told" "_law_told" (defArgs KN.sTold) (defBody KN.sTold) (defScope KN.sTold) .none kVLTo dcLTo pmLTo anLTo cdLTo ctLTo), slLTo⟩) (cLTo : PySem.W.codeIn K cdLTo "_law_told" = true) (kLTo : PySem.W.keepIn K (.ref fLTo) = true)
    (aLa : PySem.W.nsIn K mainGlobals "law" = some (some (.ref fLa)))
    (lLa : K.lookup fLa = some ⟨ocLa, odLa, .func (PySem.W.fnOf "law" "law" (defArgs KN.sLaw) (defBody KN.sLaw) (defScope KN.sLaw) .none kVLa dcLa pmLa anLa cdLa ctLa), slLa⟩) (cLa : PySem.W.codeIn K cdLa "law" = true) (kLa : PySem.W.keepIn K (.ref fLa) = true)
    (hn : PySem.W.specialIn K (.builtin "object.__class__") "__get__" = some (some (.builtin "getset_descriptor.__get__"))) (ht : PySem.W.takesIn K (.builtin "object.__class__") = some true)
    (aB : PySem.W.nsIn K mainGlobals "BadText" = some (some (.ref CB)))
    (xLB : K.lookup CB = some (excClassObj nxB qB CB NB bsB bmB true snB subB abB colB ddB m0B m1B m2B m3B m5B "ValueError.__new__")) (bvB : PySem.HandSPX.refsVE bmB = true)
    (saB : PySem.W.findIn K (.ref CB) "__setattr__" = some (some (.builtin "object.__setattr__"))) (gaB : PySem.W.findIn K (.ref CB) "__getattribute__" = some (some (.builtin "BaseException.__getattribute__"))) (ggB : PySem.W.findIn K (.ref CB) "__getattr__" = some none)
    (a1B : PySem.W.findIn K (.ref CB) "__init__" = some (some (.ref fB))) (t1B : PySem.W.typeIn K (.ref fB) = some (.type "function")) (kCB : PySem.W.keepIn K (.ref CB) = true) (eCB : PySem.W.subIn K (.ref CB) (.type "BaseException") = some true)
    (tCB : PySem.W.typeIn K (.ref CB) = some (.type "type")) (hCB : PySem.W.hasDictIn K CB = true) (cCB : PySem.W.findIn K (.ref CB) "__class__" = some (some (.builtin "object.__class__"))) (mCB : PySem.W.mroIn K CB (.type "object") = some true)
    (lB : K.lookup fB = some ⟨ocB, odB, .func (PySem.W.fnOf "__init__" "BadText.__init__" (defArgs sBadI) (defBody sBadI) (defScope sBadI) .none kVB dcB pmB anB cdB ctB), slB⟩) (cB : PySem.W.codeIn K cdB "BadText.__init__" = true) (kB : PySem.W.keepIn K (.ref fB) = true)
    (noBrow : PySem.W.findIn K (.ref CB) "row" = some none)
    (iCB : PySem.W.isClsIn K CB = true) (sCB : PySem.W.subIn K (.ref CB) (.ref CB) = some true)
    (aBM : PySem.W.nsIn K mainGlobals "BadModule" = some (some (.ref CBM)))
    (xLBM : K.lookup CBM = some (excClassObj nxBM qBM CBM NBM bsBM bmBM true snBM subBM abBM colBM ddBM m0BM m1BM m2BM m3BM m5BM "ValueError.__new__")) (bvBM : PySem.HandSPX.refsVE bmBM = true)
    (saBM : PySem.W.findIn K (.ref CBM) "__setattr__" = some (some (.builtin "object.__setattr__"))) (gaBM : PySem.W.findIn K (.ref CBM) "__getattribute__" = some (some (.builtin "BaseException.__getattribute__"))) (ggBM : PySem.W.findIn K (.ref CBM) "__getattr__" = some none)
    (a1BM : PySem.W.findIn K (.ref CBM) "__init__" = some (some (.ref fBM))) (t1BM : PySem.W.typeIn K (.ref fBM) = some (.type "function")) (kCBM : PySem.W.keepIn K (.ref CBM) = true) (eCBM : PySem.W.subIn K (.ref CBM) (.type "BaseException") = some true)
    (tCBM : PySem.W.typeIn K (.ref CBM) = some (.type "type")) (hCBM : PySem.W.hasDictIn K CBM = true) (cCBM : PySem.W.findIn K (.ref CBM) "__class__" = some (some (.builtin "object.__class__"))) (mCBM : PySem.W.mroIn K CBM (.type "object") = some true)
    (lBM : K.lookup fBM = some ⟨ocBM, odBM, .func (PySem.W.fnOf "__init__" "BadModule.__init__" (defArgs (PG.sErrI 5)) (defBody (PG.sErrI 5)) (defScope (PG.sErrI 5)) .none kVBM dcBM pmBM anBM cdBM ctBM), slBM⟩) (cBM : PySem.W.codeIn K cdBM "BadModule.__init__" = true) (kBM : PySem.W.keepIn K (.ref fBM) = true)
    (noBMmodule : PySem.W.findIn K (.ref CBM) "module" = some none)
    (noBMrow : PySem.W.findIn K (.ref CBM) "row" = some none)
    (iCBM : PySem.W.isClsIn K CBM = true) (sCBM : PySem.W.subIn K (.ref CBM) (.ref CBM) = some true)
    (aBN : PySem.W.nsIn K mainGlobals "BadName" = some (some (.ref CBN)))
    (xLBN : K.lookup CBN = some (excClassObj nxBN qBN CBN NBN bsBN bmBN true snBN subBN abBN colBN ddBN m0BN m1BN m2BN m3BN m5BN "ValueError.__new__")) (bvBN : PySem.HandSPX.refsVE bmBN = true)
    (saBN : PySem.W.findIn K (.ref CBN) "__setattr__" = some (some (.builtin "object.__setattr__"))) (gaBN : PySem.W.findIn K (.ref CBN) "__getattribute__" = some (some (.builtin "BaseException.__getattribute__"))) (ggBN : PySem.W.findIn K (.ref CBN) "__getattr__" = some none)
    (a1BN : PySem.W.findIn K (.ref CBN) "__init__" = some (some (.ref fBN))) (t1BN : PySem.W.typeIn K (.ref fBN) = some (.type "function")) (kCBN : PySem.W.keepIn K (.ref CBN) = true) (eCBN : PySem.W.subIn K (.ref CBN) (.type "BaseException") = some true)
    (tCBN : PySem.W.typeIn K (.ref CBN) = some (.type "type")) (hCBN : PySem.W.hasDictIn K CBN = true) (cCBN : PySem.W.findIn K (.ref CBN) "__class__" = some (some (.builtin "object.__class__"))) (mCBN : PySem.W.mroIn K CBN (.type "object") = some true)
    (lBN : K.lookup fBN = some ⟨ocBN, odBN, .func (PySem.W.fnOf "__init__" "BadName.__init__" (defArgs (PG.sErrI 4)) (defBody (PG.sErrI 4)) (defScope (PG.sErrI 4)) .none kVBN dcBN pmBN anBN cdBN ctBN), slBN⟩) (cBN : PySem.W.codeIn K cdBN "BadName.__init__" = true) (kBN : PySem.W.keepIn K (.ref fBN) = true)
    (noBNvalue : PySem.W.findIn K (.ref CBN) "value" = some none)
    (iCBN : PySem.W.isClsIn K CBN = true) (sCBN : PySem.W.subIn K (.ref CBN) (.ref CBN) = some true)
    (aCP : PySem.W.nsIn K mainGlobals "Piece" = some (some (.ref CP)))
    (pgCP : PySem.W.plainGet K CP Str.empty = true) (hdCP : PySem.W.hasDictIn K CP = true) (poCP : PySem.W.plainOver K CP = true) (saCP : PySem.W.findIn K (.ref CP) "__setattr__" = some (some (.builtin "object.__setattr__"))) (mkCP : PySem.W.makesIn K CP = true) (kcCP : PySem.W.keepIn K (.ref CP) = true)
    (nCPname : PySem.W.findIn K (.ref CP) "name" = some none)
    (nCPkind : PySem.W.findIn K (.ref CP) "kind" = some none)
    (nCProws : PySem.W.findIn K (.ref CP) "rows" = some none)
    (nCPtake : PySem.W.findIn K (.ref CP) "take" = some none)
    (nCP__iter__ : PySem.W.findIn K (.ref CP) "__iter__" = some none)
    (nCProws_of : PySem.W.findIn K (.ref CP) "rows_of" = some none)
    (nCPmeaning : PySem.W.findIn K (.ref CP) "meaning" = some none)
    (mPI : PySem.W.findIn K (.ref CP) "__init__" = some (some (.ref fPI))) (iPI : PySem.W.isFn K (.ref fPI) = true)
    (lPI : K.lookup fPI = some ⟨ocPI, odPI, .func (PySem.W.fnOf "__init__" "Piece.__init__" (defArgs sPieceI) (defBody sPieceI) (defScope sPieceI) .none kVPI dcPI pmPI anPI cdPI ctPI), slPI⟩) (cPI : PySem.W.codeIn K cdPI "Piece.__init__" = true) (kPI : PySem.W.keepIn K (.ref fPI) = true)
    (mPL : PySem.W.findIn K (.ref CP) "__len__" = some (some (.ref fPL))) (iPL : PySem.W.isFn K (.ref fPL) = true)
    (lPL : K.lookup fPL = some ⟨ocPL, odPL, .func (PySem.W.fnOf "__len__" "Piece.__len__" (defArgs PG.sPieceL) (defBody PG.sPieceL) (defScope PG.sPieceL) .none kVPL dcPL pmPL anPL cdPL ctPL), slPL⟩) (cPL : PySem.W.codeIn K cdPL "Piece.__len__" = true) (kPL : PySem.W.keepIn K (.ref fPL) = true)
    (aCM : PySem.W.nsIn K mainGlobals "Module" = some (some (.ref CM)))
    (pgCM : PySem.W.plainGet K CM Str.empty = true) (hdCM : PySem.W.hasDictIn K CM = true) (poCM : PySem.W.plainOver K CM = true) (saCM : PySem.W.findIn K (.ref CM) "__setattr__" = some (some (.builtin "object.__setattr__"))) (mkCM : PySem.W.makesIn K CM = true) (kcCM : PySem.W.keepIn K (.ref CM) = true)
    (nCMpieces : PySem.W.findIn K (.ref CM) "pieces" = some none)
    (nCMexports : PySem.W.findIn K (.ref CM) "exports" = some none)
    (nCMaliases : PySem.W.findIn K (.ref CM) "aliases" = some none)
    (nCM_named : PySem.W.findIn K (.ref CM) "_named" = some none)
    (nCMrows_of : PySem.W.findIn K (.ref CM) "rows_of" = some none)
    (nCMmeaning : PySem.W.findIn K (.ref CM) "meaning" = some none)
    (mMI : PySem.W.findIn K (.ref CM) "__init__" = some (some (.ref fMI))) (iMI : PySem.W.isFn K (.ref fMI) = true)
    (lMI : K.lookup fMI = some ⟨ocMI, odMI, .func (PySem.W.fnOf "__init__" "Module.__init__" (defArgs sModI) (defBody sModI) (defScope sModI) .none kVMI dcMI pmMI anMI cdMI ctMI), slMI⟩) (cMI : PySem.W.codeIn K cdMI "Module.__init__" = true) (kMI : PySem.W.keepIn K (.ref fMI) = true)
    (mMC : PySem.W.findIn K (.ref CM) "__contains__" = some (some (.ref fMC))) (iMC : PySem.W.isFn K (.ref fMC) = true)
    (lMC : K.lookup fMC = some ⟨ocMC, odMC, .func (PySem.W.fnOf "__contains__" "Module.__contains__" (defArgs PG.sModC) (defBody PG.sModC) (defScope PG.sModC) .none kVMC dcMC pmMC anMC cdMC ctMC), slMC⟩) (cMC : PySem.W.codeIn K cdMC "Module.__contains__" = true) (kMC : PySem.W.keepIn K (.ref fMC) = true)
    (mMit : PySem.W.findIn K (.ref CM) "__iter__" = some (some (.ref fMit))) (iMit : PySem.W.isFn K (.ref fMit) = true)
    (lMit : K.lookup fMit = some ⟨ocMit, odMit, .func (PySem.W.fnOf "__iter__" "Module.__iter__" (defArgs PG.sModIt) (defBody PG.sModIt) (defScope PG.sModIt) .none kVMit dcMit pmMit anMit cdMit ctMit), slMit⟩) (cMit : PySem.W.codeIn K cdMit "Module.__iter__" = true) (kMit : PySem.W.keepIn K (.ref fMit) = true)
    (aCD : PySem.W.nsIn K mainGlobals "Draft" = some (some (.ref CD)))
    (pgCD : PySem.W.plainGet K CD Str.empty = true) (hdCD : PySem.W.hasDictIn K CD = true) (poCD : PySem.W.plainOver K CD = true) (saCD : PySem.W.findIn K (.ref CD) "__setattr__" = some (some (.builtin "object.__setattr__"))) (mkCD : PySem.W.makesIn K CD = true) (kcCD : PySem.W.keepIn K (.ref CD) = true)
    (nCDpieces : PySem.W.findIn K (.ref CD) "pieces" = some none)
    (nCDexports : PySem.W.findIn K (.ref CD) "exports" = some none)
    (nCDaliases : PySem.W.findIn K (.ref CD) "aliases" = some none)
    (nCDnamed : PySem.W.findIn K (.ref CD) "named" = some none)
    (nCDkind : PySem.W.findIn K (.ref CD) "kind" = some none)
    (nCDname : PySem.W.findIn K (.ref CD) "name" = some none)
    (nCDstart : PySem.W.findIn K (.ref CD) "start" = some none)
    (nCDrows : PySem.W.findIn K (.ref CD) "rows" = some none)
    (mDI : PySem.W.findIn K (.ref CD) "__init__" = some (some (.ref fDI))) (iDI : PySem.W.isFn K (.ref fDI) = true)
    (lDI : K.lookup fDI = some ⟨ocDI, odDI, .func (PySem.W.fnOf "__init__" "Draft.__init__" (defArgs (sDraft 0)) (defBody (sDraft 0)) (defScope (sDraft 0)) .none kVDI dcDI pmDI anDI cdDI ctDI), slDI⟩) (cDI : PySem.W.codeIn K cdDI "Draft.__init__" = true) (kDI : PySem.W.keepIn K (.ref fDI) = true)
    (mTk : PySem.W.findIn K (.ref CD) "take" = some (some (.ref fTk))) (iTk : PySem.W.isFn K (.ref fTk) = true)
    (lTk : K.lookup fTk = some ⟨ocTk, odTk, .func (PySem.W.fnOf "take" "Draft.take" (defArgs (sDraft 1)) (defBody (sDraft 1)) (defScope (sDraft 1)) .none kVTk dcTk pmTk anTk cdTk ctTk), slTk⟩) (cTk : PySem.W.codeIn K cdTk "Draft.take" = true) (kTk : PySem.W.keepIn K (.ref fTk) = true)
    (mBt : PySem.W.findIn K (.ref CD) "take_between" = some (some (.ref fBt))) (iBt : PySem.W.isFn K (.ref fBt) = true)
    (lBt : K.lookup fBt = some ⟨ocBt, odBt, .func (PySem.W.fnOf "take_between" "Draft.take_between" (defArgs (sDraft 2)) (defBody (sDraft 2)) (defScope (sDraft 2)) .none kVBt dcBt pmBt anBt cdBt ctBt), slBt⟩) (cBt : PySem.W.codeIn K cdBt "Draft.take_between" = true) (kBt : PySem.W.keepIn K (.ref fBt) = true)
    (mEx : PySem.W.findIn K (.ref CD) "take_exports" = some (some (.ref fEx))) (iEx : PySem.W.isFn K (.ref fEx) = true)
    (lEx : K.lookup fEx = some ⟨ocEx, odEx, .func (PySem.W.fnOf "take_exports" "Draft.take_exports" (defArgs (sDraft 3)) (defBody (sDraft 3)) (defScope (sDraft 3)) .none kVEx dcEx pmEx anEx cdEx ctEx), slEx⟩) (cEx : PySem.W.codeIn K cdEx "Draft.take_exports" = true) (kEx : PySem.W.keepIn K (.ref fEx) = true)
    (mAl : PySem.W.findIn K (.ref CD) "take_alias" = some (some (.ref fAl))) (iAl : PySem.W.isFn K (.ref fAl) = true)
    (lAl : K.lookup fAl = some ⟨ocAl, odAl, .func (PySem.W.fnOf "take_alias" "Draft.take_alias" (defArgs (sDraft 4)) (defBody (sDraft 4)) (defScope (sDraft 4)) .none kVAl dcAl pmAl anAl cdAl ctAl), slAl⟩) (cAl : PySem.W.codeIn K cdAl "Draft.take_alias" = true) (kAl : PySem.W.keepIn K (.ref fAl) = true)
    (mTn : PySem.W.findIn K (.ref CD) "take_name" = some (some (.ref fTn))) (iTn : PySem.W.isFn K (.ref fTn) = true)
    (lTn : K.lookup fTn = some ⟨ocTn, odTn, .func (PySem.W.fnOf "take_name" "Draft.take_name" (defArgs (sDraft 5)) (defBody (sDraft 5)) (defScope (sDraft 5)) .none kVTn dcTn pmTn anTn cdTn ctTn), slTn⟩) (cTn : PySem.W.codeIn K cdTn "Draft.take_name" = true) (kTn : PySem.W.keepIn K (.ref fTn) = true)
    (mOp : PySem.W.findIn K (.ref CD) "open_piece" = some (some (.ref fOp))) (iOp : PySem.W.isFn K (.ref fOp) = true)
    (lOp : K.lookup fOp = some ⟨ocOp, odOp, .func (PySem.W.fnOf "open_piece" "Draft.open_piece" (defArgs (sDraft 6)) (defBody (sDraft 6)) (defScope (sDraft 6)) .none kVOp dcOp pmOp anOp cdOp ctOp), slOp⟩) (cOp : PySem.W.codeIn K cdOp "Draft.open_piece" = true) (kOp : PySem.W.keepIn K (.ref fOp) = true)
    (mWi : PySem.W.findIn K (.ref CD) "take_within" = some (some (.ref fWi))) (iWi : PySem.W.isFn K (.ref fWi) = true)
    (lWi : K.lookup fWi = some ⟨ocWi, odWi, .func (PySem.W.fnOf "take_within" "Draft.take_within" (defArgs (sDraft 7)) (defBody (sDraft 7)) (defScope (sDraft 7)) .none kVWi dcWi pmWi anWi cdWi ctWi), slWi⟩) (cWi : PySem.W.codeIn K cdWi "Draft.take_within" = true) (kWi : PySem.W.keepIn K (.ref fWi) = true)
    (mCl : PySem.W.findIn K (.ref CD) "close_piece" = some (some (.ref fCl))) (iCl : PySem.W.isFn K (.ref fCl) = true)
    (lCl : K.lookup fCl = some ⟨ocCl, odCl, .func (PySem.W.fnOf "close_piece" "Draft.close_piece" (defArgs (sDraft 8)) (defBody (sDraft 8)) (defScope (sDraft 8)) .none kVCl dcCl pmCl anCl cdCl ctCl), slCl⟩) (cCl : PySem.W.codeIn K cdCl "Draft.close_piece" = true) (kCl : PySem.W.keepIn K (.ref fCl) = true)
    (aCS : PySem.W.nsIn K mainGlobals "Scope" = some (some (.ref CS)))
    (pgCS : PySem.W.plainGet K CS Str.empty = true) (hdCS : PySem.W.hasDictIn K CS = true) (poCS : PySem.W.plainOver K CS = true) (saCS : PySem.W.findIn K (.ref CS) "__setattr__" = some (some (.builtin "object.__setattr__"))) (mkCS : PySem.W.makesIn K CS = true) (kcCS : PySem.W.keepIn K (.ref CS) = true)
    (nCSparsed : PySem.W.findIn K (.ref CS) "parsed" = some none)
    (nCSaliases : PySem.W.findIn K (.ref CS) "aliases" = some none)
    (nCSexporters : PySem.W.findIn K (.ref CS) "exporters" = some none)
    (nCSpieces : PySem.W.findIn K (.ref CS) "pieces" = some none)
    (nCSrows_of : PySem.W.findIn K (.ref CS) "rows_of" = some none)
    (mSI : PySem.W.findIn K (.ref CS) "__init__" = some (some (.ref fSI))) (iSI : PySem.W.isFn K (.ref fSI) = true)
    (lSI : K.lookup fSI = some ⟨ocSI, odSI, .func (PySem.W.fnOf "__init__" "Scope.__init__" (defArgs (PG.sScope 0)) (defBody (PG.sScope 0)) (defScope (PG.sScope 0)) .none kVSI dcSI pmSI anSI cdSI ctSI), slSI⟩) (cSI : PySem.W.codeIn K cdSI "Scope.__init__" = true) (kSI : PySem.W.keepIn K (.ref fSI) = true)
    (mSE : PySem.W.findIn K (.ref CS) "enter" = some (some (.ref fSE))) (iSE : PySem.W.isFn K (.ref fSE) = true)
    (lSE : K.lookup fSE = some ⟨ocSE, odSE, .func (PySem.W.fnOf "enter" "Scope.enter" (defArgs (PG.sScope 1)) (defBody (PG.sScope 1)) (defScope (PG.sScope 1)) .none kVSE dcSE pmSE anSE cdSE ctSE), slSE⟩) (cSE : PySem.W.codeIn K cdSE "Scope.enter" = true) (kSE : PySem.W.keepIn K (.ref fSE) = true)
    (mSH : PySem.W.findIn K (.ref CS) "home_of" = some (some (.ref fSH))) (iSH : PySem.W.isFn K (.ref fSH) = true)
    (lSH : K.lookup fSH = some ⟨ocSH, odSH, .func (PySem.W.fnOf "home_of" "Scope.home_of" (defArgs (PG.sScope 2)) (defBody (PG.sScope 2)) (defScope (PG.sScope 2)) .none kVSH dcSH pmSH anSH cdSH ctSH), slSH⟩) (cSH : PySem.W.codeIn K cdSH "Scope.home_of" = true) (kSH : PySem.W.keepIn K (.ref fSH) = true)
    (mSM : PySem.W.findIn K (.ref CS) "meaning" = some (some (.ref fSM))) (iSM : PySem.W.isFn K (.ref fSM) = true)
    (lSM : K.lookup fSM = some ⟨ocSM, odSM, .func (PySem.W.fnOf "meaning" "Scope.meaning" (defArgs (PG.sScope 3)) (defBody (PG.sScope 3)) (defScope (PG.sScope 3)) .none kVSM dcSM pmSM anSM cdSM ctSM), slSM⟩) (cSM : PySem.W.codeIn K cdSM "Scope.meaning" = true) (kSM : PySem.W.keepIn K (.ref fSM) = true)
    (mSF : PySem.W.findIn K (.ref CS) "full_row" = some (some (.ref fSF))) (iSF : PySem.W.isFn K (.ref fSF) = true)
    (lSF : K.lookup fSF = some ⟨ocSF, odSF, .func (PySem.W.fnOf "full_row" "Scope.full_row" (defArgs (PG.sScope 4)) (defBody (PG.sScope 4)) (defScope (PG.sScope 4)) .none kVSF dcSF pmSF anSF cdSF ctSF), slSF⟩) (cSF : PySem.W.codeIn K cdSF "Scope.full_row" = true) (kSF : PySem.W.keepIn K (.ref fSF) = true)
    (mSX : PySem.W.findIn K (.ref CS) "exports_right" = some (some (.ref fSX))) (iSX : PySem.W.isFn K (.ref fSX) = true)
    (lSX : K.lookup fSX = some ⟨ocSX, odSX, .func (PySem.W.fnOf "exports_right" "Scope.exports_right" (defArgs (PG.sScope 5)) (defBody (PG.sScope 5)) (defScope (PG.sScope 5)) .none kVSX dcSX pmSX anSX cdSX ctSX), slSX⟩) (cSX : PySem.W.codeIn K cdSX "Scope.exports_right" = true) (kSX : PySem.W.keepIn K (.ref fSX) = true)
    (mSN : PySem.W.findIn K (.ref CS) "instruction_right" = some (some (.ref fSN))) (iSN : PySem.W.isFn K (.ref fSN) = true)
    (lSN : K.lookup fSN = some ⟨ocSN, odSN, .func (PySem.W.fnOf "instruction_right" "Scope.instruction_right" (defArgs (PG.sScope 6)) (defBody (PG.sScope 6)) (defScope (PG.sScope 6)) .none kVSN dcSN pmSN anSN cdSN ctSN), slSN⟩) (cSN : PySem.W.codeIn K cdSN "Scope.instruction_right" = true) (kSN : PySem.W.keepIn K (.ref fSN) = true)
    (mSR : PySem.W.findIn K (.ref CS) "row_right" = some (some (.ref fSR))) (iSR : PySem.W.isFn K (.ref fSR) = true)
    (lSR : K.lookup fSR = some ⟨ocSR, odSR, .func (PySem.W.fnOf "row_right" "Scope.row_right" (defArgs (PG.sScope 7)) (defBody (PG.sScope 7)) (defScope (PG.sScope 7)) .none kVSR dcSR pmSR anSR cdSR ctSR), slSR⟩) (cSR : PySem.W.codeIn K cdSR "Scope.row_right" = true) (kSR : PySem.W.keepIn K (.ref fSR) = true)
    (aCQ : PySem.W.nsIn K mainGlobals "Program" = some (some (.ref CQ)))
    (pgCQ : PySem.W.plainGet K CQ Str.empty = true) (hdCQ : PySem.W.hasDictIn K CQ = true) (poCQ : PySem.W.plainOver K CQ = true) (saCQ : PySem.W.findIn K (.ref CQ) "__setattr__" = some (some (.builtin "object.__setattr__"))) (mkCQ : PySem.W.makesIn K CQ = true) (kcCQ : PySem.W.keepIn K (.ref CQ) = true)
    (nCQ_scope : PySem.W.findIn K (.ref CQ) "_scope" = some none)
    (nCQentry : PySem.W.findIn K (.ref CQ) "entry" = some none)
    (nCQpieces : PySem.W.findIn K (.ref CQ) "pieces" = some none)
    (nCQ_kinds : PySem.W.findIn K (.ref CQ) "_kinds" = some none)
    (nCQ_rows : PySem.W.findIn K (.ref CQ) "_rows" = some none)
    (nCQtaken : PySem.W.findIn K (.ref CQ) "taken" = some none)
    (cCQ : PySem.W.findIn K (.ref CQ) "__class__" = some (some (.builtin "object.__class__"))) (mCQ : PySem.W.mroIn K CQ (.type "object") = some true) (eNQ : PySem.W.findIn K (.ref CQ) "__ne__" = some (some (.builtin "object.__ne__")))
    (mQI : PySem.W.findIn K (.ref CQ) "__init__" = some (some (.ref fQI))) (iQI : PySem.W.isFn K (.ref fQI) = true)
    (lQI : K.lookup fQI = some ⟨ocQI, odQI, .func (PySem.W.fnOf "__init__" "Program.__init__" (defArgs (PG.sProg 0)) (defBody (PG.sProg 0)) (defScope (PG.sProg 0)) (.ref TQI) kVQI dcQI pmQI anQI cdQI ctQI), slQI⟩) (cQI : PySem.W.codeIn K cdQI "Program.__init__" = true) (kQI : PySem.W.keepIn K (.ref fQI) = true)
    (xTQI : K.lookup TQI = some oTQI) (dTQI : oTQI.data = .seq iTQI nTQI) (vTQI : Vals [V.str "main"] iTQI.toList)
    (mQR : PySem.W.findIn K (.ref CQ) "rows_of" = some (some (.ref fQR))) (iQR : PySem.W.isFn K (.ref fQR) = true)
    (lQR : K.lookup fQR = some ⟨ocQR, odQR, .func (PySem.W.fnOf "rows_of" "Program.rows_of" (defArgs (PG.sProg 2)) (defBody (PG.sProg 2)) (defScope (PG.sProg 2)) .none kVQR dcQR pmQR anQR cdQR ctQR), slQR⟩) (cQR : PySem.W.codeIn K cdQR "Program.rows_of" = true) (kQR : PySem.W.keepIn K (.ref fQR) = true)
    (mQM : PySem.W.findIn K (.ref CQ) "meaning" = some (some (.ref fQM))) (iQM : PySem.W.isFn K (.ref fQM) = true)
    (lQM : K.lookup fQM = some ⟨ocQM, odQM, .func (PySem.W.fnOf "meaning" "Program.meaning" (defArgs (PG.sProg 5)) (defBody (PG.sProg 5)) (defScope (PG.sProg 5)) .none kVQM dcQM pmQM anQM cdQM ctQM), slQM⟩) (cQM : PySem.W.codeIn K cdQM "Program.meaning" = true) (kQM : PySem.W.keepIn K (.ref fQM) = true)
    (mQC : PySem.W.findIn K (.ref CQ) "__contains__" = some (some (.ref fQC))) (iQC : PySem.W.isFn K (.ref fQC) = true)
    (lQC : K.lookup fQC = some ⟨ocQC, odQC, .func (PySem.W.fnOf "__contains__" "Program.__contains__" (defArgs (PG.sProg 7)) (defBody (PG.sProg 7)) (defScope (PG.sProg 7)) .none kVQC dcQC pmQC anQC cdQC ctQC), slQC⟩) (cQC : PySem.W.codeIn K cdQC "Program.__contains__" = true) (kQC : PySem.W.keepIn K (.ref fQC) = true)
    (mQE : PySem.W.findIn K (.ref CQ) "__eq__" = some (some (.ref fQE))) (iQE : PySem.W.isFn K (.ref fQE) = true)
    (lQE : K.lookup fQE = some ⟨ocQE, odQE, .func (PySem.W.fnOf "__eq__" "Program.__eq__" (defArgs (PG.sProg 9)) (defBody (PG.sProg 9)) (defScope (PG.sProg 9)) .none kVQE dcQE pmQE anQE cdQE ctQE), slQE⟩) (cQE : PySem.W.codeIn K cdQE "Program.__eq__" = true) (kQE : PySem.W.keepIn K (.ref fQE) = true)
    : ∃ fd : FuncData, (∀ (s : Shared) (v : Value), BindsTo s fd ⟨[v], []⟩ [("_law_script", v)]) ∧ ∀ base : Heap, K.In base → base.Ns mainGlobals mg → FnOk l.prog w K mg base CX0 12 fa fd ["_law_script"] (spLaw K) := by
  have e := hfa.symm.trans (PySem.W.mg_of X G aLa)
  cases e
  have lF : ∀ z, PySem.W.nsIn K dF z = some ((formOf z).map fun _ => Value.ref (tFn [g0, g1, g2, g3, g4, g5, g6, g7, g8, g9, g10, g11] z)) := by
    intro z
    cases hz : formOf z with
    | none =>
      refine ns_none (ks := FORM.map Prod.fst) xFO (by rw [keFO, List.map_map]; rfl) ?_
      cases hc : (FORM.map Prod.fst).contains z with
      | false => rfl
      | true =>
        have hm : z ∈ FORM.map Prod.fst := by simpa using hc
        have key : ∀ k ∈ FORM.map Prod.fst, (formOf k).isSome = true := by decide +kernel
        have := key z hm
        rw [hz] at this
        cases this
    | some ws =>
      have hm : z ∈ FORM.map Prod.fst := List.mem_map.mpr ⟨_, PySem.mem_of_lookup hz, rfl⟩
      have hm : z = "call" ∨ z = "callr" ∨ z = "ret" ∨ z = "addr" ∨ z = "set" ∨ z = "move" ∨ z = "read" ∨ z = "readr" ∨ z = "same" ∨ z = "choose" ∨ z = "tell" ∨ z = "go" := by simpa [FORM] using hm
      rcases hm with rfl | rfl | rfl | rfl | rfl | rfl | rfl | rfl | rfl | rfl | rfl | rfl
      · exact e0
      · exact e1
      · exact e2
      · exact e3
      · exact e4
      · exact e5
      · exact e6
      · exact e7
      · exact e8
      · exact e9
      · exact e10
      · exact e11
  have tF : ∀ z ws, formOf z = some ws → KT K (tFn [g0, g1, g2, g3, g4, g5, g6, g7, g8, g9, g10, g11] z) (ws.map V.str) := by
    intro z ws hz
    have hm : z ∈ FORM.map Prod.fst := List.mem_map.mpr ⟨_, PySem.mem_of_lookup hz, rfl⟩
    have hm : z = "call" ∨ z = "callr" ∨ z = "ret" ∨ z = "addr" ∨ z = "set" ∨ z = "move" ∨ z = "read" ∨ z = "readr" ∨ z = "same" ∨ z = "choose" ∨ z = "tell" ∨ z = "go" := by simpa [FORM] using hm
    rcases hm with rfl | rfl | rfl | rfl | rfl | rfl | rfl | rfl | rfl | rfl | rfl | rfl
    · cases hz; exact kt_mk x0 y0 d0 s0 v0
    · cases hz; exact kt_mk x1 y1 d1 s1 v1
    · cases hz; exact kt_mk x2 y2 d2 s2 v2
    · cases hz; exact kt_mk x3 y3 d3 s3 v3
    · cases hz; exact kt_mk x4 y4 d4 s4 v4
    · cases hz; exact kt_mk x5 y5 d5 s5 v5
    · cases hz; exact kt_mk x6 y6 d6 s6 v6
    · cases hz; exact kt_mk x7 y7 d7 s7 v7
    · cases hz; exact kt_mk x8 y8 d8 s8 v8
    · cases hz; exact kt_mk x9 y9 d9 s9 v9
    · cases hz; exact kt_mk x10 y10 d10 s10 v10
    · cases hz; exact kt_mk x11 y11 d11 s11 v11
  have T : TX.TT K w mg aO aR dF es nF (tFn [g0, g1, g2, g3, g4, g5, g6, g7, g8, g9, g10, g11]) := ⟨⟨_, (PySem.W.mg_of X G aLE)⟩, ⟨_, (PySem.W.mg_of X G aDI)⟩, ⟨_, (PySem.W.mg_of X G aL8)⟩, (PySem.W.mg_of X G aOT), kt_mk xOT yOT dOT sOT vOT, (PySem.W.mg_of X G aRE), kt_mk xRE yRE dRE sRE vRE, (PySem.W.mg_of X G aFO), ⟨xFO, klFO, lwFO⟩, lF, tF, (PySem.W.mg_none_of X G zisinstance), (PySem.W.mg_none_of X G zstr), (PySem.W.mg_none_of X G zlen), (PySem.W.mg_none_of X G zall), (PySem.W.mg_none_of X G zany), (PySem.W.mg_none_of X G zint), (PySem.W.mg_none_of X G zzip)⟩
  have FNm := fun_mk (st := sIsName) lNm cNm kNm
  have bNm := FNm.binds (ps := ["value"]) fun _ _ _ _ _ _ us hl => match us, hl with | [_], _ => rfl
  have FRi := fun_mk (st := sReadInt) lRi cRi kRi
  have bRi := FRi.binds (ps := ["word"]) fun _ _ _ _ _ _ us hl => match us, hl with | [_], _ => rfl
  have FRp := fun_mk (st := sReadPart) lRp cRp kRp
  have bRp := FRp.binds (ps := ["word", "sort"]) fun _ _ _ _ _ _ us hl => match us, hl with | [_, _], _ => rfl
  have FRs := fun_mk (st := sReadParts) lRs cRs kRs
  have bRs := FRs.binds (ps := ["words", "form"]) fun _ _ _ _ _ _ us hl => match us, hl with | [_, _], _ => rfl
  have FIn := fun_mk (st := sReadIns) lIn cIn kIn
  have bIn := FIn.binds (ps := ["words"]) fun _ _ _ _ _ _ us hl => match us, hl with | [_], _ => rfl
  have FDa := fun_mk (st := sReadDat) lDa cDa kDa
  have bDa := FDa.binds (ps := ["words"]) fun _ _ _ _ _ _ us hl => match us, hl with | [_], _ => rfl
  have FTa := fun_mk (st := sTarget) lTa cTa kTa
  have bTa := FTa.binds (ps := ["row"]) fun _ _ _ _ _ _ us hl => match us, hl with | [_], _ => rfl
  have FSp := fun_mk (st := sSplit) lSp cSp kSp
  have bSp := FSp.binds (ps := ["text"]) fun _ _ _ _ _ _ us hl => match us, hl with | [_], _ => rfl
  have FPa := fun_mk (st := sParse) lPa cPa kPa
  have bPa := FPa.binds (ps := ["text"]) fun _ _ _ _ _ _ us hl => match us, hl with | [_], _ => rfl
  have FNP := fun_mk (st := PG.sPlace) lNP cNP kNP
  have bNP := FNP.binds (ps := ["row"]) fun _ _ _ _ _ _ us hl => match us, hl with | [_], _ => rfl
  have FMeR := fun_mk (st := PG.sRight) lMeR cMeR kMeR
  have bMeR := FMeR.binds (ps := ["row", "kind", "length"]) fun _ _ _ _ _ _ us hl => match us, hl with | [_, _, _], _ => rfl
  have FTkN := fun_mk (st := PG.sTaken) lTkN cTkN kTkN
  have bTkN := FTkN.binds (ps := ["kind", "rows"]) fun _ _ _ _ _ _ us hl => match us, hl with | [_, _], _ => rfl
  have FPMo := fun_mk (st := PG.sMods) lPMo cPMo kPMo
  have bPMo := FPMo.binds (ps := ["modules"]) fun _ _ _ _ _ _ us hl => match us, hl with | [_], _ => rfl
  have FCkm := fun_mk (st := PG.sCheck) lCkm cCkm kCkm
  have bCkm := FCkm.binds (ps := ["scope", "texts"]) fun _ _ _ _ _ _ us hl => match us, hl with | [_, _], _ => rfl
  have FFnE := fun_mk (st := PG.sEntry) lFnE cFnE kFnE
  have bFnE := FFnE.binds (ps := ["scope", "entry"]) fun _ _ _ _ _ _ us hl => match us, hl with | [_, _], _ => rfl
  have FLPo := fun_mk (st := TopL.sPool) lLPo cLPo kLPo
  have bLPo := FLPo.binds (ps := ["_law_script", "_law_k"]) fun _ _ _ _ _ _ us hl => match us, hl with | [_, _], _ => rfl
  have FLTk := fun_mk (st := TopL.sTake) lLTk cLTk kLTk
  have bLTk := FLTk.binds (ps := ["_law_pool_here", "_law_many"]) fun _ _ _ _ _ _ us hl => match us, hl with | [_, _], _ => rfl
  have FLMo := fun_mk (st := KN.sModules) lLMo cLMo kLMo
  have bLMo := FLMo.binds (ps := ["_law_letter", "_law_number"]) fun _ _ _ _ _ _ us hl => match us, hl with | [_, _], _ => rfl
  have FLTo := fun_mk (st := KN.sTold) lLTo cLTo kLTo
  have bLTo := FLTo.binds (ps := ["_law_modules_here", "_law_entry"]) fun _ _ _ _ _ _ us hl => match us, hl with | [_, _], _ => rfl
  have FLa := fun_mk (st := KN.sLaw) lLa cLa kLa
  have bLa := FLa.binds (ps := ["_law_script"]) fun _ _ _ _ _ _ us hl => match us, hl with | [_], _ => rfl
  have FB := fun_mk (st := sBadI) lB cB kB
  have bB := FB.binds (ps := ["self", "row"]) fun _ _ _ _ _ _ us hl => match us, hl with | [_, _], _ => rfl
  have FBM := fun_mk (st := (PG.sErrI 5)) lBM cBM kBM
  have bBM := FBM.binds (ps := ["self", "module", "row"]) fun _ _ _ _ _ _ us hl => match us, hl with | [_, _, _], _ => rfl
  have FBN := fun_mk (st := (PG.sErrI 4)) lBN cBN kBN
  have bBN := FBN.binds (ps := ["self", "value"]) fun _ _ _ _ _ _ us hl => match us, hl with | [_, _], _ => rfl
  have FPI := fun_mk (st := sPieceI) lPI cPI kPI
  have bPI := FPI.binds (ps := ["self", "name", "kind", "rows"]) fun _ _ _ _ _ _ us hl => match us, hl with | [_, _, _, _], _ => rfl
  have FPL := fun_mk (st := PG.sPieceL) lPL cPL kPL
  have bPL := FPL.binds (ps := ["self"]) fun _ _ _ _ _ _ us hl => match us, hl with | [_], _ => rfl
  have FMI := fun_mk (st := sModI) lMI cMI kMI
  have bMI := FMI.binds (ps := ["self", "pieces", "exports", "aliases"]) fun _ _ _ _ _ _ us hl => match us, hl with | [_, _, _, _], _ => rfl
  have FMC := fun_mk (st := PG.sModC) lMC cMC kMC
  have bMC := FMC.binds (ps := ["self", "name"]) fun _ _ _ _ _ _ us hl => match us, hl with | [_, _], _ => rfl
  have FMit := fun_mk (st := PG.sModIt) lMit cMit kMit
  have bMit := FMit.binds (ps := ["self"]) fun _ _ _ _ _ _ us hl => match us, hl with | [_], _ => rfl
  have FDI := fun_mk (st := (sDraft 0)) lDI cDI kDI
  have bDI := FDI.binds (ps := ["self"]) fun _ _ _ _ _ _ us hl => match us, hl with | [_], _ => rfl
  have FTk := fun_mk (st := (sDraft 1)) lTk cTk kTk
  have bTk := FTk.binds (ps := ["self", "number", "words"]) fun _ _ _ _ _ _ us hl => match us, hl with | [_, _, _], _ => rfl
  have FBt := fun_mk (st := (sDraft 2)) lBt cBt kBt
  have bBt := FBt.binds (ps := ["self", "number", "words"]) fun _ _ _ _ _ _ us hl => match us, hl with | [_, _, _], _ => rfl
  have FEx := fun_mk (st := (sDraft 3)) lEx cEx kEx
  have bEx := FEx.binds (ps := ["self", "names"]) fun _ _ _ _ _ _ us hl => match us, hl with | [_, _], _ => rfl
  have FAl := fun_mk (st := (sDraft 4)) lAl cAl kAl
  have bAl := FAl.binds (ps := ["self", "names"]) fun _ _ _ _ _ _ us hl => match us, hl with | [_, _], _ => rfl
  have FTn := fun_mk (st := (sDraft 5)) lTn cTn kTn
  have bTn := FTn.binds (ps := ["self", "name"]) fun _ _ _ _ _ _ us hl => match us, hl with | [_, _], _ => rfl
  have FOp := fun_mk (st := (sDraft 6)) lOp cOp kOp
  have bOp := FOp.binds (ps := ["self", "number", "words"]) fun _ _ _ _ _ _ us hl => match us, hl with | [_, _, _], _ => rfl
  have FWi := fun_mk (st := (sDraft 7)) lWi cWi kWi
  have bWi := FWi.binds (ps := ["self", "words"]) fun _ _ _ _ _ _ us hl => match us, hl with | [_, _], _ => rfl
  have FCl := fun_mk (st := (sDraft 8)) lCl cCl kCl
  have bCl := FCl.binds (ps := ["self"]) fun _ _ _ _ _ _ us hl => match us, hl with | [_], _ => rfl
  have FSI := fun_mk (st := (PG.sScope 0)) lSI cSI kSI
  have bSI := FSI.binds (ps := ["self", "modules"]) fun _ _ _ _ _ _ us hl => match us, hl with | [_, _], _ => rfl
  have FSE := fun_mk (st := (PG.sScope 1)) lSE cSE kSE
  have bSE := FSE.binds (ps := ["self", "name", "module"]) fun _ _ _ _ _ _ us hl => match us, hl with | [_, _, _], _ => rfl
  have FSH := fun_mk (st := (PG.sScope 2)) lSH cSH kSH
  have bSH := FSH.binds (ps := ["self", "module", "name"]) fun _ _ _ _ _ _ us hl => match us, hl with | [_, _, _], _ => rfl
  have FSM := fun_mk (st := (PG.sScope 3)) lSM cSM kSM
  have bSM := FSM.binds (ps := ["self", "module", "name"]) fun _ _ _ _ _ _ us hl => match us, hl with | [_, _, _], _ => rfl
  have FSF := fun_mk (st := (PG.sScope 4)) lSF cSF kSF
  have bSF := FSF.binds (ps := ["self", "module", "row"]) fun _ _ _ _ _ _ us hl => match us, hl with | [_, _, _], _ => rfl
  have FSX := fun_mk (st := (PG.sScope 5)) lSX cSX kSX
  have bSX := FSX.binds (ps := ["self", "module", "name"]) fun _ _ _ _ _ _ us hl => match us, hl with | [_, _, _], _ => rfl
  have FSN := fun_mk (st := (PG.sScope 6)) lSN cSN kSN
  have bSN := FSN.binds (ps := ["self", "module", "row"]) fun _ _ _ _ _ _ us hl => match us, hl with | [_, _, _], _ => rfl
  have FSR := fun_mk (st := (PG.sScope 7)) lSR cSR kSR
  have bSR := FSR.binds (ps := ["self", "module", "words"]) fun _ _ _ _ _ _ us hl => match us, hl with | [_, _, _], _ => rfl
  have FQI : FunD K "__init__" "Program.__init__" (defArgs (PG.sProg 0)) (defBody (PG.sProg 0)) (defScope (PG.sProg 0)) [V.str "main"] [] fQI _ := ⟨⟨_, _, .ref TQI, _, _, _, _, _, _, _, rfl, lQI, cQI, .inr ⟨by simp, TQI, _, iTQI.toList, nTQI, rfl, xTQI, dTQI.trans (by simp), vTQI⟩, .inl rfl⟩, kQI⟩
  obtain ⟨dsQI, rQI, bQI⟩ := FQI.binds1 (ps := ["self", "modules", "entry"]) 3 1 (by simp) rfl (fun T kV doc pm an cdv ct us its h1 h2 => match us, its, h1, h2 with | [_, _, _], [_], _, _ => ⟨_, rfl, rfl⟩)
  cases rQI
  obtain ⟨ds1QI, r1QI, b1QI⟩ := FQI.binds1 (ps := ["self", "modules", "entry"]) 2 0 (by simp) rfl (fun T kV doc pm an cdv ct us its h1 h2 => match us, its, h1, h2 with | [_, _], [_], _, _ => ⟨_, rfl, rfl⟩)
  have FQR := fun_mk (st := (PG.sProg 2)) lQR cQR kQR
  have bQR := FQR.binds (ps := ["self", "name"]) fun _ _ _ _ _ _ us hl => match us, hl with | [_, _], _ => rfl
  have FQM := fun_mk (st := (PG.sProg 5)) lQM cQM kQM
  have bQM := FQM.binds (ps := ["self", "module", "name"]) fun _ _ _ _ _ _ us hl => match us, hl with | [_, _, _], _ => rfl
  have FQC := fun_mk (st := (PG.sProg 7)) lQC cQC kQC
  have bQC := FQC.binds (ps := ["self", "name"]) fun _ _ _ _ _ _ us hl => match us, hl with | [_, _], _ => rfl
  have FQE := fun_mk (st := (PG.sProg 9)) lQE cQE kQE
  have bQE := FQE.binds (ps := ["self", "other"]) fun _ _ _ _ _ _ us hl => match us, hl with | [_, _], _ => rfl
  have nePD : CP ≠ CD := fun e => by rw [e] at nCPtake; rw [nCPtake] at mTk; cases mTk
  have nePM : CP ≠ CM := fun e => by rw [e] at nCP__iter__; rw [nCP__iter__] at mMit; cases mMit
  have nePS : CP ≠ CS := fun e => by rw [e] at nCPmeaning; rw [nCPmeaning] at mSM; cases mSM
  have neMS : CM ≠ CS := fun e => by rw [e] at nCMmeaning; rw [nCMmeaning] at mSM; cases mSM
  have nePQ : CP ≠ CQ := fun e => by rw [e] at nCProws_of; rw [nCProws_of] at mQR; cases mQR
  have neMQ : CM ≠ CQ := fun e => by rw [e] at nCMrows_of; rw [nCMrows_of] at mQR; cases mQR
  have neSQ : CS ≠ CQ := fun e => by rw [e] at nCSrows_of; rw [nCSrows_of] at mQR; cases mQR
  have TC1 : TC K CD CP := ⟨⟨pgCD, hdCD, poCD, saCD⟩, nCDpieces, nCDexports, nCDaliases, nCDnamed, nCDkind, nCDname, nCDstart, nCDrows, ⟨pgCP, hdCP, poCP, saCP⟩, nCPname, nCPkind, nCProws, nePD⟩
  have EB : EC K mg "BadText" CB fB := ec_mk X G aB xLB bvB saB gaB ggB a1B t1B kCB eCB tCB hCB cCB mCB hn ht
  have EBM : EC K mg "BadModule" CBM fBM := ec_mk X G aBM xLBM bvBM saBM gaBM ggBM a1BM t1BM kCBM eCBM tCBM hCBM cCBM mCBM hn ht
  have EBN : EC K mg "BadName" CBN fBN := ec_mk X G aBN xLBN bvBN saBN gaBN ggBN a1BN t1BN kCBN eCBN tCBN hCBN cCBN mCBN hn ht
  have B : TB K mg CP CB fPI fB := ⟨EB, (PySem.W.mg_of X G aCP), ⟨mkCP, mPI, iPI, kcCP⟩, (PySem.W.mg_none_of X G ztuple), (PySem.W.mg_none_of X G zenumerate)⟩
  have M : TM K mg aK := ⟨⟨_, (PySem.W.mg_of X G aMP)⟩, ⟨_, (PySem.W.mg_of X G aMR)⟩, (PySem.W.mg_of X G aKI), kt_mk xKI yKI dKI sKI vKI⟩
  have Md : TMd K CM := ⟨⟨pgCM, hdCM, poCM, saCM⟩, nCMpieces, nCMexports, nCMaliases, nCM_named⟩
  have Gp : TP K mg CD CM fDI fMI := ⟨(PySem.W.mg_of X G aCD), ⟨mkCD, mDI, iDI, kcCD⟩, (PySem.W.mg_of X G aCM), ⟨mkCM, mMI, iMI, kcCM⟩⟩
  have S : TS K CS CP CM := ⟨⟨pgCS, hdCS, poCS, saCS⟩, nCSparsed, nCSaliases, nCSexporters, nCSpieces, nePS, neMS⟩
  have Q : TPr K mg CQ CS CM CP fSI := ⟨⟨pgCQ, hdCQ, poCQ, saCQ⟩, nCQ_scope, nCQentry, nCQpieces, nCQ_kinds, nCQ_rows, nCQtaken, neSQ, neMQ, nePQ, ⟨mkCS, mSI, iSI, kcCS⟩, (PySem.W.mg_of X G aCS), ⟨_, (PySem.W.mg_of X G aPP)⟩, ⟨_, (PySem.W.mg_of X G aMT)⟩, (PySem.W.mg_none_of X G zsorted), (PySem.W.mg_none_of X G zset), (PySem.W.mg_none_of X G ztuple), (PySem.W.mg_none_of X G zlen)⟩
  have L : TLd K mg CBN fBN CQ fQI := ⟨EBN, noBNvalue, exm_own eCBN iCBN tCBN sCBN, (PySem.W.mg_of X G aCQ), ⟨mkCQ, mQI, iQI, kcCQ⟩, ⟨pgCQ, hdCQ, poCQ, saCQ⟩, nCQentry, (PySem.W.mg_none_of X G zrepr)⟩
  have E1 : TEq K mg CQ := ⟨(PySem.W.mg_of X G aCQ), (PySem.W.mg_none_of X G zisinstance), cCQ, hn, ht, mCQ⟩
  have ty : ∀ z ws, formOf z = some ws → TyT K (tFn [g0, g1, g2, g3, g4, g5, g6, g7, g8, g9, g10, g11] z) := by
    intro z ws hz
    have hm : z ∈ FORM.map Prod.fst := List.mem_map.mpr ⟨_, PySem.mem_of_lookup hz, rfl⟩
    have hm : z = "call" ∨ z = "callr" ∨ z = "ret" ∨ z = "addr" ∨ z = "set" ∨ z = "move" ∨ z = "read" ∨ z = "readr" ∨ z = "same" ∨ z = "choose" ∨ z = "tell" ∨ z = "go" := by simpa [FORM] using hm
    rcases hm with rfl | rfl | rfl | rfl | rfl | rfl | rfl | rfl | rfl | rfl | rfl | rfl
    · exact ⟨_, x0, y0, u0⟩
    · exact ⟨_, x1, y1, u1⟩
    · exact ⟨_, x2, y2, u2⟩
    · exact ⟨_, x3, y3, u3⟩
    · exact ⟨_, x4, y4, u4⟩
    · exact ⟨_, x5, y5, u5⟩
    · exact ⟨_, x6, y6, u6⟩
    · exact ⟨_, x7, y7, u7⟩
    · exact ⟨_, x8, y8, u8⟩
    · exact ⟨_, x9, y9, u9⟩
    · exact ⟨_, x10, y10, u10⟩
    · exact ⟨_, x11, y11, u11⟩
  refine ⟨PySem.W.fnOf "law" "law" (defArgs KN.sLaw) (defBody KN.sLaw) (defScope KN.sLaw) .none kVLa dcLa pmLa anLa cdLa ctLa, fun s v => .of_eq rfl, fun base _ _ => ?_⟩
  have GNm : FnOk l.prog w K mg base CX0 1 fNm _ ["value"] (spIsName K) := ok_isName FNm T
  have GRi : FnOk l.prog w K mg base CX0 1 fRi _ ["word"] spReadInt := ok_readInt FRi T
  have GRp : FnOk l.prog w K mg base CX0 2 fRp _ ["word", "sort"] spReadPart := ok_readPart FRp T GNm bNm (PySem.W.mg_of X G aNm) kNm GRi bRi (PySem.W.mg_of X G aRi) kRi
  have GRs : FnOk l.prog w K mg base CX0 3 fRs _ ["words", "form"] (spReadParts K) := ok_readParts FRs T GRp bRp (PySem.W.mg_of X G aRp) kRp
  have GIn : FnOk l.prog w K mg base CX0 4 fIn _ ["words"] (spReadIns K) := ok_readIns FIn T GRs bRs (PySem.W.mg_of X G aRs) kRs
  have GDa : FnOk l.prog w K mg base CX0 2 fDa _ ["words"] (spReadDat K) := ok_readDat FDa T GNm bNm (PySem.W.mg_of X G aNm) kNm GRi bRi (PySem.W.mg_of X G aRi) kRi
  have GTa : FnOk l.prog w K mg base CX0 1 fTa _ ["row"] (spTarget K) := ok_target FTa T
  have GSp : FnOk l.prog w K mg base CX0 1 fSp _ ["text"] spSplit := ok_split FSp
  have GB : FnOk l.prog w K mg base CX0 1 fB _ ["self", "row"] (spBad CB "row") := ok_badI FB EB noBrow
  have GBM : FnOk l.prog w K mg base CX0 1 fBM _ ["self", "module", "row"] (spBad2 CBM "module" "row") := ok_badmod FBM EBM noBMmodule noBMrow
  have GBN : FnOk l.prog w K mg base CX0 1 fBN _ ["self", "value"] (spBad CBN "value") := ok_badname FBN EBN noBNvalue
  have GPI : FnOk l.prog w K mg base CX0 1 fPI _ ["self", "name", "kind", "rows"] (spPieceI CP) := ok_pieceI FPI TC1
  have GMI : FnOk l.prog w K mg base CX0 1 fMI _ ["self", "pieces", "exports", "aliases"] (spModI CM CP) := ok_modI FMI TC1 Md nePM
  have GDI : FnOk l.prog w K mg base CX0 1 fDI _ ["self"] (spDraftI CD CP) := ok_draftI FDI TC1
  have GTn : FnOk l.prog w K mg base CX0 2 fTn _ ["self", "name"] (spTakeName CD CP) := ok_takeName FTn TC1 GNm bNm (PySem.W.mg_of X G aNm) kNm
  have GEx : FnOk l.prog w K mg base CX0 2 fEx _ ["self", "names"] (spTakeExports CD CP) := ok_takeExports FEx TC1 (PySem.W.mg_none_of X G zlen) GNm bNm (PySem.W.mg_of X G aNm) kNm
  have GAl : FnOk l.prog w K mg base CX0 3 fAl _ ["self", "names"] (spTakeAlias CD CP) := ok_takeAlias FAl TC1 (PySem.W.mg_none_of X G zlen) GNm bNm (PySem.W.mg_of X G aNm) kNm GTn bTn ⟨mTn, iTn, kTn⟩
  have GOp : FnOk l.prog w K mg base CX0 3 fOp _ ["self", "number", "words"] (spOpen CD CP) := ok_open FOp TC1 M (PySem.W.mg_none_of X G zlen) GTn bTn ⟨mTn, iTn, kTn⟩
  have GBt : FnOk l.prog w K mg base CX0 4 fBt _ ["self", "number", "words"] (spBetween CD CP) := ok_between FBt TC1 M GEx bEx ⟨mEx, iEx, kEx⟩ GAl bAl ⟨mAl, iAl, kAl⟩ GOp bOp ⟨mOp, iOp, kOp⟩
  have GWi : FnOk l.prog w K mg base CX0 5 fWi _ ["self", "words"] (spWithin CD CP) := ok_within FWi TC1 M (PySem.W.mg_none_of X G zlen) GIn bIn (PySem.W.mg_of X G aIn) kIn GDa bDa (PySem.W.mg_of X G aDa) kDa
  have GCl : FnOk l.prog w K mg base (L2.CX l.prog w) 3 fCl _ ["self"] (spClose CD CP CB) := ok_close FCl TC1 B (PySem.W.mg_none_of X G zlen) GTa bTa (PySem.W.mg_of X G aTa) kTa GPI bPI GB bB
  have GTk : FnOk l.prog w K mg base (L2.CX l.prog w) 6 fTk _ ["self", "number", "words"] (spTake CD CP CB) := ok_take FTk TC1 B GBt bBt ⟨mBt, iBt, kBt⟩ GWi bWi ⟨mWi, iWi, kWi⟩ GCl bCl ⟨mCl, iCl, kCl⟩ GB bB
  have GPa : FnOk l.prog w K mg base (L2.CX l.prog w) 7 fPa _ ["text"] (spParse K CB CM CP) := ok_parse FPa TC1 T B Md nePM Gp GSp bSp (PySem.W.mg_of X G aSp) kSp GTk bTk ⟨mTk, iTk, kTk⟩ GDI bDI GMI bMI GB bB
  have GMC : FnOk l.prog w K mg base CX0 1 fMC _ ["self", "name"] (spHas CM CP K) := ok_has FMC T Md
  have GMit : FnN l.prog w K mg base 1 fMit _ ["self"] (spIt K CM "pieces") := ok_iter FMit (PySem.W.mg_none_of X G ziter) Md
  have GPL : FnOk l.prog w K mg base CX0 1 fPL _ ["self"] (spPLen K CP) := ok_plen FPL (PySem.W.mg_none_of X G zlen) TC1
  have GNP : FnOk l.prog w K mg base CX0 1 fNP _ ["row"] (spPlace K) := ok_place FNP T ty
  have GMeR : FnOk l.prog w K mg base CX0 1 fMeR _ ["row", "kind", "length"] (spMeans K) := ok_means FMeR
  have GTkN : FnOk l.prog w K mg base CX0 1 fTkN _ ["kind", "rows"] (spTaken K) := ok_taken FTkN T
  have GPMo : FnOk l.prog w K mg base CX0 8 fPMo _ ["modules"] (spMods CM CP) := ok_mods (CB := CB) FPMo (PySem.W.mg_none_of X G zsorted) GNm bNm (PySem.W.mg_of X G aNm) kNm GPa bPa (PySem.W.mg_of X G aPa) kPa
  have GSE : FnOk l.prog w K mg base CX0 1 fSE _ ["self", "name", "module"] (spEnter CS CM CP) := ok_enter FSE TC1 Md S
  have GSI : FnOk l.prog w K mg base CX0 2 fSI _ ["self", "modules"] (spScI CS CM CP) := ok_scI FSI S GSE bSE ⟨mSE, iSE, kSE⟩
  have GSH : FnOk l.prog w K mg base CX0 2 fSH _ ["self", "module", "name"] (spHome CS CM CP) := ok_home FSH S GMC bMC ⟨mMC, iMC, kMC⟩
  have GSM : FnOk l.prog w K mg base CX0 3 fSM _ ["self", "module", "name"] (spMean CS CM CP) := ok_mean FSM S GSH bSH ⟨mSH, iSH, kSH⟩
  have GSF : FnOk l.prog w K mg base CX0 4 fSF _ ["self", "module", "row"] (spFull CS CM CP) := ok_full FSF T S GSM bSM ⟨mSM, iSM, kSM⟩ GNP bNP (PySem.W.mg_of X G aNP) kNP
  have GSN : FnOk l.prog w K mg base CX0 4 fSN _ ["self", "module", "row"] (spIRight CS CM CP K) := ok_iright FSN TC1 (PySem.W.mg_none_of X G zlen) S GSM bSM ⟨mSM, iSM, kSM⟩ GNP bNP (PySem.W.mg_of X G aNP) kNP GMeR bMeR (PySem.W.mg_of X G aMeR) kMeR GPL bPL ⟨mPL, iPL, kPL⟩
  have GSX : FnOk l.prog w K mg base CX0 2 fSX _ ["self", "module", "name"] (spExRight CS CM CP) := ok_exright FSX S GMC bMC ⟨mMC, iMC, kMC⟩
  have GSR : FnOk l.prog w K mg base CX0 5 fSR _ ["self", "module", "words"] (spRowRight CS CM CP K) := ok_rowright FSR T M S GSX bSX ⟨mSX, iSX, kSX⟩ GSM bSM ⟨mSM, iSM, kSM⟩ GSN bSN ⟨mSN, iSN, kSN⟩ GSF bSF ⟨mSF, iSF, kSF⟩ GIn bIn (PySem.W.mg_of X G aIn) kIn GDa bDa (PySem.W.mg_of X G aDa) kDa
  have GCkm : FnOk l.prog w K mg base (L2.CX l.prog w) 6 fCkm _ ["scope", "texts"] (spCheck CS CM CP CBM) := ok_check FCkm (PySem.W.mg_none_of X G zenumerate) S EBM GSp bSp (PySem.W.mg_of X G aSp) kSp GSR bSR ⟨mSR, iSR, kSR⟩ GBM bBM
  have GFnE : FnOk l.prog w K mg base (L2.CX l.prog w) 4 fFnE _ ["scope", "entry"] (spEntry CS CM CP CBN K) := ok_entry FFnE TC1 S EBN GNm bNm (PySem.W.mg_of X G aNm) kNm GSM bSM ⟨mSM, iSM, kSM⟩ GBN bBN
  have GQI : FnOk l.prog w K mg base (L2.CX l.prog w) 9 fQI _ ["self", "modules", "entry"] (spProg CQ CS CM CP CBM CBN) := ok_prog FQI Q TC1 S GSI bSI GPMo bPMo (PySem.W.mg_of X G aPMo) kPMo GCkm bCkm (PySem.W.mg_of X G aCkm) kCkm GFnE bFnE (PySem.W.mg_of X G aFnE) kFnE GSF bSF ⟨mSF, iSF, kSF⟩ GTkN bTkN (PySem.W.mg_of X G aTkN) kTkN GMit bMit ⟨mMit, iMit, kMit⟩
  have GQC : FnOk l.prog w K mg base CX0 1 fQC _ ["self", "name"] (spPCon CQ CS CM CP) := ok_pcon FQC T Q
  have GQR : FnOk l.prog w K mg base CX0 2 fQR _ ["self", "name"] (spRows CQ CS CM CP) := ok_prows FQR Q GQC bQC ⟨mQC, iQC, kQC⟩
  have GQM : FnOk l.prog w K mg base CX0 4 fQM _ ["self", "module", "name"] (spPMean CQ CS CM CP) := ok_pmean FQM T Q S GNm bNm (PySem.W.mg_of X G aNm) kNm GSM bSM ⟨mSM, iSM, kSM⟩
  have GQE : FnOk l.prog w K mg base CX0 2 fQE _ ["self", "other"] (spPEq CQ CS CM CP) := ok_peq FQE Q E1
  have GLPo : FnOk l.prog w K mg base CX0 1 fLPo _ ["_law_script", "_law_k"] (LP.spPool K) := LP.ok_pool FLPo (PySem.W.mg_none_of X G zlen) (PySem.W.mg_none_of X G zabs) (PySem.W.mg_none_of X G zint)
  have GLTk : FnOk l.prog w K mg base CX0 1 fLTk _ ["_law_pool_here", "_law_many"] LP.spTake := LP.ok_take FLTk
  have GLMo : FnOk l.prog w K mg base CX0 1 fLMo _ ["_law_letter", "_law_number"] spModules := ok_modules FLMo
  have GLTo : FnOk l.prog w K mg base CX0 11 fLTo _ ["_law_modules_here", "_law_entry"] (spTold CQ CS CM CP) := ok_told FLTo L GQI bQI
  exact ok_law FLa (PySem.W.mg_none_of X G zrange) (PySem.W.mg_none_of X G zmax) (PySem.W.mg_none_of X G zmin) (PySem.W.mg_none_of X G zlen) (PySem.W.mg_none_of X G zstr) L Q GLPo bLPo (PySem.W.mg_of X G aLPo) kLPo GLTk bLTk (PySem.W.mg_of X G aLTk) kLTk GLMo bLMo (PySem.W.mg_of X G aLMo) kLMo GLTo bLTo (PySem.W.mg_of X G aLTo) kLTo GQI bQI r1QI b1QI GQR bQR ⟨mQR, iQR, kQR⟩ GQM bQM ⟨mQM, iQM, kQM⟩ GQE bQE mQE iQE mCQ eNQ
end KN

set_option Elab.async false
set_option linter.all false
open PySem PySem.W PyProof.Rows in
set_option maxRecDepth 100000 in
set_option maxHeartbeats 0 in
theorem PySem.Challenge.cw_foldsame_k19_known_names_holds : PySem.Challenge.rw_foldsame_k19_known_names.Holds := by
  w_on; o_law; k_head; (case hw => w_witness2)
  k_fill
  refine L2.walk_of (l := PySem.Challenge.rw_foldsame_k19_known_names) (n := 63) (k := 12) (x := "_law_script") (CX := fun _ => L2.CX0) (sp := fun w => KN.spLaw _) rfl (by decide) rfl ⟨rfl, by decide, by decide⟩ (fun w h Y => PySem.W.kIn_of Y) ?F (fun _ _ a ns hl _ hS => ⟨a, ns, rfl, hS, hl, fun _ => rfl⟩) (fun _ _ _ _ _ h => h)
  case F =>
    intro w mg fa h KX G hmg
    refine' KN.all_mk KX G hmg ?aLE ?aDI ?aL8 ?aMR ?aMP ?aPP ?aMT ?aOT ?xOT ?yOT ?dOT ?sOT ?vOT ?aRE ?xRE ?yRE ?dRE ?sRE ?vRE ?aKI ?xKI ?yKI ?dKI ?sKI ?vKI ?aFO ?xFO ?keFO ?klFO ?lwFO ?e0 ?x0 ?y0 ?d0 ?s0 ?v0 ?u0 ?e1 ?x1 ?y1 ?d1 ?s1 ?v1 ?u1 ?e2 ?x2 ?y2 ?d2 ?s2 ?v2 ?u2 ?e3 ?x3 ?y3 ?d3 ?s3 ?v3 ?u3 ?e4 ?x4 ?y4 ?d4 ?s4 ?v4 ?u4 ?e5 ?x5 ?y5 ?d5 ?s5 ?v5 ?u5 ?e6 ?x6 ?y6 ?d6 ?s6 ?v6 ?u6 ?e7 ?x7 ?y7 ?d7 ?s7 ?v7 ?u7 ?e8 ?x8 ?y8 ?d8 ?s8 ?v8 ?u8 ?e9 ?x9 ?y9 ?d9 ?s9 ?v9 ?u9 ?e10 ?x10 ?y10 ?d10 ?s10 ?v10 ?u10 ?e11 ?x11 ?y11 ?d11 ?s11 ?v11 ?u11 ?zisinstance ?zstr ?zlen ?zall ?zany ?zint ?zzip ?ztuple ?zenumerate ?zrange ?zlist ?zsorted ?zset ?ziter ?zmax ?zmin ?zabs ?zrepr ?aNm ?lNm ?cNm ?kNm ?aRi ?lRi ?cRi ?kRi ?aRp ?lRp ?cRp ?kRp ?aRs ?lRs ?cRs ?kRs ?aIn ?lIn ?cIn ?kIn ?aDa ?lDa ?cDa ?kDa ?aTa ?lTa ?cTa ?kTa ?aSp ?lSp ?cSp ?kSp ?aPa ?lPa ?cPa ?kPa ?aNP ?lNP ?cNP ?kNP ?aMeR ?lMeR ?cMeR ?kMeR ?aTkN ?lTkN ?cTkN ?kTkN ?aPMo ?lPMo ?cPMo ?kPMo ?aCkm ?lCkm ?cCkm ?kCkm ?aFnE ?lFnE ?cFnE ?kFnE ?aLPo ?lLPo ?cLPo ?kLPo ?aLTk ?lLTk ?cLTk ?kLTk ?aLMo ?lLMo ?cLMo ?kLMo ?aLTo ?lLTo ?cLTo ?kLTo ?aLa ?lLa ?cLa ?kLa ?hn ?ht ?aB ?xLB ?bvB ?saB ?gaB ?ggB ?a1B ?t1B ?kCB ?eCB ?tCB ?hCB ?cCB ?mCB ?lB ?cB ?kB ?noBrow ?iCB ?sCB ?aBM ?xLBM ?bvBM ?saBM ?gaBM ?ggBM ?a1BM ?t1BM ?kCBM ?eCBM ?tCBM ?hCBM ?cCBM ?mCBM ?lBM ?cBM ?kBM ?noBMmodule ?noBMrow ?iCBM ?sCBM ?aBN ?xLBN ?bvBN ?saBN ?gaBN ?ggBN ?a1BN ?t1BN ?kCBN ?eCBN ?tCBN ?hCBN ?cCBN ?mCBN ?lBN ?cBN ?kBN ?noBNvalue ?iCBN ?sCBN ?aCP ?pgCP ?hdCP ?poCP ?saCP ?mkCP ?kcCP ?nCPname ?nCPkind ?nCProws ?nCPtake ?nCP__iter__ ?nCProws_of ?nCPmeaning ?mPI ?iPI ?lPI ?cPI ?kPI ?mPL ?iPL ?lPL ?cPL ?kPL ?aCM ?pgCM ?hdCM ?poCM ?saCM ?mkCM ?kcCM ?nCMpieces ?nCMexports ?nCMaliases ?nCM_named ?nCMrows_of ?nCMmeaning ?mMI ?iMI ?lMI ?cMI ?kMI ?mMC ?iMC ?lMC ?cMC ?kMC ?mMit ?iMit ?lMit ?cMit ?kMit ?aCD ?pgCD ?hdCD ?poCD ?saCD ?mkCD ?kcCD ?nCDpieces ?nCDexports ?nCDaliases ?nCDnamed ?nCDkind ?nCDname ?nCDstart ?nCDrows ?mDI ?iDI ?lDI ?cDI ?kDI ?mTk ?iTk ?lTk ?cTk ?kTk ?mBt ?iBt ?lBt ?cBt ?kBt ?mEx ?iEx ?lEx ?cEx ?kEx ?mAl ?iAl ?lAl ?cAl ?kAl ?mTn ?iTn ?lTn ?cTn ?kTn ?mOp ?iOp ?lOp ?cOp ?kOp ?mWi ?iWi ?lWi ?cWi ?kWi ?mCl ?iCl ?lCl ?cCl ?kCl ?aCS ?pgCS ?hdCS ?poCS ?saCS ?mkCS ?kcCS ?nCSparsed ?nCSaliases ?nCSexporters ?nCSpieces ?nCSrows_of ?mSI ?iSI ?lSI ?cSI ?kSI ?mSE ?iSE ?lSE ?cSE ?kSE ?mSH ?iSH ?lSH ?cSH ?kSH ?mSM ?iSM ?lSM ?cSM ?kSM ?mSF ?iSF ?lSF ?cSF ?kSF ?mSX ?iSX ?lSX ?cSX ?kSX ?mSN ?iSN ?lSN ?cSN ?kSN ?mSR ?iSR ?lSR ?cSR ?kSR ?aCQ ?pgCQ ?hdCQ ?poCQ ?saCQ ?mkCQ ?kcCQ ?nCQ_scope ?nCQentry ?nCQpieces ?nCQ_kinds ?nCQ_rows ?nCQtaken ?cCQ ?mCQ ?eNQ ?mQI ?iQI ?lQI ?cQI ?kQI ?xTQI ?dTQI ?vTQI ?mQR ?iQR ?lQR ?cQR ?kQR ?mQM ?iQM ?lQM ?cQM ?kQM ?mQC ?iQC ?lQC ?cQC ?kQC ?mQE ?iQE ?lQE ?cQE ?kQE
    (case aLE => k_is)
    (case aDI => k_is)
    (case aL8 => k_is)
    (case aMR => k_is)
    (case aMP => k_is)
    (case aPP => k_is)
    (case aMT => k_is)
    (case aOT => k_is)
    (case xOT => k_is)
    (case yOT => rfl)
    (case dOT => rfl)
    (case sOT => decide)
    (case vOT => (repeat (first | exact .nil | refine .cons ⟨_, rfl⟩ ?_)))
    (case aRE => k_is)
    (case xRE => k_is)
    (case yRE => rfl)
    (case dRE => rfl)
    (case sRE => decide)
    (case vRE => (repeat (first | exact .nil | refine .cons ⟨_, rfl⟩ ?_)))
    (case aKI => k_is)
    (case xKI => k_is)
    (case yKI => rfl)
    (case dKI => rfl)
    (case sKI => decide)
    (case vKI => (repeat (first | exact .nil | refine .cons ⟨_, rfl⟩ ?_)))
    (case aFO => k_is)
    (case xFO => k_is)
    (case keFO => rfl)
    (case klFO => k_keys)
    (case lwFO => first | rfl | decide)
    (case e0 => k_is)
    (case x0 => k_is)
    (case y0 => rfl)
    (case d0 => rfl)
    (case s0 => decide)
    (case v0 => (repeat (first | exact .nil | refine .cons ⟨_, rfl⟩ ?_)))
    (case u0 => rfl)
    (case e1 => k_is)
    (case x1 => k_is)
    (case y1 => rfl)
    (case d1 => rfl)
    (case s1 => decide)
    (case v1 => (repeat (first | exact .nil | refine .cons ⟨_, rfl⟩ ?_)))
    (case u1 => rfl)
    (case e2 => k_is)
    (case x2 => k_is)
    (case y2 => rfl)
    (case d2 => rfl)
    (case s2 => decide)
    (case v2 => (repeat (first | exact .nil | refine .cons ⟨_, rfl⟩ ?_)))
    (case u2 => rfl)
    (case e3 => k_is)
    (case x3 => k_is)
    (case y3 => rfl)
    (case d3 => rfl)
    (case s3 => decide)
    (case v3 => (repeat (first | exact .nil | refine .cons ⟨_, rfl⟩ ?_)))
    (case u3 => rfl)
    (case e4 => k_is)
    (case x4 => k_is)
    (case y4 => rfl)
    (case d4 => rfl)
    (case s4 => decide)
    (case v4 => (repeat (first | exact .nil | refine .cons ⟨_, rfl⟩ ?_)))
    (case u4 => rfl)
    (case e5 => k_is)
    (case x5 => k_is)
    (case y5 => rfl)
    (case d5 => rfl)
    (case s5 => decide)
    (case v5 => (repeat (first | exact .nil | refine .cons ⟨_, rfl⟩ ?_)))
    (case u5 => rfl)
    (case e6 => k_is)
    (case x6 => k_is)
    (case y6 => rfl)
    (case d6 => rfl)
    (case s6 => decide)
    (case v6 => (repeat (first | exact .nil | refine .cons ⟨_, rfl⟩ ?_)))
    (case u6 => rfl)
    (case e7 => k_is)
    (case x7 => k_is)
    (case y7 => rfl)
    (case d7 => rfl)
    (case s7 => decide)
    (case v7 => (repeat (first | exact .nil | refine .cons ⟨_, rfl⟩ ?_)))
    (case u7 => rfl)
    (case e8 => k_is)
    (case x8 => k_is)
    (case y8 => rfl)
    (case d8 => rfl)
    (case s8 => decide)
    (case v8 => (repeat (first | exact .nil | refine .cons ⟨_, rfl⟩ ?_)))
    (case u8 => rfl)
    (case e9 => k_is)
    (case x9 => k_is)
    (case y9 => rfl)
    (case d9 => rfl)
    (case s9 => decide)
    (case v9 => (repeat (first | exact .nil | refine .cons ⟨_, rfl⟩ ?_)))
    (case u9 => rfl)
    (case e10 => k_is)
    (case x10 => k_is)
    (case y10 => rfl)
    (case d10 => rfl)
    (case s10 => decide)
    (case v10 => (repeat (first | exact .nil | refine .cons ⟨_, rfl⟩ ?_)))
    (case u10 => rfl)
    (case e11 => k_is)
    (case x11 => k_is)
    (case y11 => rfl)
    (case d11 => rfl)
    (case s11 => decide)
    (case v11 => (repeat (first | exact .nil | refine .cons ⟨_, rfl⟩ ?_)))
    (case u11 => rfl)
    (case zisinstance => k_is)
    (case zstr => k_is)
    (case zlen => k_is)
    (case zall => k_is)
    (case zany => k_is)
    (case zint => k_is)
    (case zzip => k_is)
    (case ztuple => k_is)
    (case zenumerate => k_is)
    (case zrange => k_is)
    (case zlist => k_is)
    (case zsorted => k_is)
    (case zset => k_is)
    (case ziter => k_is)
    (case zmax => k_is)
    (case zmin => k_is)
    (case zabs => k_is)
    (case zrepr => k_is)
    (case aNm => k_is)
    (case lNm => k_is)
    (case cNm => k_is)
    (case kNm => k_is)
    (case aRi => k_is)
    (case lRi => k_is)
    (case cRi => k_is)
    (case kRi => k_is)
    (case aRp => k_is)
    (case lRp => k_is)
    (case cRp => k_is)
    (case kRp => k_is)
    (case aRs => k_is)
    (case lRs => k_is)
    (case cRs => k_is)
    (case kRs => k_is)
    (case aIn => k_is)
    (case lIn => k_is)
    (case cIn => k_is)
    (case kIn => k_is)
    (case aDa => k_is)
    (case lDa => k_is)
    (case cDa => k_is)
    (case kDa => k_is)
    (case aTa => k_is)
    (case lTa => k_is)
    (case cTa => k_is)
    (case kTa => k_is)
    (case aSp => k_is)
    (case lSp => k_is)
    (case cSp => k_is)
    (case kSp => k_is)
    (case aPa => k_is)
    (case lPa => k_is)
    (case cPa => k_is)
    (case kPa => k_is)
    (case aNP => k_is)
    (case lNP => k_is)
    (case cNP => k_is)
    (case kNP => k_is)
    (case aMeR => k_is)
    (case lMeR => k_is)
    (case cMeR => k_is)
    (case kMeR => k_is)
    (case aTkN => k_is)
    (case lTkN => k_is)
    (case cTkN => k_is)
    (case kTkN => k_is)
    (case aPMo => k_is)
    (case lPMo => k_is)
    (case cPMo => k_is)
    (case kPMo => k_is)
    (case aCkm => k_is)
    (case lCkm => k_is)
    (case cCkm => k_is)
    (case kCkm => k_is)
    (case aFnE => k_is)
    (case lFnE => k_is)
    (case cFnE => k_is)
    (case kFnE => k_is)
    (case aLPo => k_is)
    (case lLPo => k_is)
    (case cLPo => k_is)
    (case kLPo => k_is)
    (case aLTk => k_is)
    (case lLTk => k_is)
    (case cLTk => k_is)
    (case kLTk => k_is)
    (case aLMo => k_is)
    (case lLMo => k_is)
    (case cLMo => k_is)
    (case kLMo => k_is)
    (case aLTo => k_is)
    (case lLTo => k_is)
    (case cLTo => k_is)
    (case kLTo => k_is)
    (case aLa => k_is)
    (case lLa => k_is)
    (case cLa => k_is)
    (case kLa => k_is)
    (case hn => k_is)
    (case ht => k_is)
    (case aB => k_is)
    (case xLB => k_is)
    (case bvB => rfl)
    (case saB => k_is)
    (case gaB => k_is)
    (case ggB => k_is)
    (case a1B => k_is)
    (case t1B => k_is)
    (case kCB => k_is)
    (case eCB => k_is)
    (case tCB => k_is)
    (case hCB => k_is)
    (case cCB => k_is)
    (case mCB => k_is)
    (case lB => k_is)
    (case cB => k_is)
    (case kB => k_is)
    (case noBrow => k_is)
    (case iCB => k_is)
    (case sCB => first | rfl | k_is)
    (case aBM => k_is)
    (case xLBM => k_is)
    (case bvBM => rfl)
    (case saBM => k_is)
    (case gaBM => k_is)
    (case ggBM => k_is)
    (case a1BM => k_is)
    (case t1BM => k_is)
    (case kCBM => k_is)
    (case eCBM => k_is)
    (case tCBM => k_is)
    (case hCBM => k_is)
    (case cCBM => k_is)
    (case mCBM => k_is)
    (case lBM => k_is)
    (case cBM => k_is)
    (case kBM => k_is)
    (case noBMmodule => k_is)
    (case noBMrow => k_is)
    (case iCBM => k_is)
    (case sCBM => first | rfl | k_is)
    (case aBN => k_is)
    (case xLBN => k_is)
    (case bvBN => rfl)
    (case saBN => k_is)
    (case gaBN => k_is)
    (case ggBN => k_is)
    (case a1BN => k_is)
    (case t1BN => k_is)
    (case kCBN => k_is)
    (case eCBN => k_is)
    (case tCBN => k_is)
    (case hCBN => k_is)
    (case cCBN => k_is)
    (case mCBN => k_is)
    (case lBN => k_is)
    (case cBN => k_is)
    (case kBN => k_is)
    (case noBNvalue => k_is)
    (case iCBN => k_is)
    (case sCBN => first | rfl | k_is)
    (case aCP => k_is)
    (case pgCP => k_is)
    (case hdCP => k_is)
    (case poCP => k_is)
    (case saCP => k_is)
    (case mkCP => k_is)
    (case kcCP => k_is)
    (case nCPname => k_is)
    (case nCPkind => k_is)
    (case nCProws => k_is)
    (case nCPtake => k_is)
    (case nCP__iter__ => k_is)
    (case nCProws_of => k_is)
    (case nCPmeaning => k_is)
    (case mPI => k_is)
    (case iPI => k_is)
    (case lPI => k_is)
    (case cPI => k_is)
    (case kPI => k_is)
    (case mPL => k_is)
    (case iPL => k_is)
    (case lPL => k_is)
    (case cPL => k_is)
    (case kPL => k_is)
    (case aCM => k_is)
    (case pgCM => k_is)
    (case hdCM => k_is)
    (case poCM => k_is)
    (case saCM => k_is)
    (case mkCM => k_is)
    (case kcCM => k_is)
    (case nCMpieces => k_is)
    (case nCMexports => k_is)
    (case nCMaliases => k_is)
    (case nCM_named => k_is)
    (case nCMrows_of => k_is)
    (case nCMmeaning => k_is)
    (case mMI => k_is)
    (case iMI => k_is)
    (case lMI => k_is)
    (case cMI => k_is)
    (case kMI => k_is)
    (case mMC => k_is)
    (case iMC => k_is)
    (case lMC => k_is)
    (case cMC => k_is)
    (case kMC => k_is)
    (case mMit => k_is)
    (case iMit => k_is)
    (case lMit => k_is)
    (case cMit => k_is)
    (case kMit => k_is)
    (case aCD => k_is)
    (case pgCD => k_is)
    (case hdCD => k_is)
    (case poCD => k_is)
    (case saCD => k_is)
    (case mkCD => k_is)
    (case kcCD => k_is)
    (case nCDpieces => k_is)
    (case nCDexports => k_is)
    (case nCDaliases => k_is)
    (case nCDnamed => k_is)
    (case nCDkind => k_is)
    (case nCDname => k_is)
    (case nCDstart => k_is)
    (case nCDrows => k_is)
    (case mDI => k_is)
    (case iDI => k_is)
    (case lDI => k_is)
    (case cDI => k_is)
    (case kDI => k_is)
    (case mTk => k_is)
    (case iTk => k_is)
    (case lTk => k_is)
    (case cTk => k_is)
    (case kTk => k_is)
    (case mBt => k_is)
    (case iBt => k_is)
    (case lBt => k_is)
    (case cBt => k_is)
    (case kBt => k_is)
    (case mEx => k_is)
    (case iEx => k_is)
    (case lEx => k_is)
    (case cEx => k_is)
    (case kEx => k_is)
    (case mAl => k_is)
    (case iAl => k_is)
    (case lAl => k_is)
    (case cAl => k_is)
    (case kAl => k_is)
    (case mTn => k_is)
    (case iTn => k_is)
    (case lTn => k_is)
    (case cTn => k_is)
    (case kTn => k_is)
    (case mOp => k_is)
    (case iOp => k_is)
    (case lOp => k_is)
    (case cOp => k_is)
    (case kOp => k_is)
    (case mWi => k_is)
    (case iWi => k_is)
    (case lWi => k_is)
    (case cWi => k_is)
    (case kWi => k_is)
    (case mCl => k_is)
    (case iCl => k_is)
    (case lCl => k_is)
    (case cCl => k_is)
    (case kCl => k_is)
    (case aCS => k_is)
    (case pgCS => k_is)
    (case hdCS => k_is)
    (case poCS => k_is)
    (case saCS => k_is)
    (case mkCS => k_is)
    (case kcCS => k_is)
    (case nCSparsed => k_is)
    (case nCSaliases => k_is)
    (case nCSexporters => k_is)
    (case nCSpieces => k_is)
    (case nCSrows_of => k_is)
    (case mSI => k_is)
    (case iSI => k_is)
    (case lSI => k_is)
    (case cSI => k_is)
    (case kSI => k_is)
    (case mSE => k_is)
    (case iSE => k_is)
    (case lSE => k_is)
    (case cSE => k_is)
    (case kSE => k_is)
    (case mSH => k_is)
    (case iSH => k_is)
    (case lSH => k_is)
    (case cSH => k_is)
    (case kSH => k_is)
    (case mSM => k_is)
    (case iSM => k_is)
    (case lSM => k_is)
    (case cSM => k_is)
    (case kSM => k_is)
    (case mSF => k_is)
    (case iSF => k_is)
    (case lSF => k_is)
    (case cSF => k_is)
    (case kSF => k_is)
    (case mSX => k_is)
    (case iSX => k_is)
    (case lSX => k_is)
    (case cSX => k_is)
    (case kSX => k_is)
    (case mSN => k_is)
    (case iSN => k_is)
    (case lSN => k_is)
    (case cSN => k_is)
    (case kSN => k_is)
    (case mSR => k_is)
    (case iSR => k_is)
    (case lSR => k_is)
    (case cSR => k_is)
    (case kSR => k_is)
    (case aCQ => k_is)
    (case pgCQ => k_is)
    (case hdCQ => k_is)
    (case poCQ => k_is)
    (case saCQ => k_is)
    (case mkCQ => k_is)
    (case kcCQ => k_is)
    (case nCQ_scope => k_is)
    (case nCQentry => k_is)
    (case nCQpieces => k_is)
    (case nCQ_kinds => k_is)
    (case nCQ_rows => k_is)
    (case nCQtaken => k_is)
    (case cCQ => k_is)
    (case mCQ => k_is)
    (case eNQ => k_is)
    (case mQI => k_is)
    (case iQI => k_is)
    (case lQI => k_is)
    (case cQI => k_is)
    (case kQI => k_is)
    (case xTQI => k_is)
    (case dTQI => rfl)
    (case vTQI => (repeat (first | exact .nil | refine .cons ⟨_, rfl⟩ ?_)))
    (case mQR => k_is)
    (case iQR => k_is)
    (case lQR => k_is)
    (case cQR => k_is)
    (case kQR => k_is)
    (case mQM => k_is)
    (case iQM => k_is)
    (case lQM => k_is)
    (case cQM => k_is)
    (case kQM => k_is)
    (case mQC => k_is)
    (case iQC => k_is)
    (case lQC => k_is)
    (case cQC => k_is)
    (case kQC => k_is)
    (case mQE => k_is)
    (case iQE => k_is)
    (case lQE => k_is)
    (case cQE => k_is)
    (case kQE => k_is)
