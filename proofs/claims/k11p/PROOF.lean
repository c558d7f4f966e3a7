import PyProof.Rows.All
import HandS.ForMost
import HandS.ForExc
import HandS.RaiseMore
import HandS.IsInst
import HandS.Wide
import PyProof.ReprRoads
import HandS.TupMul
import HandS.Codes
import KE.KExcInit
import HandS.TupAny
import HandS.Style
import HandS.TupLe
import HandS.DeepEq
import PyProof.ReprLen
import KE.GoesMore
import HandS.Iter
import HandS.Walk
import HandS.Strs
import HandS.Zip
import HandS.List
import PyProof.Rows.StrMeet
import HandS.StrMore
import PySem.Challenge.RW_sharedlets_k11_whole_which_nodes_are_gra
import HandS.NamedTupSort
import HandS.SortInts
import KE.KRevSl
import HandS.Dict
import HandS.DictComp
import PyProof.DictUpdate
import HandS.Conv
import HandS.Small
import HandS.SetFor
import KE.OsSetLaws
import HandS.SortRule
import HandS.Star
import HandS.CallLocal
import HandS.SlotsOwn
import HandS.Property
import OpenK.KOps
import OpenK.KMeth
import HandS.More
import PyProof.InstNe
import KE.KCallOwn
import HandS.IterVal
import KE.KOwnIter
import HandS.ClsMeth
import HandS.TupSets
import PyProof.TupleIter
import PyProof.WalksMore
import PyProof.FactsAll.subtypes_4
import HandS.Hot
import PyProof.Seq
import PyProof.Rows.TupIter
import PyProof.Walks
import HandS.HotCalls
import HandS.Comp
import HandS.ExcOwn
import HandS.ExcCtx
import HandS.SuiteRaise
set_option Elab.async false
set_option linter.all false
set_option maxRecDepth 100000
set_option maxHeartbeats 4000000
/-! ## Promises that are kept where no repr is under way; repr of data; a law's head -/
namespace Sl
open PySem PySem.Spec PyProof.Rows L2
/-- as FnOk, where the frames around are known to write nothing -/
structure FnG (P : Program) (w : World) (K : PySem.W.Frag) (mg : Str → Option Value) (base : Heap) (CX : CXT) (k : Nat) (f : Addr) (fd : FuncData) (ps : List Str) (sp : Sp) : Prop where
  size : ∀ xs G Q E, sp xs G Q E → xs.length = ps.length
  goes : ∀ A : Around, A.guards = some [] → ∀ (l : List Env) (z : Shared) (G : Hp) (ar : Args) (us : List Value) (xs : List V) (Q : VK) (E : XK), Room k A → Env0 P w K mg base A l z G →
    BindsTo z fd ar (ps.zip us) → Vals xs us → sp xs G Q E → codeAny (model P w) A (.call (.ref f) ar) (CR CX l P w G z Q E) z
theorem FnG.of {P : Program} {w : World} {K : PySem.W.Frag} {mg : Str → Option Value} {base : Heap} {CX : CXT} {k : Nat} {f : Addr} {fd : FuncData} {ps : List Str} {sp : Sp}
    (F : FnOk P w K mg base CX k f fd ps sp) : FnG P w K mg base CX k f fd ps sp :=
  ⟨F.len, fun A _ l z G ar us xs Q E a b c d e => F.run A l z G ar us xs Q E a b c d e⟩
section
variable {X : Cx} {CX : CXT} {k : Nat} {f : Addr} {fd : FuncData} {ps : List Str} {sp : Sp} {dvs : List V} {ds : List Value} {E : XK} {x : Str} {p pos : Pos} {e : Expr} {es : List Expr} {t : TA}
theorem goG {pins : List (Addr × Obj)} {σ : L2.St} {G : Hp} {z : Shared} {Q : VK} {us : List Value} {xs : List V} (hG : X.A.guards = some []) (F : FnG X.prog X.w X.K X.mg X.base CX k f fd ps sp) (hr : Room k X.A) (hb : Binds X.K fd ps ds)
    (hd : Vals dvs ds) (hx : Passes CX X E) (I : Inv X pins σ G z) (r : Vals xs us) (h : sp (xs ++ dvs) G Q E) :
    wpAny (model X.prog X.w) X.A (call (.ref f) us) (EP X pins σ Q) X.xe z := by
  have r' : Vals (xs ++ dvs) (us ++ ds) := r.append hd
  have n : (us ++ ds).length = ps.length := r'.length.symm.trans (F.size _ _ _ _ h)
  apply wpAny_call
  apply codeAny_mono (F.goes X.A hG X.stack z G ⟨us, []⟩ (us ++ ds) (xs ++ dvs) Q E hr I.env0 (hb z us I.kIn n) r' h)
  intro o z' q
  match o, q with
  | .error e, q => exact hx pins σ G z e z' I q
  | .ok (.ret u), q => exact I.after q
/-- f(e, ..), f of such a promise -/
theorem pe_callG (hG : X.A.guards = some []) (F : FnG X.prog X.w X.K X.mg X.base CX k f fd ps sp) (hr : Room k X.A) (hg : Gl X x) (hm : X.mg x = some (.ref f)) (hk : PySem.W.keepIn X.K (.ref f) = true) (hb : Binds X.K fd ps ds)
    (hd : Vals dvs ds) (hx : Passes CX X E) (ha : PA X (e :: es) t) (hdb : (x == ("__debug__" : Str)) = false := by decide)
    (he : starEach (e :: es) X.env = (false, eval e X.env) :: starEach es X.env := by rfl) (hpl : (backTo pos (starEach es X.env)).any (·.1) = false := by rfl) :
    PE X (.Call (.Name x p) (e :: es) [] pos) (tCall sp dvs E t) := by
  constructor
  intro pins z σ G Q I h
  apply wpAny_Call_Name_kw (ld_glob I hg hm ?_ hdb)
  apply PySem.W.callWith_K (h₀ := X.base) I.ok.mod.kin hk ?_ he hpl
  exact thn (ha.run pos pins z σ G _ I h) fun us z1 ⟨xs, G1, I1, r, q⟩ => ⟨I1.kIn, goG hG F hr hb hd hx I1 r q⟩
end
section
variable {P : Program} {w : World} {K : PySem.W.Frag} {mg : Str → Option Value} {base : Heap}
/-- a def by its body: as Fun.okX, the body may use that no repr is under way -/
theorem okG {x qual : Str} {st : Stmt} {f : Addr} {fd : FuncData} {N ps : List Str} {k : Nat} {sp : Sp} (F : Fun K x qual st f fd) (S : FnScope N ps (defScope st)) (size : ∀ xs G Q E, sp xs G Q E → xs.length = ps.length)
    (body : ∀ (cdv : Value) (A : Around) (l : List Env) (z : Shared) (G : Hp) (xs : List V) (Q : VK) (E : XK), A.guards = some [] → Room k (A.deeper (envOfC qual (defScope st) z.heap.objs.size f cdv)) → sp xs G Q E →
      ∃ t, PSs (cxOf (L2.CX P w) P w K mg base N qual (defScope st) f cdv A l z G E) (defBody st) t ∧ t { nx := fun _ G' => Q .non G', rt := Q } (start N xs) G) :
    FnG P w K mg base (L2.CX P w) (k + 1) f fd ps sp := by
  obtain ⟨oc, od, kV, doc, pm, an, cdv, ct, osl, rfl, lk, hcd⟩ := F.ex
  constructor
  · exact size
  intro A hG l z G ar us xs Q E hr e0 hb r hsp
  have hl := size _ _ _ _ hsp
  have inK : K.In z.heap := e0.mod.kin.keeps fun b o e => (e0.bs b o e).1
  have lim : z.heap.NoLimit := e0.mod.nolimit.keeps fun b o e => (e0.bs b o e).1
  have kinds : ∀ y ∈ ps.zip us, (defScope st).names.lookup y.1 = some .local ∨ ((defScope st).names.lookup y.1 = some .cell ∧ ((cellsFrom (z.heap.objs.size + 1) (defScope st).names []).lookup y.1).isSome = true) := by
    intro ⟨n, v⟩ hy
    cases S.par n (List.of_mem_zip hy).1 with
    | inl q => exact Or.inl q
    | inr q => exact Or.inr ⟨q, PySem.W.cellsFrom_some _ _ _ (Or.inl q)⟩
  apply codeAny_call_function hr.depth (inK _ _ lk) rfl S.co S.gen rfl (PySem.W.codeRec_of inK hcd) (hb _ _ _ _ ?_)
  apply wpAny_newFunctionEnv_cells S.kind kinds
  intro env he z1 y
  subst he
  refine ⟨lim.keeps y.toInCall.keep, codeAny_func ?_⟩
  obtain ⟨t, ht, hq⟩ := body cdv A l z G xs Q E hG (hr.deeper _) hsp
  have I0 := inv_start (CX := L2.CX P w) (N := N) (qual := qual) (scope := defScope st) (f := f) (cd := cdv) (E := E) S hr.hd e0 hl r y
  apply wpAny_mono (ht.run [] z1 (start N xs) G _ I0 hq) ?_ (fun e z' hz => hz)
  intro fl z' hz
  match fl, hz with
  | .ret u, ⟨v, σ', G', J, rv, q⟩ => exact ⟨v, G', J.os, J.bare, J.base, J.hok, rv, q⟩
  | .next, ⟨σ', G', J, q⟩ => exact ⟨V.non, G', J.os, J.bare, J.base, J.hok, rfl, q⟩
  | .brk, ⟨_, _, _, q⟩ => exact q.elim
  | .cont, ⟨_, _, _, q⟩ => exact q.elim
end
/-! ### heaps: lists may be filled, all else stays -/
/-- all that is tracked stays, but for what lists hold -/
def Ex (G G' : Hp) : Prop := ∀ b o, G b = some o → G' b = some o ∨ ((∃ l, o = .lst l) ∧ ∃ l', G' b = some (.lst l'))
theorem Ex.refl (G : Hp) : Ex G G := fun _ _ h => .inl h
theorem Ex.trans {G G1 G2 : Hp} (a : Ex G G1) (b : Ex G1 G2) : Ex G G2 := by
  intro c o h
  rcases a c o h with h1 | ⟨⟨l, e⟩, l1, h1⟩
  · exact b c o h1
  · rcases b c _ h1 with h2 | ⟨_, l2, h2⟩
    · exact .inr ⟨⟨l, e⟩, _, h2⟩
    · exact .inr ⟨⟨l, e⟩, _, h2⟩
theorem Ex.same {G G' : Hp} (h : Same G G') : Ex G G' := fun b o q => .inl (h b o q)
theorem Same.new {G : Hp} {p : Addr} {o : HO} (h : G p = none) : Same G (upd G p o) := fun b x e => by
  rw [upd_ne (ne_of_none e h)]
  exact e
/-- all but a stays -/
def Off (a : Addr) (G G' : Hp) : Prop := ∀ b o, b ≠ a → G b = some o → G' b = some o
theorem Off.refl (a : Addr) (G : Hp) : Off a G G := fun _ _ _ h => h
theorem Off.trans {a : Addr} {G G1 G2 : Hp} (x : Off a G G1) (y : Off a G1 G2) : Off a G G2 := fun b o n h => y b o n (x b o n h)
theorem Off.put {a : Addr} {G : Hp} {o : HO} : Off a G (upd G a o) := fun b x n e => by
  rw [upd_ne n]
  exact e
theorem Off.same {a : Addr} {G G' : Hp} (h : Same G G') : Off a G G' := fun b o _ q => h b o q
theorem Off.ex {a : Addr} {G G' : Hp} {l l' : List V} (h : Off a G G') (h1 : G a = some (.lst l)) (h2 : G' a = some (.lst l')) : Ex G G' := by
  intro b o q
  by_cases e : b = a
  · subst e
    rw [h1] at q
    cases q
    exact .inr ⟨⟨l, rfl⟩, l', h2⟩
  · exact .inl (h b o e q)
theorem Ex.tup {K : PySem.W.Frag} {G G' : Hp} {a : Addr} {xs : List V} (e : Ex G G') (h : SqT K G a xs) : SqT K G' a xs := by
  rcases h with (h | ⟨o, h⟩) | h
  · rcases e _ _ h with q | ⟨⟨_, z⟩, _⟩
    · exact .inl (.inl q)
    · cases z
  · rcases e _ _ h with q | ⟨⟨_, z⟩, _⟩
    · exact .inl (.inr ⟨o, q⟩)
    · cases z
  · exact .inr h
theorem Ex.ty {K : PySem.W.Frag} {G G' : Hp} {v : V} {t : Value} (e : Ex G G') (h : TyX K G v t) : TyX K G' v t := by
  cases h with
  | base b =>
    cases b with
    | non => exact .base .non
    | bl x => exact .base (.bl x)
    | int i => exact .base (.int i)
    | str x => exact .base (.str x)
    | flt x => exact .base (.flt x)
    | lst q =>
      rcases e _ _ q with q | ⟨_, l, q⟩
      · exact .base (.lst q)
      · exact .base (.lst q)
    | frz q =>
      rcases e _ _ q with q | ⟨⟨_, z⟩, _⟩
      · exact .base (.frz q)
      · cases z
    | tup q =>
      rcases e _ _ q with q | ⟨⟨_, z⟩, _⟩
      · exact .base (.tup q)
      · cases z
    | dK q =>
      rcases e _ _ q with q | ⟨⟨_, z⟩, _⟩
      · exact .base (.dK q)
      · cases z
    | dT q =>
      rcases e _ _ q with q | ⟨⟨_, z⟩, _⟩
      · exact .base (.dT q)
      · cases z
    | ins q cl ha hn htk hm =>
      rcases e _ _ q with q | ⟨⟨_, z⟩, _⟩
      · exact .base (.ins q cl ha hn htk hm)
      · cases z
  | byt b => exact .byt b
  | set q =>
    rcases e _ _ q with q | ⟨⟨_, z⟩, _⟩
    · exact .set q
    · cases z
  | kList a b => exact .kList a b
  | kTuple a b => exact .kTuple a b
  | kDict a b => exact .kDict a b
  | fTuple q =>
    rcases e _ _ q with q | ⟨⟨_, z⟩, _⟩
    · exact .fTuple q
    · cases z
  | fDict q =>
    rcases e _ _ q with q | ⟨⟨_, z⟩, _⟩
    · exact .fDict q
    · cases z
/-! ### values of any kind: what lists and dicts hold is left out -/
inductive D where
  | non
  | bl (b : Bool)
  | int (i : Int)
  | str (x : Str)
  | tup (ds : List D)
  | lst
  | dct
def D.ty : D → String
  | .non => "NoneType"
  | .bl _ => "bool"
  | .int _ => "int"
  | .str _ => "str"
  | .tup _ => "tuple"
  | .lst => "list"
  | .dct => "dict"
mutual
inductive Rdd (K : PySem.W.Frag) (H : Hp) : V → D → Prop
  | non : Rdd K H .non .non
  | bl (b : Bool) : Rdd K H (.bl b) (.bl b)
  | int (i : Int) : Rdd K H (.int i) (.int i)
  | str (x : Str) : Rdd K H (.str x) (.str x)
  | tup {a : Addr} {xs : List V} {ds : List D} : SqT K H a xs → RddAll K H xs ds → ds.length ≤ 100000 → Rdd K H (.ref a) (.tup ds)
  | lst {v : V} : TyX K H v (.type "list") → Rdd K H v .lst
  | dct {v : V} : TyX K H v (.type "dict") → Rdd K H v .dct
inductive RddAll (K : PySem.W.Frag) (H : Hp) : List V → List D → Prop
  | nil : RddAll K H [] []
  | cons {v : V} {vs : List V} {d : D} {ds : List D} : Rdd K H v d → RddAll K H vs ds → RddAll K H (v :: vs) (d :: ds)
end
section
variable {K : PySem.W.Frag} {H H' : Hp}
theorem sqT_ty {a : Addr} {xs : List V} (h : SqT K H a xs) : TyX K H (.ref a) (.type "tuple") := by
  rcases h with (h | ⟨o, h⟩) | ⟨o, its, n, hk, hc, _⟩
  · exact .base (.tup h)
  · exact .fTuple h
  · exact .kTuple hk hc
theorem Rdd.ty {v : V} {d : D} (h : Rdd K H v d) : TyX K H v (.type d.ty) := by
  cases h with
  | non => exact .base .non
  | bl b => exact .base (.bl b)
  | int i => exact .base (.int i)
  | str x => exact .base (.str x)
  | tup hs _ _ => exact sqT_ty hs
  | lst h => exact h
  | dct h => exact h
mutual
theorem Rdd.ex (e : Ex H H') : ∀ (d : D) {v : V}, Rdd K H v d → Rdd K H' v d
  | .non, _, h => by cases h; exact .non
  | .bl b, _, h => by cases h; exact .bl b
  | .int i, _, h => by cases h; exact .int i
  | .str x, _, h => by cases h; exact .str x
  | .tup ds, _, h => by
    cases h with
    | tup hs ha z => exact .tup (e.tup hs) (RddAll.ex e ds ha) z
  | .lst, _, h => by
    cases h with
    | lst q => exact .lst (e.ty q)
  | .dct, _, h => by
    cases h with
    | dct q => exact .dct (e.ty q)
theorem RddAll.ex (e : Ex H H') : ∀ (ds : List D) {vs : List V}, RddAll K H vs ds → RddAll K H' vs ds
  | [], _, h => by cases h; exact .nil
  | d :: ds, _, h => by
    cases h with
    | cons h1 h2 => exact .cons (Rdd.ex e d h1) (RddAll.ex e ds h2)
end
theorem RddAll.length : ∀ {vs : List V} {ds : List D}, RddAll K H vs ds → vs.length = ds.length
  | _, _, .nil => rfl
  | _, _, .cons _ h => by rw [List.length_cons, List.length_cons, h.length]
theorem RddAll.get : ∀ {vs : List V} {ds : List D} {i : Nat} {v : V}, RddAll K H vs ds → vs[i]? = some v → ∃ d, ds[i]? = some d ∧ Rdd K H v d
  | _, _, i, v, .nil, h => by simp at h
  | _, _, 0, v, .cons h1 h2, h => by
    have e := Option.some.inj h
    subst e
    exact ⟨_, rfl, h1⟩
  | _, _, i + 1, v, .cons h1 h2, h => RddAll.get (i := i) h2 (by rw [List.getElem?_cons_succ] at h; exact h)
/-- isinstance(v, t), t a built-in class -/
def isT (a b : String) : Bool := (kitB a b).getD false
def isA (t : String) (d : D) : Bool := isT d.ty t
theorem kit_isA {d : D} {t : String} (h : ∀ s ∈ ["NoneType", "bool", "int", "str", "tuple", "list", "dict"], (kitB s t).isSome = true) : PySem.W.kitOne K (.type d.ty) (.type t) = some (isA t d) := by
  have q : (kitB d.ty t).isSome = true := by
    apply h
    cases d <;> simp [D.ty]
  apply kit_ty
  unfold isA isT
  cases e : kitB d.ty t with
  | none => rw [e] at q; cases q
  | some b => rfl
theorem isA_int (d : D) : isA "int" d = match d with | .bl _ => true | .int _ => true | _ => false := by
  cases d
  · exact (by decide +kernel : isT "NoneType" "int" = false)
  · exact (by decide +kernel : isT "bool" "int" = true)
  · exact (by decide +kernel : isT "int" "int" = true)
  · exact (by decide +kernel : isT "str" "int" = false)
  · exact (by decide +kernel : isT "tuple" "int" = false)
  · exact (by decide +kernel : isT "list" "int" = false)
  · exact (by decide +kernel : isT "dict" "int" = false)
theorem isA_bool (d : D) : isA "bool" d = match d with | .bl _ => true | _ => false := by
  cases d
  · exact (by decide +kernel : isT "NoneType" "bool" = false)
  · exact (by decide +kernel : isT "bool" "bool" = true)
  · exact (by decide +kernel : isT "int" "bool" = false)
  · exact (by decide +kernel : isT "str" "bool" = false)
  · exact (by decide +kernel : isT "tuple" "bool" = false)
  · exact (by decide +kernel : isT "list" "bool" = false)
  · exact (by decide +kernel : isT "dict" "bool" = false)
theorem isA_tuple (d : D) : isA "tuple" d = match d with | .tup _ => true | _ => false := by
  cases d
  · exact (by decide +kernel : isT "NoneType" "tuple" = false)
  · exact (by decide +kernel : isT "bool" "tuple" = false)
  · exact (by decide +kernel : isT "int" "tuple" = false)
  · exact (by decide +kernel : isT "str" "tuple" = false)
  · exact (by decide +kernel : isT "tuple" "tuple" = true)
  · exact (by decide +kernel : isT "list" "tuple" = false)
  · exact (by decide +kernel : isT "dict" "tuple" = false)
end
/-! ### comprehensions whose turns change nothing that stood: item i gives the i-th of ys (none: it is left out) -/
theorem same_off {D : Addr} {H H' : Hp} (h : Off D H H') (n : H D = none) : Same H H' := fun b o e => h b o (ne_of_none e n) e
theorem lcT {K : PySem.W.Frag} {a : Addr} {xs : List V} {g : TG} {tt : TT} {te : TE} {vs : List Nat} {σ : L2.St} {H1 : Hp} {D : Addr} {Qd : Hp → Prop} (ys : List (Option V)) (hlen : ys.length = xs.length) (hz : xs.length ≤ 100000) (hT : SqT K H1 a xs) (hD : H1 D = none)
    (hs : ∀ (i : Nat) (x : V) (H : Hp) (Q : VK) (Z : Hp → Prop), xs[i]? = some x → Same H1 H → (∀ y H', ys[i]? = some (some y) → Same H H' → Q y H') → (∀ H', ys[i]? = some none → Same H H' → Z H') →
      g x (wipe σ vs) H fun σ2 H2 => wipe σ2 vs = wipe σ vs ∧ tt σ2 H2 fun b H3 => if b = true then te σ2 H3 Q else Z H3)
    (hd : ∀ H, Same H1 H → H D = some (.lst (ys.filterMap id)) → Qd H) :
    ∃ W : Nat → Nat → Hp → Prop, (∃ m, W 0 m (upd H1 D (.lst []))) ∧ ∀ i m H, W i m H →
      ((Itt K a).stop i H ∧ Qd H) ∨ ((Itt K a).go i H ∧ ∃ Nx : Hp → Prop, (∀ H', Nx H' → ∃ m', m' < m ∧ W (i + 1) m' H') ∧ ∀ x H', (Itt K a).yld i H x H' → g x (wipe σ vs) H' fun σ2 H2 => wipe σ2 vs = wipe σ vs ∧ tt σ2 H2 fun b H3 =>
        if b = true then te σ2 H3 fun y H4 => ∃ acc, H4 D = some (.lst acc) ∧ acc.length < sizeLine ∧ Nx (upd H4 D (.lst (acc ++ [y]))) else Nx H3) := by
  have acc_len : ∀ i, ((ys.take i).filterMap id).length < sizeLine := fun i => by
    have h1 := List.length_filterMap_le id (ys.take i)
    have h2 : (ys.take i).length ≤ ys.length := by rw [List.length_take]; omega
    have h3 : sizeLine = 16777216 := sizeLine_eq
    omega
  refine lc_tup (fun i H => Off D H1 H ∧ H D = some (.lst ((ys.take i).filterMap id))) ⟨.put, upd_same⟩ (fun i H _ ⟨h, _⟩ => (Ex.same (same_off h hD)).tup hT) (fun i x H hx ⟨ho, hl⟩ => ?_) (fun H ⟨ho, hl⟩ => ?_)
  · have hi : i < xs.length := (List.getElem?_eq_some_iff.mp hx).1
    refine hs i x H _ _ hx (same_off ho hD) (fun y H' hy sm => ⟨_, sm _ _ hl, acc_len i, ?_, ?_⟩) (fun H' hy sm => ⟨?_, ?_⟩)
    · exact (ho.trans (.same sm)).trans .put
    · rw [upd_same, List.take_add_one, hy, List.filterMap_append]
      rfl
    · exact ho.trans (.same sm)
    · rw [sm _ _ hl, List.take_add_one, hy, List.filterMap_append]
      simp
  · refine hd H (same_off ho hD) ?_
    rw [hl, ← hlen, List.take_length]
end Sl

set_option Elab.async false
set_option linter.all false
set_option maxRecDepth 100000
set_option maxHeartbeats 1000000
namespace Sl
open PySem PySem.Spec PyProof.Rows L2
/-! ### more rules: a list takes a tuple's items; tuples repeated any number of times -/
theorem extT (l : Addr) (xs : Array Value) (n : Nat) (b : Addr) (ys : Array Value) (m : Nat) (dd : Option Addr) (sl : Array (Option Value)) (a0 : ¬(!xs.isEmpty && Builtin.List.listTooLong (xs.size + ys.size)) = true) (a1 : xs.size ≤ sizeLine)
    (a2 : (xs ++ ys).size ≤ sizeLine + 1) :
    Meets (Builtin.«list.extend» ⟨[.ref l, .ref b], []⟩) (fun _ R z => z.heap.get? l = some { cls := .type "list", dict := none, data := .seq xs n, slots := #[] } ∧
      z.heap.get? b = some { cls := .type "tuple", dict := dd, data := .seq ys m, slots := sl } ∧ R (.ok (.ret Value.none)) { z with heap := z.heap.update l (Obj.mapSeq fun x => x ++ ys), toks := z.toks }) := by
  refine .of_wp fun prog w A R z h => ?_
  obtain ⟨hp, g, d, tk, os⟩ := z
  obtain ⟨hl, hb, h⟩ := h
  have f1 := AutoSeq1.idx_int
  have f2 := AutoSeq1.sub_tuple_tuple
  have f3 := AutoSeq1.sub_list_list
  have f4 := AutoSeq1.sub_tuple_list
  have f5 := AutoSeq1.sub_list_tuple
  wp_walk using (wpAny_updateSeq hl rfl (hz := a1) (_hz' := a2)), wpAny_loadPart' hl, wpAny_loadPart' hb
  exact ⟨_, rfl, h⟩
section
variable {X : Cx}
def rExtT (K : PySem.W.Frag) : V → List V → Hp → VK → Prop := fun x vs H Q => ∃ l b xs zs, x = .ref l ∧ vs = [.ref b] ∧ H l = some (.lst xs) ∧ SqT K H b zs ∧ xs.length + zs.length ≤ sizeLine ∧ Q .non (upd H l (.lst (xs ++ zs)))
theorem mt_extendT : MtM X "list.extend" (rExtT X.K) := by
  intro pins z σ G x vs v us Q I rx rv h
  obtain ⟨l, b, xs, zs, rfl, rfl, hG, hB, hz, q⟩ := h
  cases rx
  obtain ⟨u, rfl, ru⟩ := rv.one
  cases ru
  obtain ⟨y, its, n, r, hl, e⟩ := I.lstM hG
  obtain ⟨its2, r2, ⟨⟨cls, dd, data, sl⟩, ho, hc, n2, hd⟩, hs⟩ := I.tuple hB
  simp only at hc hd
  subst hc hd
  have l2 := r2.length
  have sz : its.toArray.size + its2.toArray.size ≤ sizeLine := by
    simp only [List.size_toArray]
    omega
  have short : ¬ (!its.toArray.isEmpty && Builtin.List.listTooLong (its.toArray.size + its2.toArray.size)) = true := by
    rw [notLongL sz]
    simp
  refine call_meets F.slot_list_extend ⟨_, e, rfl⟩ F.entry_list_extend (F.args_list_extend_2 _ _) (extT l its.toArray n b its2.toArray n2 dd sl short (by simp only [List.size_toArray]; omega) (by rw [Array.size_append]; omega)) ⟨e, ho, ?_⟩
  refine ⟨.non, _, I.lset (its' := its ++ its2) hG e (by simp) (r.append r2) ?_, rfl, q⟩
  rw [List.length_append]
  exact hz
theorem mulT1 (l : Addr) (xs : Array Value) (n : Nat) (dd : Option Addr) (sl : Array (Option Value)) (u : Tok) :
    Meets (Builtin.«tuple.__mul__» ⟨[.ref l, .int 1 u], []⟩) (fun _ R z => z.heap.get? l = some { cls := .type "tuple", dict := dd, data := .seq xs n, slots := sl } ∧ R (.ok (.ret (Value.ref l))) z) := by
  refine .of_wp fun prog w A R z h => ?_
  obtain ⟨hp, g, d, tk, os⟩ := z
  obtain ⟨hl, h⟩ := h
  have f1 := AutoSeq1.idx_int
  have c1 : (xs.isEmpty || (1 : Int) == 1) = true := by simp
  wp_walk using wpAny_loadPart' hl
  exact ⟨_, rfl, h⟩
theorem mulT0 (l : Addr) (xs : Array Value) (n : Nat) (dd : Option Addr) (sl : Array (Option Value)) (u : Tok) (hne : xs.isEmpty = false) :
    Meets (Builtin.«tuple.__mul__» ⟨[.ref l, .int 0 u], []⟩) (fun _ R z => z.heap.get? l = some { cls := .type "tuple", dict := dd, data := .seq xs n, slots := sl } ∧
      R (.ok (.ret (Value.ref z.heap.objs.size))) { z with heap := z.heap.push { cls := Value.type "tuple", data := Data.seq #[] }, toks := z.toks }) := by
  refine .of_wp fun prog w A R z h => ?_
  obtain ⟨hp, g, d, tk, os⟩ := z
  obtain ⟨hl, h⟩ := h
  have f1 := AutoSeq1.idx_int
  wp_walk using wpAny_loadPart' hl
  exact ⟨_, rfl, h⟩
/-- a tuple with items, repeated 0, 1 or more times -/
def rRepA (K : PySem.W.Frag) : R2 := fun x y G Q => ∃ l k xs, x = .ref l ∧ y = .int k ∧ SqT K G l xs ∧ xs ≠ [] ∧ 0 ≤ k ∧ k ≤ 1000 ∧ xs.length ≤ 1000 ∧
  (k = 1 → Q (.ref l) G) ∧ (k ≠ 1 → ∀ p, G p = none → Q (.ref p) (upd G p (.tup (List.replicate k.toNat xs).flatten)))
theorem op_repTA : OpR X (binaryOp .Mult) (rRepA X.K) := by
  intro pins z σ G x y v u Q I rx ry h
  obtain ⟨l, k, xs, rfl, rfl, hT, hne, h0, h1, hz, q1, q2⟩ := h
  by_cases k2 : 2 ≤ k
  · exact op_repT pins z σ G _ _ _ _ Q I rx ry ⟨l, k, xs, rfl, rfl, hT, hne, k2, h1, hz, q2 (by omega)⟩
  · cases rx
    obtain ⟨t, rfl⟩ := ry
    obtain ⟨its, r, ⟨⟨cls, dd, data, sl⟩, ho, hc, n, hd⟩, hs⟩ := I.tuple hT
    simp only at hc hd
    subst hc hd
    have hn : its.toArray.isEmpty = false := by
      cases its with
      | nil =>
        have e := r.length
        exact absurd (List.eq_nil_of_length_eq_zero e) hne
      | cons a b => rfl
    rcases (by omega : k = 0 ∨ k = 1) with rfl | rfl
    · refine wpAny_binaryOp_repeat_ref (T := "tuple") (U := "int") (by decide) ⟨_, ho, rfl⟩ (fun s' => typeIs_int s' 0 t) noFill_tuple_mul F.fills_int_mul F.slot_int_rmul repeat_tuple F.slot_int_index.lookup
        (call_meets F.slot_int_rmul (typeIs_int z 0 t) F.entry_int_rmul (F.args_int_rmul_2 _ _) (int_rmul_tuple 0 t l its.toArray n dd sl)
          ⟨ho, rfl, ⟨_, ho, rfl⟩, call_meets F.slot_tuple_mul ⟨_, ho, rfl⟩ F.entry_tuple_mul (F.args_tuple_mul_2 _ _) (mulT0 l its.toArray n dd sl t hn) ⟨ho, ?_⟩⟩)
      refine ⟨.ref z.heap.objs.size, _, I.laid (t' := z.toks) (o := .tup []) (fun b ob q => Heap.get?_push_of_some _ q) (Nat.le_refl _) ?_, rfl, q2 (by omega) _ (I.hok.fresh (Nat.le_refl _))⟩
      exact ⟨Nat.zero_le _, [], .nil, IsTup.new _ _⟩
    · refine wpAny_binaryOp_repeat_ref (T := "tuple") (U := "int") (by decide) ⟨_, ho, rfl⟩ (fun s' => typeIs_int s' 1 t) noFill_tuple_mul F.fills_int_mul F.slot_int_rmul repeat_tuple F.slot_int_index.lookup
        (call_meets F.slot_int_rmul (typeIs_int z 1 t) F.entry_int_rmul (F.args_int_rmul_2 _ _) (int_rmul_tuple 1 t l its.toArray n dd sl)
          ⟨ho, rfl, ⟨_, ho, rfl⟩, call_meets F.slot_tuple_mul ⟨_, ho, rfl⟩ F.entry_tuple_mul (F.args_tuple_mul_2 _ _) (mulT1 l its.toArray n dd sl t) ⟨ho, ?_⟩⟩)
      exact ⟨.ref l, G, I, rfl, q1 rfl⟩
end
end Sl

set_option Elab.async false
set_option linter.all false
set_option maxRecDepth 100000
set_option maxHeartbeats 1000000
/-! ## The first field of an exception of one's own, whatever built-in class it comes from -/
namespace PySem
namespace ErX
open Builtin Builtin.ObjectAttr
open PySem.W PySem.Calls PyProof.Rows PySem.HandSPX
section
variable {prog : Program} {w : World} {A : Around} {R : Result → Shared → Prop} {hp : Heap} {g : Array GenState} {d : Drawn} {t : Nat} {os : OsState}
theorem osa_first {K : Frag} {f : Str} {tk : Tok} {v : Value} {x C : Addr} {fv : Array Value} {cd : ClassData} (inK : K.In hp) (ox : hp.get? x = some { cls := .ref C, data := .fields fv }) (cC : clsIn K C = some cd)
    (pas : ∀ self, refuseLoop self "__setattr__" cd.mro = pure ()) (ne : cd.mro.isEmpty = false) (ob : cd.mro.contains (.type "object") = true) (hd : cd.hasDict = true) (nf : findIn K (.ref C) f = some none)
    (q : ∀ h' tk' dx, (∀ b o, b ≠ x → hp.get? b = some o → h'.get? b = some o) → hp.objs.size ≤ dx → dx ≠ x → h'.get? x = some { cls := .ref C, dict := some dx, data := .fields fv } →
      h'.Ns1 dx (fun y => if y = f then some v else none) → R (.ok (.ret .none)) ⟨h', g, d, tk', os⟩) :
    codeAny (model prog w) A (.call (.builtin "object.__setattr__") ⟨[.ref x, .str f tk, v], []⟩) R ⟨hp, g, d, t, os⟩ := by
  have xs : x ≠ hp.objs.size := Nat.ne_of_lt (Heap.lt_size ox)
  have inst : InstAt hp x { cls := .ref C, data := .fields fv } C none := ⟨ox, rfl, rfl, trivial⟩
  have SO := F.store_object
  have is_obj : Looks (model prog w) hp (isInstance (.ref x) (.type "object")) true :=
    inst.type.andThen (looks_mroIn inK (by unfold mroIn; rw [cC, Option.bind_some, if_neg (by rw [ne]; decide), ob]))
  apply codeAny_call_builtin SO.slot.plain SO.entry
  apply @check_slot (model prog w) _ _ ⟨hp, g, d, t, os⟩ "object.__setattr__" "object" "__setattr__" (.ref x) [.str f tk, v] [] _ SO.kind SO.split is_obj (SO.args (.ref x) (.str f tk) v)
  have its_mro : Looks (model prog w) hp (mroOf (.ref C)) cd.mro := (looks_clsIn inK cC).andThen .now
  have its_cls : Looks (model prog w) hp (classData C) cd := looks_clsIn inK cC
  have nobody : Looks (model prog w) hp (storeTaker? none) none := .now
  rw [osa_eq, refuse_eq]
  refine wpAny_bind (wpAny_bind (inst.type.at (wpAny_bind (its_mro.at ?one))))
  case' one => skip
  rw [pas]
  refine wpAny_pure (wpAny_bind (inst.type.at (wpAny_bind ((looks_findIn inK nf).at (wpAny_bind (nobody.at ?_))))))
  show wpAny _ _ (storeInOwnDict (.ref x) (.ref C) (.str f tk) f v false) _ _ _
  obtain ⟨c1, c2, c3, c4, c5, c6, c7, c8, c9, c10, c11⟩ := cd
  dsimp only at hd
  subst hd
  unfold storeInOwnDict ownDictForStores
  repeat (first | with_reducible refine store_in_new ?_ ?_ | with_reducible refine wpAny_loadPart_at ox ?_ | with_reducible refine its_cls.at ?_ | wp_step)
  · exact ⟨_, #[], _, (Heap.get?_update_ne _ _ _ _ xs.symm).trans (Heap.get?_push_at rfl rfl), rfl, fun e he => absurd he (by simp), fun _ => rfl⟩
  · intro h' tk' ns sb
    have ox1 : (hp.push { cls := .type "dict", data := .dict #[] }).get? x = some { cls := .ref C, data := .fields fv } := Heap.get?_push_of_some _ ox
    apply q h' tk' hp.objs.size _ (Nat.le_refl _) xs.symm _ ns
    · intro b o nb e
      rw [sb.2 b (Nat.ne_of_lt (Heap.lt_size e)), Heap.get?_update_ne _ _ _ _ nb]
      exact Heap.get?_push_of_some _ e
    · rw [sb.2 x xs]
      exact Heap.get?_update_self _ ox1 rfl
end
end ErX
end PySem

set_option Elab.async false
set_option linter.all false
set_option maxRecDepth 100000
set_option maxHeartbeats 1000000
/-! ## Comparisons with empty sequences, repr of data, a law's head -/
namespace Sl
open PySem PySem.Spec PyProof.Rows L2
/-! ### t == (), l == [] : only whether anything is in it -/
theorem eqT0 (l : Addr) (xs : Array Value) (n : Nat) (b : Addr) (m : Nat) (dd d2 : Option Addr) (sl s2 : Array (Option Value)) :
    Meets (Builtin.«tuple.__eq__» ⟨[.ref l, .ref b], []⟩) (fun _ R z => z.heap.get? l = some { cls := .type "tuple", dict := dd, data := .seq xs n, slots := sl } ∧ z.heap.get? b = some { cls := .type "tuple", dict := d2, data := .seq #[] m, slots := s2 } ∧
      R (.ok (.ret (.bool (decide (xs.size = 0))))) z) := by
  refine .of_wp fun prog w A R z h => ?_
  obtain ⟨hp, g, d, tk, os⟩ := z
  obtain ⟨hl, hb, h⟩ := h
  have f2 := AutoSeq1.sub_tuple_tuple
  obtain ⟨ys⟩ := xs
  cases ys with
  | nil =>
    wp_walk using wpAny_loadPart' hl, wpAny_loadPart' hb
    exact ⟨_, rfl, h⟩
  | cons y ys =>
    wp_walk using wpAny_loadPart' hl, wpAny_loadPart' hb
    refine ⟨_, rfl, ?_⟩
    have e1 : decide ((⟨y :: ys⟩ : Array Value).size = 0) = false := decide_eq_false (by simp)
    rw [e1] at h
    have e2 : Builtin.Tuple.tupleCompareSizes CmpOp.Eq (⟨y :: ys⟩ : Array Value).size (#[] : Array Value).size = .bool false := by
      unfold Builtin.Tuple.tupleCompareSizes
      simp
    rw [e2]
    exact h
theorem eqL0 (l : Addr) (xs : Array Value) (n : Nat) (b : Addr) (m : Nat) (dd d2 : Option Addr) (sl s2 : Array (Option Value)) (hne : (xs.size != 0) = true) :
    Meets (Builtin.«list.__eq__» ⟨[.ref l, .ref b], []⟩) (fun _ R z => z.heap.get? l = some { cls := .type "list", dict := dd, data := .seq xs n, slots := sl } ∧ z.heap.get? b = some { cls := .type "list", dict := d2, data := .seq #[] m, slots := s2 } ∧
      R (.ok (.ret (.bool false))) z) := by
  refine .of_wp fun prog w A R z h => ?_
  obtain ⟨hp, g, d, tk, os⟩ := z
  obtain ⟨hl, hb, h⟩ := h
  have f2 := AutoSeq1.sub_list_list
  have e0 : (xs.size != (#[] : Array Value).size) = true := hne
  wp_walk using wpAny_loadPart' hl, wpAny_loadPart' hb
  exact ⟨_, rfl, h⟩
section
variable {X : Cx}
/-- t == () -/
def rEqT0 (K : PySem.W.Frag) : R2 := fun x y G Q => ∃ a b xs, x = .ref a ∧ y = .ref b ∧ SqT K G a xs ∧ SqT K G b [] ∧ Q (.bl xs.isEmpty) G
theorem op_eqT0 (hu : X.A.units < cLine) : OpR X (compareOp .Eq) (rEqT0 X.K) := by
  intro pins z σ G x y v u Q I rx ry h
  obtain ⟨a, b, xs, rfl, rfl, ha, hb, q⟩ := h
  cases rx
  cases ry
  obtain ⟨its, r, ⟨⟨c1, dd, data, sl⟩, ho, hc, n, hd⟩, _⟩ := I.tuple ha
  obtain ⟨its2, r2, ⟨⟨c2, d2, data2, s2⟩, ho2, hc2, n2, hd2⟩, _⟩ := I.tuple hb
  simp only at hc hd hc2 hd2
  subst hc hd hc2 hd2
  cases r2
  have e : decide (its.toArray.size = 0) = xs.isEmpty := by
    rw [List.size_toArray, ← r.length]
    cases xs <;> rfl
  have m := eqT0 a its.toArray n b n2 dd d2 sl s2
  rw [e] at m
  exact wpAny_richCompare_same_room (op := .Eq) ⟨_, ho, rfl⟩ ⟨_, ho2, rfl⟩ F.slot_tuple_eq (call_meets F.slot_tuple_eq ⟨_, ho, rfl⟩ F.entry_tuple_eq (F.args_tuple_eq_2 _ _) m
    ⟨ho, ho2, (fun q => nomatch q), .bl _, G, I, rfl, q⟩) hu
/-- l == [] -/
def rEqL0 (K : PySem.W.Frag) : R2 := fun x y G Q => ∃ a b xs, x = .ref a ∧ y = .ref b ∧ SqL K G a xs ∧ SqL K G b [] ∧ Q (.bl xs.isEmpty) G
theorem op_eqL0 (hu : X.A.units + 64 < cLine) : OpR X (compareOp .Eq) (rEqL0 X.K) := by
  intro pins z σ G x y v u Q I rx ry h
  obtain ⟨a, b, xs, rfl, rfl, ha, hb, q⟩ := h
  cases xs with
  | nil => exact op_eqD hu pins z σ G _ _ _ _ Q I rx ry ⟨.list [], .list [], .lst ha .nil, .lst hb .nil, rfl, rfl, q⟩
  | cons x0 xs =>
    cases rx
    cases ry
    obtain ⟨its, r, p1, _⟩ := I.list ha
    obtain ⟨its2, r2, p2, _⟩ := I.list hb
    obtain ⟨⟨c1, dd, data, sl⟩, ho, hc, n, hd⟩ := p1.isList
    obtain ⟨⟨c2, d2, data2, s2⟩, ho2, hc2, n2, hd2⟩ := p2.isList
    simp only at hc hd hc2 hd2
    subst hc hd hc2 hd2
    cases r2
    have hne : (its.toArray.size != 0) = true := by
      rw [List.size_toArray, ← r.length]
      rfl
    exact wpAny_richCompare_same_room (op := .Eq) ⟨_, ho, rfl⟩ ⟨_, ho2, rfl⟩ F.slot_list_eq (call_meets F.slot_list_eq ⟨_, ho, rfl⟩ F.entry_list_eq (F.args_list_eq_2 _ _) (eqL0 a its.toArray n b n2 dd d2 sl s2 hne)
      ⟨ho, ho2, (fun q => nomatch q), .bl _, G, I, rfl, q⟩) (by omega)
/-! ### repr of data -/
/-- repr(v), v data of a bounded depth whose text is not too long -/
def rRepr (K : PySem.W.Frag) : List V → Hp → VK → Prop := fun xs H Q => ∃ v d, xs = [v] ∧ Dp K H v d ∧ d.showable = true ∧ d.depth ≤ 40 ∧ d.shown.length ≤ sizeLine ∧ Q (.str d.shown) H
theorem noDict {K : PySem.W.Frag} {H : Hp} : ∀ (d : PyData) (v : V), Dp K H v d → d.hasDict = false
  | .none, _, _ => by simp only [PyData.hasDict]
  | .bool _, _, _ => by simp only [PyData.hasDict]
  | .int _, _, _ => by simp only [PyData.hasDict]
  | .str _, _, _ => by simp only [PyData.hasDict]
  | .list ds, _, h => by
    cases h with
    | lst _ ha =>
      simp only [PyData.hasDict]
      exact go ds _ ha
  | .tuple ds, _, h => by
    cases h with
    | tup _ ha =>
      simp only [PyData.hasDict]
      exact go ds _ ha
  | .dict _, _, h => by cases h
where
  go : ∀ (ds : List PyData) (vs : List V), DpAll K H vs ds → PyData.hasDictAll ds = false
  | [], _, _ => by simp only [PyData.hasDictAll]
  | d :: ds, _, h => by
    cases h with
    | cons h1 h2 =>
      simp only [PyData.hasDictAll]
      rw [noDict d _ h1, go ds _ h2]
      rfl
theorem call_repr {k : Nat} (hG : X.A.guards = some []) (hr : Room k X.A) : CallR X (.builtin "repr") (rRepr X.K) := by
  intro pins z σ H xs us Q I r h
  obtain ⟨v, d, rfl, hd, hs, hdp, hz, q⟩ := h
  obtain ⟨u, rfl, ru⟩ := vals1 r
  have hu := hr.units
  cases hd with
  | non =>
    cases ru
    exact PySem.P.repr_of_none ⟨.str _, H, I.tok _, ⟨_, rfl⟩, q⟩
  | bl b =>
    cases ru
    exact PySem.P.repr_of_bool ⟨.str _, H, I.tok _, ⟨_, rfl⟩, by simpa only [PyData.shown] using q⟩
  | int i =>
    obtain ⟨t, rfl⟩ := ru
    exact PySem.P.repr_of_int (of_decide_eq_true (by simpa only [PyData.showable] using hs)) ⟨.str _, H, I.tok _, ⟨_, rfl⟩, by simpa only [PyData.shown] using q⟩
  | str x =>
    obtain ⟨t, rfl⟩ := ru
    simp only [PyData.shown] at q hz
    exact PySem.P.repr_of_str ⟨.str _, H, I.tok _, ⟨_, rfl⟩, q⟩ hz
  | @lst a ys ds h1 h2 =>
    cases ru
    obtain ⟨as, rd⟩ := Dp.reads I (.list ds) (.ref a) (.ref a) (.lst h1 h2) rfl
    refine repr_of_reads' rd hs (PyData.noDict_hsm (noDict (.list ds) (.ref a) (.lst h1 h2))) hG (by omega) (fun _ _ e => e) (fun h' u tk hk => ?_) hz
    exact ⟨.str _, H, I.kept hk, ⟨u, rfl⟩, q⟩
  | @tup a ys ds h1 h2 =>
    cases ru
    obtain ⟨as, rd⟩ := Dp.reads I (.tuple ds) (.ref a) (.ref a) (.tup h1 h2) rfl
    refine repr_of_reads' rd hs (PyData.noDict_hsm (noDict (.tuple ds) (.ref a) (.tup h1 h2))) hG (by omega) (fun _ _ e => e) (fun h' u tk hk => ?_) hz
    exact ⟨.str _, H, I.kept hk, ⟨u, rfl⟩, q⟩
end
end Sl

set_option Elab.async false
set_option linter.all false
set_option maxRecDepth 100000
set_option maxHeartbeats 1000000
/-! ## A law's head, from a promise that is kept where no repr is under way -/
namespace Sl
open PySem PySem.Spec PyProof.Rows L2
theorem law_callG {P : Program} {w : World} {K : PySem.W.Frag} {mg mb : Str → Option Value} {k : Nat} {fa a : Addr} {fd : FuncData} {x : Str} {sp : Sp} {z : Shared} {vs : List Value} {ns : List Int}
    (inK : K.In z.heap) (gl : z.heap.Ns mainGlobals mg) (bl : z.heap.Ns builtinsNs mb) (bb : ∀ x : Str, x ≠ "__name__" → mb x = bootBuiltins x) (lim : z.heap.NoLimit) (gs : z.gens = #[])
    (oa : z.heap.get? a = some { cls := .type "list", data := .seq vs.toArray }) (hi : IntsAre vs ns) (hl : ns.length ≤ sizeLine) (hr : Room k callerA)
    (F : ∀ base : Heap, K.In base → base.Ns mainGlobals mg → FnG P w K mg base (L2.CX P w) k fa fd [x] sp) (bind : ∀ (s : Shared) (u : Value), BindsTo s fd ⟨[u], []⟩ [(x, u)])
    (hsp : ∀ G : Hp, Only G → SqL K G a (ns.map V.int) → sp [.ref a] G (fun v _ => v = .bl true) fun _ _ _ => False) :
    codeAny (model P w) callerA (.call (.ref fa) ⟨[.ref a], []⟩) (fun r s' => r = .ok (.ret (.bool true)) ∧ OldK z.heap s'.heap ∧ s'.os = z.os ∧ AllBare s'.gens) z := by
  have items := vals_ints hi
  have count := hi.length
  have main : ∀ G : Hp, Only G → SqL K G a (ns.map V.int) → HOk P w G z.heap → (∀ b, G b ≠ none → b = a) → (G a ≠ none → K.lookup a = none) →
      codeAny (model P w) callerA (.call (.ref fa) ⟨[.ref a], []⟩) (fun r s' => r = .ok (.ret (.bool true)) ∧ OldK z.heap s'.heap ∧ s'.os = z.os ∧ AllBare s'.gens) z := by
    intro G only sq ok one notK
    have plain_of : ∀ {b : Addr} {o : Obj} {es : Array DictEntry} {ep : Nat}, z.heap.get? b = some o → o.data = .dict es ep → G b = none := by
      intro b o es ep e dt
      cases q : G b with
      | none => rfl
      | some u =>
        have e1 : b = a := one b (by simp [q])
        rw [e1, oa] at e
        cases e
        exact absurd (show Data.seq vs.toArray _ = Data.dict es ep from dt) (fun y => nomatch y)
    have ns_of : ∀ {b : Addr} {m : Str → Option Value}, z.heap.Ns b m → (hidT z.heap G).Ns b m := by
      intro b m h
      obtain ⟨o, es, ep, e, dt, r⟩ := h
      exact ⟨o, es, ep, hidT_get e (plain_of e dt), dt, r⟩
    have inB : K.In (hidT z.heap G) := by
      intro b o e
      apply hidT_get (inK b o e)
      cases q : G b with
      | none => rfl
      | some u =>
        have e1 : b = a := one b (by simp [q])
        subst e1
        rw [notK (by simp [q])] at e
        cases e
    have noLim : (hidT z.heap G).NoLimit := by
      obtain ⟨mc, h1, h2⟩ := lim
      exact ⟨mc, ns_of h1, h2⟩
    have md : Mod K mg (hidT z.heap G) := { kin := inB, glob := ns_of gl, blt := ⟨mb, ns_of bl, bb⟩, nolimit := noLim }
    have e0 : Env0 P w K mg (hidT z.heap G) callerA [] z G :=
      { frames := rfl, mod := md, bs := fun b o e => of_hidT e, bsz := Nat.le_of_eq (hidT_size _ _), funs := trivial, frf := fun b hb => absurd (show b ∈ ([] : List Addr) from hb) (by simp), hok := ok, bare := .of_eq gs }
    apply codeAny_mono ((F _ inB (ns_of gl)).goes callerA rfl [] z G ⟨[.ref a], []⟩ [.ref a] [.ref a] _ _ hr e0 (bind z (.ref a)) (.cons rfl .nil) (hsp G only sq))
    intro r s' h
    match r, h with
    | .error e, h =>
      obtain ⟨_, _, _, _, _, _, _, _, _, _, _, _, y⟩ := h
      exact y.elim
    | .ok (.ret u), ⟨v, G', os, bare, un, ok', r', q⟩ =>
      have q1 : v = .bl true := q
      subst q1
      obtain rfl : u = Value.bool true := r'
      refine ⟨rfl, OldK.of_keep ?_, os, bare⟩
      intro b o e
      cases y : G b with
      | none => exact un.keep b o e y (by intro q; exact absurd (show b ∈ ([] : List Addr) from q) (by simp)) (by simp)
      | some u =>
        rcases only b with y2 | ⟨ob, xs, y2⟩
        · rw [y] at y2
          cases y2
        · obtain ⟨e1, _⟩ := ok b _ y2
          obtain ⟨e2, _⟩ := ok' b _ (un.frzs b ob _ y2)
          rw [e] at e1
          cases e1
          exact e2
  cases hk : K.lookup a with
  | some o =>
    have e := inK a o hk
    rw [oa] at e
    cases e
    refine main (fun _ => none) (fun _ => .inl rfl) (.inr ⟨_, vs.toArray, _, hk, rfl, rfl, rfl, ?_, by simpa using items⟩) (fun b u y => nomatch (show (none : Option HO) = some u from y)) (fun b y => absurd rfl y) fun y => absurd rfl y
    rw [List.size_toArray, count]
    exact hl
  | none =>
    have at_a : ∀ b, b ≠ a → (fun b => if b = a then some (HO.frz { cls := .type "list", data := .seq vs.toArray } (.lst (ns.map V.int))) else none) b = none := fun b hb => if_neg hb
    refine main (fun b => if b = a then some (.frz { cls := .type "list", data := .seq vs.toArray } (.lst (ns.map V.int))) else none) ?_ (.inl (.inr ⟨{ cls := .type "list", data := .seq vs.toArray }, if_pos rfl⟩)) ?_ ?_ fun _ => hk
    · intro b
      by_cases hb : b = a
      · exact .inr ⟨_, _, if_pos hb⟩
      · exact .inl (if_neg hb)
    · intro b u y
      by_cases hb : b = a
      · subst hb
        have y' := (if_pos rfl).symm.trans y
        cases y'
        exact ⟨oa, by rw [List.length_map]; exact hl, vs, _, items, oa⟩
      · rw [at_a b hb] at y
        cases y
    · intro b y
      by_cases hb : b = a
      · exact hb
      · exact absurd (at_a b hb) y
/-- the goal that the head's word leaves, from such a promise of the law -/
theorem walkG {l : PySem.W.OpenLaw} {n k : Nat} {q : Program} {loose : List Str} {XP : (Str → Option Value) → Heap → Prop} {YP : World → Heap → Prop} {d : DefRec} {K : Params → PySem.W.Frag} {sp : World → Sp} {x : Str}
    (hn : l.most = some n) (hn2 : n ≤ sizeLine) (hdf : d.params.defaults = []) (hr : Room k callerA) (hY : ∀ (w : World) (h : Heap), YP w h → (K w.params).In h)
    (F : ∀ (w : World) (mg : Str → Option Value) (fa : Addr) (h : Heap), (K w.params).In h → h.Ns mainGlobals mg → mg d.name = some (.ref fa) →
      ∃ fd : FuncData, (∀ (s : Shared) (u : Value), BindsTo s fd ⟨[u], []⟩ [(x, u)]) ∧
        ∀ base : Heap, (K w.params).In base → base.Ns mainGlobals mg → FnG l.prog w (K w.params) mg base (L2.CX l.prog w) k fa fd [x] (sp w))
    (hsp : ∀ (w : World) (G : Hp) (a : Addr) (ns : List Int), ns.length ≤ n → Only G → SqL (K w.params) G a (ns.map V.int) → sp w [.ref a] G (fun v _ => v = .bl true) fun _ _ _ => False) :
    PySem.W.WalkO q loose XP YP l.row.toRowW d [] (fun f vs => PySem.call f vs) := by
  apply Att.attach_call hn hdf
  intro w s₀ z mg mb fa o pm cd doc a vs ns G Y ho hd hcd hmg hobj hints hlen hg
  have inK := hY w _ Y
  obtain ⟨fd, hb, hF⟩ := F w mg fa _ inK G.T.g hmg
  exact law_callG inK G.T.g G.T.b G.T.builtins G.T.nolimit hg hobj hints (Nat.le_trans hlen hn2) hr hF hb (fun H hO hS => hsp w H a ns hlen hO hS)
end Sl

set_option Elab.async false
set_option linter.all false
set_option maxRecDepth 100000
set_option maxHeartbeats 400000
/-! ## Values without lists and dicts as data: their texts have a bounded length -/
namespace Sl
open PySem PySem.Spec PyProof.Rows L2
mutual
def D.py : D → PyData
  | .non => .none
  | .bl b => .bool b
  | .int i => .int i
  | .str x => .str x
  | .tup ds => .tuple (D.pys ds)
  | .lst => .none
  | .dct => .none
def D.pys : List D → List PyData
  | [] => []
  | d :: ds => d.py :: D.pys ds
end
mutual
/-- tuples, bools, none and ints below 2 ^ 128 -/
def D.good : D → Bool
  | .non => true
  | .bl _ => true
  | .int i => decide (i.natAbs.log2 < 128)
  | .tup ds => D.goods ds
  | _ => false
def D.goods : List D → Bool
  | [] => true
  | d :: ds => d.good && D.goods ds
end
mutual
def D.wt : D → Nat
  | .tup ds => D.wts ds + 3
  | _ => 129
def D.wts : List D → Nat
  | [] => 0
  | d :: ds => d.wt + 2 + D.wts ds
end
mutual
def D.dep : D → Nat
  | .tup ds => D.deps ds + 1
  | _ => 0
def D.deps : List D → Nat
  | [] => 0
  | d :: ds => max d.dep (D.deps ds)
end
theorem good_and {d : D} {ds : List D} (h : D.goods (d :: ds) = true) : d.good = true ∧ D.goods ds = true := by
  simp only [D.goods, Bool.and_eq_true] at h
  exact h
theorem goods_of : ∀ {ds : List D}, (∀ d ∈ ds, d.good = true) → D.goods ds = true
  | [], _ => by simp only [D.goods]
  | d :: ds, h => by
    simp only [D.goods, Bool.and_eq_true]
    exact ⟨h d List.mem_cons_self, goods_of fun x hx => h x (List.mem_cons_of_mem _ hx)⟩
theorem goods_mem : ∀ {ds : List D}, D.goods ds = true → ∀ d ∈ ds, d.good = true
  | [], _, _, h => absurd h List.not_mem_nil
  | x :: xs, g, d, h => by
    have := good_and g
    rcases List.mem_cons.mp h with e | e
    · rw [e]
      exact this.1
    · exact goods_mem this.2 d e
section
variable {K : PySem.W.Frag} {H : Hp}
mutual
theorem Rdd.dp : ∀ (d : D) {v : V}, d.good = true → Rdd K H v d → Dp K H v d.py
  | .non, _, _, h => by cases h; simp only [D.py]; exact .non
  | .bl b, _, _, h => by cases h; simp only [D.py]; exact .bl b
  | .int i, _, _, h => by cases h; simp only [D.py]; exact .int i
  | .str x, _, g, _ => by simp [D.good] at g
  | .tup ds, _, g, h => by
    simp only [D.good] at g
    cases h with
    | tup hs ha _ =>
      simp only [D.py]
      exact .tup hs (RddAll.dp ds g ha)
  | .lst, _, g, _ => by simp [D.good] at g
  | .dct, _, g, _ => by simp [D.good] at g
theorem RddAll.dp : ∀ (ds : List D) {vs : List V}, D.goods ds = true → RddAll K H vs ds → DpAll K H vs (D.pys ds)
  | [], _, _, h => by cases h; simp only [D.pys]; exact .nil
  | d :: ds, _, g, h => by
    have g2 := good_and g
    cases h with
    | cons h1 h2 =>
      simp only [D.pys]
      exact .cons (Rdd.dp d g2.1 h1) (RddAll.dp ds g2.2 h2)
end
end
mutual
theorem good_show : ∀ d : D, d.good = true → d.py.showable = true ∧ d.py.canLay0 = true
  | .non, _ => by simp [D.py, PyData.showable, PyData.canLay0]
  | .bl b, _ => by simp [D.py, PyData.showable, PyData.canLay0]
  | .int i, g => by
    simp only [D.good, decide_eq_true_eq] at g
    simp only [D.py, PyData.showable, PyData.canLay0, decide_eq_true_eq, and_true]
    omega
  | .str x, g => by simp [D.good] at g
  | .tup ds, g => by
    simp only [D.good] at g
    simp only [D.py, PyData.showable, PyData.canLay0]
    exact goods_show ds g
  | .lst, g => by simp [D.good] at g
  | .dct, g => by simp [D.good] at g
theorem goods_show : ∀ ds : List D, D.goods ds = true → PyData.showableAll (D.pys ds) = true ∧ PyData.canLayAll0 (D.pys ds) = true
  | [], _ => by simp [D.pys, PyData.showableAll, PyData.canLayAll0]
  | d :: ds, g => by
    have g2 := good_and g
    have h1 := good_show d g2.1
    have h2 := goods_show ds g2.2
    simp only [D.pys, PyData.showableAll, PyData.canLayAll0, Bool.and_eq_true]
    exact ⟨⟨h1.1, h2.1⟩, h1.2, h2.2⟩
end
mutual
theorem dep_py : ∀ d : D, d.py.depth ≤ d.dep
  | .non => by simp [D.py, PyData.depth, D.dep]
  | .bl b => by simp [D.py, PyData.depth, D.dep]
  | .int i => by simp [D.py, PyData.depth, D.dep]
  | .str x => by simp [D.py, PyData.depth, D.dep]
  | .tup ds => by
    simp only [D.py, PyData.depth, D.dep]
    have := deps_py ds
    omega
  | .lst => by simp [D.py, PyData.depth, D.dep]
  | .dct => by simp [D.py, PyData.depth, D.dep]
theorem deps_py : ∀ ds : List D, PyData.depthAll (D.pys ds) ≤ D.deps ds
  | [] => by simp [D.pys, PyData.depthAll, D.deps]
  | d :: ds => by
    simp only [D.pys, PyData.depthAll, D.deps]
    have h1 := dep_py d
    have h2 := deps_py ds
    omega
end
mutual
theorem shown_wt : ∀ d : D, d.good = true → d.py.shown.length ≤ d.wt
  | .non, _ => by
    simp only [D.py, PyData.shown_none, D.wt]
    decide +kernel
  | .bl b, _ => by
    simp only [D.py, PyData.shown_bool, D.wt]
    cases b <;> decide +kernel
  | .int i, g => by
    simp only [D.good, decide_eq_true_eq] at g
    simp only [D.py, PyData.shown_int, D.wt]
    have e := int_text_length_le (k := 128) (by decide) g
    rw [PySem.ofString_length]
    exact e
  | .str x, g => by simp [D.good] at g
  | .tup ds, g => by
    simp only [D.good] at g
    simp only [D.py, D.wt, PyData.shown]
    have h1 := tupleText_len_le (PyData.shownAll (D.pys ds))
    have h2 := shown_wts ds g
    omega
  | .lst, g => by simp [D.good] at g
  | .dct, g => by simp [D.good] at g
theorem shown_wts : ∀ ds : List D, D.goods ds = true → ((PyData.shownAll (D.pys ds)).map (·.length)).sum + 2 * (PyData.shownAll (D.pys ds)).length ≤ D.wts ds
  | [], _ => by simp [D.pys, PyData.shownAll, D.wts]
  | d :: ds, g => by
    have g2 := good_and g
    have h1 := shown_wt d g2.1
    have h2 := shown_wts ds g2.2
    simp only [D.pys, PyData.shownAll, D.wts, List.map_cons, List.sum_cons, List.length_cons]
    omega
end
theorem wts_append : ∀ (a b : List D), D.wts (a ++ b) = D.wts a + D.wts b
  | [], b => by simp [D.wts]
  | d :: ds, b => by
    simp only [List.cons_append, D.wts, wts_append ds b]
    omega
theorem wts_take (k : Nat) (ds : List D) : D.wts (ds.take k) ≤ D.wts ds := by
  have e := wts_append (ds.take k) (ds.drop k)
  rw [List.take_append_drop] at e
  omega
theorem wts_len : ∀ ds : List D, ds.length ≤ D.wts ds
  | [] => by simp [D.wts]
  | d :: ds => by
    have := wts_len ds
    simp only [D.wts, List.length_cons]
    omega
/-- what repr asks of such a value -/
theorem rRepr_of {K : PySem.W.Frag} {H : Hp} {v : V} {d : D} {Q : VK} (r : Rdd K H v d) (g : d.good = true) (hd : d.dep ≤ 40) (hw : d.wt ≤ 1000000) (q : Q (.str d.py.shown) H) : rRepr K [v] H Q := by
  have h1 := dep_py d
  have h2 := shown_wt d g
  have h3 : sizeLine = 16777216 := sizeLine_eq
  exact ⟨v, d.py, rfl, Rdd.dp d g r, (good_show d g).1, by omega, by omega, q⟩
/-- v != u of equal such values -/
theorem rNe_same {K : PySem.W.Frag} {H : Hp} {v u : V} {d : D} {Q : VK} (r1 : Rdd K H v d) (r2 : Rdd K H u d) (g : d.good = true) (hd : d.dep ≤ 40) (q : Q (.bl false) H) : rNeD K v u H Q := by
  have h1 := dep_py d
  have c := (good_show d g).2
  have s : SeqAt.shaped d.py = true := by
    unfold SeqAt.shaped
    rw [c, decide_eq_true (show d.py.depth ≤ 64 by omega)]
    rfl
  refine ⟨d.py, d.py, Rdd.dp d g r1, Rdd.dp d g r2, s, s, ?_⟩
  rw [SeqAt.eqv_refl d.py c]
  exact q
theorem rEq_same {K : PySem.W.Frag} {H : Hp} {v u : V} {d : D} {Q : VK} (r1 : Rdd K H v d) (r2 : Rdd K H u d) (g : d.good = true) (hd : d.dep ≤ 40) (q : Q (.bl true) H) : rEqD K v u H Q := by
  have h1 := dep_py d
  have c := (good_show d g).2
  have s : SeqAt.shaped d.py = true := by
    unfold SeqAt.shaped
    rw [c, decide_eq_true (show d.py.depth ≤ 64 by omega)]
    rfl
  refine ⟨d.py, d.py, Rdd.dp d g r1, Rdd.dp d g r2, s, s, ?_⟩
  rw [SeqAt.eqv_refl d.py c]
  exact q
end Sl

set_option Elab.async false
set_option linter.all false
set_option maxRecDepth 100000
set_option maxHeartbeats 400000
/-! ## Comprehensions whose turns make values, and may change what J lets change -/
namespace Sl
open PySem PySem.Spec PyProof.Rows L2
structure Jr (J : Hp → Hp → Prop) : Prop where
  tr : ∀ {G G1 G2}, J G G1 → J G1 G2 → J G G2
  ex : ∀ {G G'}, J G G' → Ex G G'
  put : ∀ {G G' D o}, J G G' → G D = none → J G (upd G' D o)
  keep : ∀ {G0 G G' D l}, J G0 G → G0 D = none → J G G' → G D = some (.lst l) → G' D = some (.lst l)
theorem jr_same : Jr Same := by
  refine ⟨fun a b => a.trans b, Ex.same, fun {G G' D o} a n b x e => ?_, fun _ _ a e => a _ _ e⟩
  rw [upd_ne (ne_of_none e n)]
  exact a b x e
/-- what is made so far -/
def Accd (K : PySem.W.Frag) (J : Hp → Hp → Prop) (H1 : Hp) (D0 : Addr) (Pd : Nat → D → Prop) (i : Nat) (H : Hp) : Prop :=
  J H1 H ∧ ∃ ys ds, H D0 = some (.lst ys) ∧ RddAll K H ys ds ∧ ds.length = i ∧ ∀ j d, ds[j]? = some d → Pd j d
theorem accd_start {K : PySem.W.Frag} {J : Hp → Hp → Prop} {H1 : Hp} {D0 : Addr} {Pd : Nat → D → Prop} (jr : Jr J) (j0 : J H1 H1) (hD : H1 D0 = none) : Accd K J H1 D0 Pd 0 (upd H1 D0 (.lst [])) :=
  ⟨jr.put j0 hD, [], [], upd_same, .nil, rfl, fun j d h => by simp at h⟩
theorem RddAll.snoc {K : PySem.W.Frag} {H : Hp} {x : V} {d : D} : ∀ {xs : List V} {ds : List D}, RddAll K H xs ds → Rdd K H x d → RddAll K H (xs ++ [x]) (ds ++ [d])
  | _, _, .nil, h => .cons h .nil
  | _, _, .cons a b, h => .cons a (b.snoc h)
theorem accd_turn {K : PySem.W.Frag} {J : Hp → Hp → Prop} {H1 H H' : Hp} {D0 : Addr} {Pd : Nat → D → Prop} {i : Nat} {y : V} {d : D} (jr : Jr J) (hD : H1 D0 = none) (hi : i < 100000) (a : Accd K J H1 D0 Pd i H) (j : J H H') (r : Rdd K H' y d) (p : Pd i d) :
    ∃ acc, H' D0 = some (.lst acc) ∧ acc.length < sizeLine ∧ Accd K J H1 D0 Pd (i + 1) (upd H' D0 (.lst (acc ++ [y]))) := by
  obtain ⟨j1, ys, ds, h1, h2, h3, h4⟩ := a
  have k := jr.keep j1 hD j h1
  have sl := sizeLine_eq
  have len := h2.length
  have ex : Ex H' (upd H' D0 (.lst (ys ++ [y]))) := (Off.put (a := D0)).ex k upd_same
  refine ⟨ys, k, by omega, jr.put (jr.tr j1 j) hD, ys ++ [y], ds ++ [d], upd_same, (RddAll.ex ex _ (RddAll.ex (jr.ex j) _ h2)).snoc (Rdd.ex ex _ r), by rw [List.length_append, h3] <;> rfl, fun j2 d2 e => ?_⟩
  by_cases q : j2 < i
  · rw [List.getElem?_append_left (by omega)] at e
    exact h4 j2 d2 e
  · have e2 : j2 = i := by
      have := (List.getElem?_eq_some_iff.mp e).1
      rw [List.length_append, h3] at this
      simp at this
      omega
    subst e2
    rw [List.getElem?_append_right (by omega), h3, Nat.sub_self] at e
    cases e
    exact p
section
variable {K : PySem.W.Frag} {J : Hp → Hp → Prop} {a D0 : Addr} {xs : List V} {g : TG} {tt : TT} {te : TE} {vs : List Nat} {σ : L2.St} {H1 : Hp} {Qd : Hp → Prop} {Pd : Nat → D → Prop}
theorem lcJL (jr : Jr J) (j0 : J H1 H1) (hz : xs.length ≤ 100000) (hT : ∀ H, J H1 H → SqL K H a xs) (hD : H1 D0 = none)
    (hs : ∀ (i : Nat) (x : V) (H : Hp) (Q : VK) (Z : Hp → Prop), xs[i]? = some x → J H1 H → (∀ y H' d, J H H' → Rdd K H' y d → Pd i d → Q y H') →
      g x (wipe σ vs) H fun σ2 H2 => wipe σ2 vs = wipe σ vs ∧ tt σ2 H2 fun b H3 => if b = true then te σ2 H3 Q else Z H3)
    (hd : ∀ H ys ds, J H1 H → H D0 = some (.lst ys) → RddAll K H ys ds → ds.length = xs.length → (∀ j d, ds[j]? = some d → Pd j d) → Qd H) :
    ∃ W : Nat → Nat → Hp → Prop, (∃ m, W 0 m (upd H1 D0 (.lst []))) ∧ ∀ i m H, W i m H →
      ((Itl K a).stop i H ∧ Qd H) ∨ ((Itl K a).go i H ∧ ∃ Nx : Hp → Prop, (∀ H', Nx H' → ∃ m', m' < m ∧ W (i + 1) m' H') ∧ ∀ x H', (Itl K a).yld i H x H' → g x (wipe σ vs) H' fun σ2 H2 => wipe σ2 vs = wipe σ vs ∧ tt σ2 H2 fun b H3 =>
        if b = true then te σ2 H3 fun y H4 => ∃ acc, H4 D0 = some (.lst acc) ∧ acc.length < sizeLine ∧ Nx (upd H4 D0 (.lst (acc ++ [y]))) else Nx H3) := by
  refine lc_list (Accd K J H1 D0 Pd) (accd_start jr j0 hD) (fun i H _ h => hT H h.1) (fun i x H hx h => ?_) (fun H h => ?_)
  · have hi := (List.getElem?_eq_some_iff.mp hx).1
    exact hs i x H _ _ hx h.1 fun y H' d j r p => accd_turn jr hD (by omega) h j r p
  · obtain ⟨j1, ys, ds, h1, h2, h3, h4⟩ := h
    exact hd H ys ds j1 h1 h2 h3 h4
theorem lcJT (jr : Jr J) (j0 : J H1 H1) (hz : xs.length ≤ 100000) (hT : SqT K H1 a xs) (hD : H1 D0 = none)
    (hs : ∀ (i : Nat) (x : V) (H : Hp) (Q : VK) (Z : Hp → Prop), xs[i]? = some x → J H1 H → (∀ y H' d, J H H' → Rdd K H' y d → Pd i d → Q y H') →
      g x (wipe σ vs) H fun σ2 H2 => wipe σ2 vs = wipe σ vs ∧ tt σ2 H2 fun b H3 => if b = true then te σ2 H3 Q else Z H3)
    (hd : ∀ H ys ds, J H1 H → H D0 = some (.lst ys) → RddAll K H ys ds → ds.length = xs.length → (∀ j d, ds[j]? = some d → Pd j d) → Qd H) :
    ∃ W : Nat → Nat → Hp → Prop, (∃ m, W 0 m (upd H1 D0 (.lst []))) ∧ ∀ i m H, W i m H →
      ((Itt K a).stop i H ∧ Qd H) ∨ ((Itt K a).go i H ∧ ∃ Nx : Hp → Prop, (∀ H', Nx H' → ∃ m', m' < m ∧ W (i + 1) m' H') ∧ ∀ x H', (Itt K a).yld i H x H' → g x (wipe σ vs) H' fun σ2 H2 => wipe σ2 vs = wipe σ vs ∧ tt σ2 H2 fun b H3 =>
        if b = true then te σ2 H3 fun y H4 => ∃ acc, H4 D0 = some (.lst acc) ∧ acc.length < sizeLine ∧ Nx (upd H4 D0 (.lst (acc ++ [y]))) else Nx H3) := by
  refine lc_tup (Accd K J H1 D0 Pd) (accd_start jr j0 hD) (fun i H _ h => (jr.ex h.1).tup hT) (fun i x H hx h => ?_) (fun H h => ?_)
  · have hi := (List.getElem?_eq_some_iff.mp hx).1
    exact hs i x H _ _ hx h.1 fun y H' d j r p => accd_turn jr hD (by omega) h j r p
  · obtain ⟨j1, ys, ds, h1, h2, h3, h4⟩ := h
    exact hd H ys ds j1 h1 h2 h3 h4
theorem lcJR {lo : Int} {n : Nat} (jr : Jr J) (j0 : J H1 H1) (hz : n ≤ 100000) (hD : H1 D0 = none)
    (hs : ∀ (i : Nat) (H : Hp) (Q : VK) (Z : Hp → Prop), i < n → J H1 H → (∀ y H' d, J H H' → Rdd K H' y d → Pd i d → Q y H') →
      g (.int (lo + i)) (wipe σ vs) H fun σ2 H2 => wipe σ2 vs = wipe σ vs ∧ tt σ2 H2 fun b H3 => if b = true then te σ2 H3 Q else Z H3)
    (hd : ∀ H ys ds, J H1 H → H D0 = some (.lst ys) → RddAll K H ys ds → ds.length = n → (∀ j d, ds[j]? = some d → Pd j d) → Qd H) :
    ∃ W : Nat → Nat → Hp → Prop, (∃ m, W 0 m (upd H1 D0 (.lst []))) ∧ ∀ i m H, W i m H →
      ((Itr lo n).stop i H ∧ Qd H) ∨ ((Itr lo n).go i H ∧ ∃ Nx : Hp → Prop, (∀ H', Nx H' → ∃ m', m' < m ∧ W (i + 1) m' H') ∧ ∀ x H', (Itr lo n).yld i H x H' → g x (wipe σ vs) H' fun σ2 H2 => wipe σ2 vs = wipe σ vs ∧ tt σ2 H2 fun b H3 =>
        if b = true then te σ2 H3 fun y H4 => ∃ acc, H4 D0 = some (.lst acc) ∧ acc.length < sizeLine ∧ Nx (upd H4 D0 (.lst (acc ++ [y]))) else Nx H3) := by
  refine lc_range (Accd K J H1 D0 Pd) (accd_start jr j0 hD) (fun i H hi h => ?_) (fun H h => ?_)
  · exact hs i H _ _ hi h.1 fun y H' d j r p => accd_turn jr hD (by omega) h j r p
  · obtain ⟨j1, ys, ds, h1, h2, h3, h4⟩ := h
    exact hd H ys ds j1 h1 h2 h3 h4
end
/-- for k in d, d under its lock -/
theorem forK {d : Addr} {o : Obj} {kvs : List (Key × V)} {g : TG} {tb : TS} {D : Ends} {σ : L2.St} {H : Hp} (Pv : Nat → L2.St → Hp → Prop) (h0 : Pv 0 σ H) (hl : ∀ i σ H, i ≤ kvs.length → Pv i σ H → H d = some (.frz o (.dK kvs)))
    (hs : ∀ i k v σ H, kvs[i]? = some (k, v) → Pv i σ H → g (kV k) σ H fun σ2 H2 => tb { D with nx := Pv (i + 1), ct := Pv (i + 1), bk := D.nx } σ2 H2) (hd : ∀ σ H, Pv kvs.length σ H → D.nx σ H) :
    ∃ W : Nat → Nat → L2.St → Hp → Prop, (∃ m, W 0 m σ H) ∧ ∀ i m σ H, W i m σ H →
      ((Itk d o kvs).stop i H ∧ D.nx σ H) ∨ ((Itk d o kvs).go i H ∧ ∃ N : L2.St → Hp → Prop, (∀ σ' H', N σ' H' → ∃ m', m' < m ∧ W (i + 1) m' σ' H') ∧ ∀ x H', (Itk d o kvs).yld i H x H' → g x σ H' fun σ2 H2 => tb { D with nx := N, ct := N, bk := D.nx } σ2 H2) := by
  refine ⟨fun i m σ H => m = kvs.length - i ∧ i ≤ kvs.length ∧ Pv i σ H, ⟨kvs.length, by simp, Nat.zero_le _, h0⟩, ?_⟩
  rintro i m σ H ⟨rfl, hi, p⟩
  have q := hl i σ H hi p
  by_cases lt : i < kvs.length
  · refine .inr ⟨⟨q, lt⟩, Pv (i + 1), fun σ' H' p' => ⟨kvs.length - (i + 1), by omega, rfl, lt, p'⟩, fun x H' y => ?_⟩
    obtain ⟨rfl, k, v, e, rfl⟩ := y
    exact hs i k v σ _ e p
  · have e : i = kvs.length := by omega
    subst e
    exact .inl ⟨⟨q, Nat.le_refl _⟩, hd σ H p⟩
theorem upd_back {H : Hp} {d : Addr} {u v : HO} (h : H d = some u) : upd (upd H d v) d u = H := by
  funext b
  by_cases e : b = d
  · subst e
    rw [upd_same, h]
  · rw [upd_ne e, upd_ne e]
end Sl

set_option Elab.async false
set_option linter.all false
set_option maxRecDepth 100000
set_option maxHeartbeats 1000000
/-! ### enumerate(t), t a tuple -/
namespace PySem
open AutoSeq1 (wpAny_loadPart')
theorem meets_enumerate_newTp (l : Addr) (items : Array Value) :
    Meets (Builtin.«enumerate.__new__» ⟨[.type "enumerate", .ref l], []⟩) (fun _ R s => s.heap.IsTuple l items ∧
      R (.ok (.ret (.ref (s.heap.push { cls := .type "tuple_iterator", data := .fields #[.ref l, .int 0 0] }).objs.size)))
        { s with heap := (s.heap.push { cls := .type "tuple_iterator", data := .fields #[.ref l, .int 0 0] }).push { cls := .type "enumerate", data := .fields #[.none, .bool false, .ref s.heap.objs.size, rawInt 0, .none, .none] } }) :=
  .of_wp fun prog w A R s h => by
    obtain ⟨hp, g, d, tk, os⟩ := s; obtain ⟨hL, h⟩ := h
    have hsub := sub_enumerate
    have hL' : Heap.IsTuple (Shared.heap ⟨hp, g, d, tk, os⟩) l items := hL
    wp_walk
    refine wpAny_stack_any fun st => wpAny_pure ?_
    split
    · rename_i c _ _ _ _ _
      cases (c == Value.type "enumerate")
      · wp_walk using wpAny_pyIter_tuple hL'
        exact ⟨_, rfl, h⟩
      · wp_walk using wpAny_pyIter_tuple hL'
        exact ⟨_, rfl, h⟩
    · wp_walk using wpAny_pyIter_tuple hL'
      exact ⟨_, rfl, h⟩
theorem call_enumerate_tup {prog : Program} {w : World} {A : Around} {E : Value → Shared → Prop} {s : Shared} {l : Addr} {items : Array Value} {Q : Value → Shared → Prop} (hL : s.heap.IsTuple l items)
    (h : ∀ h', IsEnum h' (s.heap.objs.size + 1) s.heap.objs.size 0 .none → h'.IsTupleIter s.heap.objs.size l 0 → h'.objs.size = s.heap.objs.size + 2 →
      (∀ b o, s.heap.get? b = some o → h'.get? b = some o) → Q (.ref (s.heap.objs.size + 1)) { s with heap := h' }) :
    wpAny (model prog w) A (call (.type "enumerate") [.ref l]) Q E s := by
  refine callType_new F.called_enumerate (by decide) (F.typeCall_enumerate_1 _) (F.newCall_enumerate_1 _) (fun obj => F.args_object_init_2 obj _) F.entry_enumerate_new
    (meets_enumerate_newTp l items) ⟨hL, ?_⟩
  have hz : (s.heap.push { cls := .type "tuple_iterator", data := .fields #[.ref l, .int 0 0] }).objs.size = s.heap.objs.size + 1 := Heap.size_push ..
  show _ ∧ _
  rw [hz]
  have he : IsEnum ((s.heap.push { cls := .type "tuple_iterator", data := .fields #[.ref l, .int 0 0] }).push
      { cls := .type "enumerate", data := .fields #[.none, .bool false, .ref s.heap.objs.size, rawInt 0, .none, .none] }) (s.heap.objs.size + 1) s.heap.objs.size 0 .none := by
    have := Heap.get?_push_size (s.heap.push { cls := .type "tuple_iterator", data := .fields #[.ref l, .int 0 0] })
      (o := { cls := .type "enumerate", data := .fields #[.none, .bool false, .ref s.heap.objs.size, rawInt 0, .none, .none] }) rfl
    rw [hz] at this; exact this
  refine ⟨⟨_, he, rfl⟩, h _ he ⟨_, Heap.get?_push_of_some _ (Heap.get?_push_size _ rfl), rfl, rfl⟩ (by rw [Heap.size_push, hz]) fun b o x => Heap.get?_push_of_some _ (Heap.get?_push_of_some _ x)⟩
end PySem
namespace Sl
open PySem PySem.Spec PyProof.Rows L2
def IteT (K : PySem.W.Frag) (a : Addr) : It :=
  ⟨fun i H => ∃ (xs : List V) (x : V), SqT K H a xs ∧ xs[i]? = some x, fun i H v H' => ∃ T x, v = .ref T ∧ H T = none ∧ H' = upd H T (.tup [.int (i : Nat), x]) ∧ ∀ xs, SqT K H a xs → xs[i]? = some x, fun i H => ∃ xs : List V, SqT K H a xs ∧ xs.length = i⟩
theorem turn_enumT {P : Program} {w : World} {K : PySem.W.Frag} {elts : List Expr} {kk : Nat} {tpos : Pos} (a e it : Addr) :
    Turn P w K (.Tuple elts kk tpos) (IteT K a) [e, it] e (fun i h => (∃ old, IsEnum h e it ((i : Nat) : Int) old) ∧ h.IsTupleIter it a i ∧ e ≠ it ∧ e ≠ a ∧ a ≠ it) where
  mem := by simp
  obj := fun i h st b hb => by
    obtain ⟨⟨old, he⟩, ⟨o, ho, hc, hd⟩, _⟩ := st
    have e' : b = e ∨ b = it := by simpa using hb
    rcases e' with z | z
    · rw [z]; exact ⟨_, he, fun v q => nomatch q⟩
    · rw [z]; exact ⟨o, ho, fun v q => by rw [hd] at q; cases q⟩
  keep := fun i h h' st k => let ⟨⟨old, he⟩, hi, hne⟩ := st; ⟨⟨old, k e (by simp) _ he⟩, hi.at fun o q => k it (by simp) o q, hne⟩
  item := by
    intro X hP hw hK hc i pins s σ H E I hf st hg
    subst hP hw hK
    obtain ⟨⟨old, he⟩, hit, hne, hea, hai⟩ := st
    obtain ⟨xs, x, hq, hx⟩ := hg
    obtain ⟨its, rv, p, hz⟩ := I.tuple hq
    obtain ⟨u, hu, ru⟩ := rv.get hx
    have hel : e < s.heap.objs.size := Heap.lt_size he
    have hil : it < s.heap.objs.size := by obtain ⟨_, q, _⟩ := hit; exact Heap.lt_size q
    have hlt := (List.getElem?_eq_some_iff.mp hu).1
    have DT : Draws X.prog X.w X.A.in1 it [it, a] its.toArray.size (fun i v => its.toArray[i]? = some v) (fun i h => h.IsTupleIter it a i ∧ h.IsTuple a its.toArray) := Draws.tuple (show X.A.in1.handled = none from I.ok.hd hc) it a hai its.toArray
    refine wpAny_pyNext_enum_itemD DT he ⟨hit, p⟩ (by rw [List.size_toArray]; exact hlt) hne (by simp [hne, hea]) fun y h' tk hy ho hit' hT hsz hk => ?_
    have ey : y = u := by
      have hy' : its[i]? = some y := by simpa using hy
      rw [hu] at hy'
      exact (Option.some.inj hy').symm
    subst ey
    refine ⟨_, rfl, wpAny_letOwnedTupleGo_enum (s := { s with heap := h', toks := tk + 1 }) ho fun h'' he' sb => ?_⟩
    have hT2 : h''.get? s.heap.objs.size = some { cls := .type "tuple", data := .seq #[.int i tk, y] } := (sb.2 _ (Nat.ne_of_gt hel)).trans hT
    have new : ObjOk X.prog X.w (upd H s.heap.objs.size (.tup [.int (i : Nat), x])) h'' s.heap.objs.size (.tup [.int (i : Nat), x]) :=
      ⟨by show 2 ≤ sizeLine; decide, [.int i tk, y], .cons ⟨_, rfl⟩ (.cons ru .nil), ⟨_, hT2, rfl, _, rfl⟩⟩
    have I1 : Inv X pins σ (upd H s.heap.objs.size (.tup [.int (i : Nat), x])) { s with heap := h'', toks := tk + 1 } :=
      I.turnedNew (ch := [e, it]) (fun b ob hb q => (sb.2 b (fun z => hb (by simp [z]))).trans (hk b ob (fun z => hb (by simp [z])) (fun z => hb (by simp [z])) q)) hf (Nat.le_refl _) new
    refine ⟨.ref s.heap.objs.size, _, I1, rfl, ⟨_, x, rfl, I.hok.fresh (Nat.le_refl _), rfl, fun ys hy => by rw [I.tuple_inj hy hq]; exact hx⟩, ⟨⟨y, ?_⟩, hit'.1.at fun o q => (sb.2 it (Ne.symm hne)).trans q, hne, hea, hai⟩, fun b hb => ?_⟩
    · have e1 : ((i + 1 : Nat) : Int) = (i : Int) + 1 := by omega
      rw [e1]; exact he'
    · have hb' : b < s.heap.objs.size := by
        have e' : b = e ∨ b = it := by simpa using hb
        rcases e' with z | z
        · rw [z]; exact hel
        · rw [z]; exact hil
      rw [upd_ne (Nat.ne_of_lt hb')]
      exact (hf b hb).1
  done := by
    intro X hP hw hK hc i pins s σ H E I hf st hg
    subst hP hw hK
    obtain ⟨⟨old, he⟩, hit, hne, hea, hai⟩ := st
    obtain ⟨xs, hq, hx⟩ := hg
    obtain ⟨its, rv, p, hz⟩ := I.tuple hq
    obtain ⟨f0, f1, f2, f3, f4, f5⟩ := hf it (by simp)
    have hl := rv.length
    have DT : Draws X.prog X.w X.A.in1 it [it, a] its.toArray.size (fun i v => its.toArray[i]? = some v) (fun i h => h.IsTupleIter it a i ∧ h.IsTuple a its.toArray) := Draws.tuple (show X.A.in1.handled = none from I.ok.hd hc) it a hai its.toArray
    have ei : i = its.toArray.size := by rw [List.size_toArray]; omega
    exact wpAny_pyNext_enum_endD DT he ⟨ei ▸ hit, p⟩ fun h' eb => ⟨rfl, I.turned (t' := s.toks) (fun b o hb q => eb b o hb q) f0 f1 f3 f4 f5⟩
  self := fun A i s Q E st h => let ⟨⟨_, he⟩, _⟩ := st; wpAny_pyIter_enum he h
def iEnumT (K : PySem.W.Frag) (ta : TA) : TI := fun σ H R => ta σ H fun vs H1 => ∃ a xs, vs = [.ref a] ∧ SqT K H1 a xs ∧ R (IteT K a) H1
theorem pi_enumT {X : Cx} {e : Expr} {ta : TA} {p pos tpos : Pos} {elts : List Expr} {kk : Nat} (hg : Gl X "enumerate") (hm : X.mg "enumerate" = none) (ha : PA X [e] ta) (hs : starEach [e] X.env = [(false, eval e X.env)] := by rfl) :
    PI X (.Tuple elts kk tpos) (.Call (.Name "enumerate" p) [e] [] pos) (iEnumT X.K ta) := by
  refine ⟨fun pins s σ H R I h => ?_⟩
  refine Call_ (ld_blt I hg hm boot_enumerate (PyProof.Rows.callWith_type1 (thn (ha.run pos pins s σ H _ I h) fun us s1 ⟨vs, H1, I1, r1, q1⟩ => ?_) hs rfl))
  obtain ⟨a, xs, ex, hq, q⟩ := q1
  subst ex
  cases r1 with
  | cons r rr =>
    cases rr
    cases r
    obtain ⟨its, rv, p', hz⟩ := I1.tuple hq
    have la : a < s1.heap.objs.size := by obtain ⟨o, ho, _⟩ := p'; exact Heap.lt_size ho
    refine call_enumerate_tup p' fun h' he hit hsz hk => wpAny_pyIter_enum he ?_
    have I2 : Inv X pins σ H1 { s1 with heap := h' } := I1.kept (t' := s1.toks) hk
    refine ⟨s1.heap.objs.size + 1, [s1.heap.objs.size + 1, s1.heap.objs.size], _, _, H1, rfl, I2, turn_enumT a (s1.heap.objs.size + 1) s1.heap.objs.size, ⟨⟨.none, he⟩, hit, Nat.succ_ne_self _, Nat.ne_of_gt (Nat.lt_succ_of_lt la), Nat.ne_of_lt la⟩, fun b hb => ?_, q⟩
    have e' : b = s1.heap.objs.size + 1 ∨ b = s1.heap.objs.size := by simpa using hb
    have hle : s1.heap.objs.size ≤ b := by
      rcases e' with z | z
      · rw [z]; exact Nat.le_add_right _ _
      · rw [z]; exact Nat.le_refl _
    exact I1.fpOk hle (I1.hok.fresh hle)
section
variable {K : PySem.W.Frag} {J : Hp → Hp → Prop} {a D0 : Addr} {xs : List V} {g : TG} {tt : TT} {te : TE} {vs : List Nat} {σ : L2.St} {H1 : Hp} {Qd : Hp → Prop} {Pd : Nat → D → Prop}
/-- a comprehension over enumerate(t) -/
theorem lcJE (jr : Jr J) (j0 : J H1 H1) (js : ∀ {G G'}, Same G G' → J G G') (hz : xs.length ≤ 100000) (hT : SqT K H1 a xs) (hD : H1 D0 = none)
    (hs : ∀ (i : Nat) (x : V) (p : Addr) (H : Hp) (Q : VK) (Z : Hp → Prop), xs[i]? = some x → J H1 H → H p = some (.tup [.int (i : Nat), x]) → (∀ y H' d, J H H' → Rdd K H' y d → Pd i d → Q y H') →
      g (.ref p) (wipe σ vs) H fun σ2 H2 => wipe σ2 vs = wipe σ vs ∧ tt σ2 H2 fun b H3 => if b = true then te σ2 H3 Q else Z H3)
    (hd : ∀ H ys ds, J H1 H → H D0 = some (.lst ys) → RddAll K H ys ds → ds.length = xs.length → (∀ j d, ds[j]? = some d → Pd j d) → Qd H) :
    ∃ W : Nat → Nat → Hp → Prop, (∃ m, W 0 m (upd H1 D0 (.lst []))) ∧ ∀ i m H, W i m H →
      ((IteT K a).stop i H ∧ Qd H) ∨ ((IteT K a).go i H ∧ ∃ Nx : Hp → Prop, (∀ H', Nx H' → ∃ m', m' < m ∧ W (i + 1) m' H') ∧ ∀ x H', (IteT K a).yld i H x H' → g x (wipe σ vs) H' fun σ2 H2 => wipe σ2 vs = wipe σ vs ∧ tt σ2 H2 fun b H3 =>
        if b = true then te σ2 H3 fun y H4 => ∃ acc, H4 D0 = some (.lst acc) ∧ acc.length < sizeLine ∧ Nx (upd H4 D0 (.lst (acc ++ [y]))) else Nx H3) := by
  refine ⟨fun i m H => m = xs.length - i ∧ i ≤ xs.length ∧ Accd K J H1 D0 Pd i H, ⟨xs.length, by simp, Nat.zero_le _, accd_start jr j0 hD⟩, ?_⟩
  rintro i m H ⟨rfl, hi, p⟩
  have q := (jr.ex p.1).tup hT
  by_cases hlt : i < xs.length
  · refine .inr ⟨⟨xs, xs[i], q, by simp [hlt]⟩, Accd K J H1 D0 Pd (i + 1), fun H' p' => ⟨xs.length - (i + 1), by omega, rfl, hlt, p'⟩, fun x H' y => ?_⟩
    obtain ⟨T, x, rfl, n0, rfl, hx⟩ := y
    have s1 := Same.new (o := .tup [.int (i : Nat), x]) n0
    have p' : Accd K J H1 D0 Pd i (upd H T (.tup [.int (i : Nat), x])) := by
      obtain ⟨j1, ys, ds, h1, h2, h3, h4⟩ := p
      exact ⟨jr.tr j1 (js s1), ys, ds, s1 _ _ h1, RddAll.ex (.same s1) _ h2, h3, h4⟩
    exact hs i x T _ _ _ (hx xs q) p'.1 upd_same fun y H' d j r pd => accd_turn jr hD (by omega) p' j r pd
  · have e : i = xs.length := by omega
    subst e
    obtain ⟨j1, ys, ds, h1, h2, h3, h4⟩ := p
    exact .inl ⟨⟨xs, q, rfl⟩, hd H ys ds j1 h1 h2 h3 h4⟩
end
end Sl

set_option Elab.async false
set_option linter.all false
set_option maxRecDepth 100000
set_option maxHeartbeats 400000
/-! ## Lists of new lists; loops over enumerate(tuple) -/
namespace Sl
open PySem PySem.Spec PyProof.Rows L2
abbrev LsN := List (Addr × List V)
/-- what stood stays; the lists L stand, each at a new place of its own -/
structure TrN (H0 H : Hp) (L : LsN) : Prop where
  same : Same H0 H
  hold : ∀ x ∈ L, H x.1 = some (.lst x.2)
  nd : (L.map (·.1)).Nodup
  fr : ∀ x ∈ L, H0 x.1 = none
theorem TrN.nil (H : Hp) : TrN H H [] := ⟨Same.refl _, (fun x h => by cases h), List.nodup_nil, (fun x h => by cases h)⟩
theorem TrN.at {H0 H : Hp} {L : LsN} (t : TrN H0 H L) {i : Nat} {a : Addr} {l : List V} (e : L[i]? = some (a, l)) : H a = some (.lst l) := t.hold (a, l) (List.mem_of_getElem? e)
theorem TrN.go {H0 H H' : Hp} {L : LsN} (t : TrN H0 H L) (s : Same H H') : TrN H0 H' L := ⟨t.same.trans s, fun x hx => s _ _ (t.hold x hx), t.nd, t.fr⟩
theorem lsn_fst {L : LsN} {i : Nat} {a : Addr} {l l' : List V} (e : L[i]? = some (a, l)) : (L.set i (a, l')).map (·.1) = L.map (·.1) := by
  rw [List.map_set]
  have h : (L.map (·.1))[i]? = some a := by rw [List.getElem?_map, e]; rfl
  obtain ⟨h1, h2⟩ := List.getElem?_eq_some_iff.mp h
  rw [← h2]
  exact List.set_getElem_self h1
theorem TrN.set {H0 H : Hp} {L : LsN} (t : TrN H0 H L) {i : Nat} {a : Addr} {l l' : List V} (e : L[i]? = some (a, l)) : TrN H0 (upd H a (.lst l')) (L.set i (a, l')) := by
  have f0 : H0 a = none := t.fr (a, l) (List.mem_of_getElem? e)
  refine ⟨jr_same.put t.same f0, fun x hx => ?_, ?_, fun x hx => ?_⟩
  · rcases List.mem_or_eq_of_mem_set hx with h | rfl
    · obtain ⟨j, hj, ej⟩ := List.getElem_of_mem hx
      by_cases hij : i = j
      · subst hij
        rw [List.getElem_set_self] at ej
        rw [← ej]
        exact upd_same
      · rw [List.getElem_set_ne hij] at ej
        have hj' : j < L.length := by simpa using hj
        have ne : x.1 ≠ a := fun z => by
          have e1 : (L.map (·.1))[i]? = some a := by rw [List.getElem?_map, e]; rfl
          have e2 : (L.map (·.1))[j]? = some a := by rw [List.getElem?_map, List.getElem?_eq_getElem hj', ej, ← z]; rfl
          obtain ⟨p1, p2⟩ := List.getElem?_eq_some_iff.mp e1
          obtain ⟨q1, q2⟩ := List.getElem?_eq_some_iff.mp e2
          exact hij ((List.getElem_inj t.nd).mp (p2.trans q2.symm))
        rw [upd_ne ne]
        exact t.hold x h
    · exact upd_same
  · rw [lsn_fst e]
    exact t.nd
  · rcases List.mem_or_eq_of_mem_set hx with h | rfl
    · exact t.fr x h
    · exact f0
theorem none_of {H G : Hp} {b : Addr} (s : Same H G) (n : G b = none) : H b = none := by
  cases e : H b with
  | none => rfl
  | some o =>
    rw [s _ _ e] at n
    cases n
theorem TrN.new {H0 H : Hp} {p : Addr} {L : LsN} {l : List V} (t : TrN H0 H L) (n : H p = none) : TrN H0 (upd H p (.lst l)) (L ++ [(p, l)]) := by
  have s := Same.new (o := .lst l) n
  refine ⟨t.same.trans s, fun x h => ?_, ?_, fun x h => ?_⟩
  · rcases List.mem_append.mp h with h | h
    · exact s _ _ (t.hold x h)
    · rw [List.mem_singleton.mp h]
      exact upd_same
  · rw [List.map_append]
    refine List.nodup_append.mpr ⟨t.nd, by simp, fun a ha b hb => ?_⟩
    obtain ⟨x, hx, rfl⟩ := List.mem_map.mp ha
    simp only [List.map_cons, List.map_nil, List.mem_singleton] at hb
    subst hb
    exact ne_of_none (t.hold x hx) n
  · rcases List.mem_append.mp h with h | h
    · exact t.fr x h
    · rw [List.mem_singleton.mp h]
      exact none_of t.same n
theorem TrN.perm {H0 H : Hp} {L L' : LsN} (p : L'.Perm L) (t : TrN H0 H L) : TrN H0 H L' :=
  ⟨t.same, fun x hx => t.hold x (p.mem_iff.mp hx), (p.map _).nodup_iff.mpr t.nd, fun x hx => t.fr x (p.mem_iff.mp hx)⟩
theorem TrN.tail {H0 H : Hp} {x : Addr × List V} {L : LsN} (t : TrN H0 H (x :: L)) : TrN H0 H L :=
  ⟨t.same, fun y hy => t.hold y (List.mem_cons_of_mem _ hy), (List.nodup_cons.mp t.nd).2, fun y hy => t.fr y (List.mem_cons_of_mem _ hy)⟩
theorem TrN.cons {H0 H : Hp} {p : Addr} {L : LsN} {l : List V} (t : TrN H0 H L) (n : H p = none) : TrN H0 (upd H p (.lst l)) ((p, l) :: L) := (t.new n).perm (List.perm_append_singleton _ _).symm
theorem TrN.known {H0 H : Hp} {p : Addr} {L : LsN} {l : List V} (t : TrN H0 H L) (f : H0 p = none) (h : H p = some (.lst l)) (n : ∀ x ∈ L, x.1 ≠ p) : TrN H0 H ((p, l) :: L) :=
  ⟨t.same, fun x hx => by
    rcases List.mem_cons.mp hx with rfl | hx
    · exact h
    · exact t.hold x hx, by
    rw [List.map_cons]
    refine List.nodup_cons.mpr ⟨fun z => ?_, t.nd⟩
    obtain ⟨x, hx, e⟩ := List.mem_map.mp z
    exact n x hx e, fun x hx => by
    rcases List.mem_cons.mp hx with rfl | hx
    · exact f
    · exact t.fr x hx⟩
section
variable {K : PySem.W.Frag} {a D : Addr} {xs : List V} {g : TG} {tt : TT} {te : TE} {vs : List Nat} {σ : L2.St} {H1 : Hp} {Qd : Hp → Prop}
/-- [[] for _ in t] -/
theorem lcNew (hz : xs.length ≤ 100000) (hT : SqT K H1 a xs) (hD : H1 D = none)
    (hs : ∀ (x : V) (H : Hp) (Q : VK) (Z : Hp → Prop), (∀ p, H p = none → Q (.ref p) (upd H p (.lst []))) → g x (wipe σ vs) H fun σ2 H2 => wipe σ2 vs = wipe σ vs ∧ tt σ2 H2 fun b H3 => if b = true then te σ2 H3 Q else Z H3)
    (hd : ∀ H (as : List Addr), as.length = xs.length → TrN H1 H ((D, as.map V.ref) :: as.map fun p => (p, [])) → Qd H) :
    ∃ W : Nat → Nat → Hp → Prop, (∃ m, W 0 m (upd H1 D (.lst []))) ∧ ∀ i m H, W i m H →
      ((Itt K a).stop i H ∧ Qd H) ∨ ((Itt K a).go i H ∧ ∃ Nx : Hp → Prop, (∀ H', Nx H' → ∃ m', m' < m ∧ W (i + 1) m' H') ∧ ∀ x H', (Itt K a).yld i H x H' → g x (wipe σ vs) H' fun σ2 H2 => wipe σ2 vs = wipe σ vs ∧ tt σ2 H2 fun b H3 =>
        if b = true then te σ2 H3 fun y H4 => ∃ acc, H4 D = some (.lst acc) ∧ acc.length < sizeLine ∧ Nx (upd H4 D (.lst (acc ++ [y]))) else Nx H3) := by
  have sl := sizeLine_eq
  refine lc_tup (fun i H => ∃ as : List Addr, as.length = i ∧ TrN H1 H ((D, as.map V.ref) :: as.map fun p => (p, []))) ⟨[], rfl, (TrN.nil H1).new hD⟩
    (fun i H _ ⟨as, _, t⟩ => (Ex.same t.same).tup hT) (fun i x H hx ⟨as, la, t⟩ => ?_) (fun H ⟨as, la, t⟩ => hd H as la t)
  have hi := (List.getElem?_eq_some_iff.mp hx).1
  refine hs x H _ _ fun p np => ?_
  have t2 := t.new (l := []) np
  have t3 := t2.set (i := 0) (a := D) (l := as.map V.ref) (l' := as.map V.ref ++ [V.ref p]) rfl
  refine ⟨_, t2.at (i := 0) rfl, by rw [List.length_map]; omega, as ++ [p], by rw [List.length_append, la]; rfl, ?_⟩
  rw [List.map_append, List.map_append]
  exact t3
/-- .. over a list -/
theorem lcNewL (hz : xs.length ≤ 100000) (hT : SqL K H1 a xs) (hD : H1 D = none)
    (hs : ∀ (x : V) (H : Hp) (Q : VK) (Z : Hp → Prop), (∀ p, H p = none → Q (.ref p) (upd H p (.lst []))) → g x (wipe σ vs) H fun σ2 H2 => wipe σ2 vs = wipe σ vs ∧ tt σ2 H2 fun b H3 => if b = true then te σ2 H3 Q else Z H3)
    (hd : ∀ H (as : List Addr), as.length = xs.length → TrN H1 H ((D, as.map V.ref) :: as.map fun p => (p, [])) → Qd H) :
    ∃ W : Nat → Nat → Hp → Prop, (∃ m, W 0 m (upd H1 D (.lst []))) ∧ ∀ i m H, W i m H →
      ((Itl K a).stop i H ∧ Qd H) ∨ ((Itl K a).go i H ∧ ∃ Nx : Hp → Prop, (∀ H', Nx H' → ∃ m', m' < m ∧ W (i + 1) m' H') ∧ ∀ x H', (Itl K a).yld i H x H' → g x (wipe σ vs) H' fun σ2 H2 => wipe σ2 vs = wipe σ vs ∧ tt σ2 H2 fun b H3 =>
        if b = true then te σ2 H3 fun y H4 => ∃ acc, H4 D = some (.lst acc) ∧ acc.length < sizeLine ∧ Nx (upd H4 D (.lst (acc ++ [y]))) else Nx H3) := by
  have sl := sizeLine_eq
  refine lc_list (fun i H => ∃ as : List Addr, as.length = i ∧ TrN H1 H ((D, as.map V.ref) :: as.map fun p => (p, []))) ⟨[], rfl, (TrN.nil H1).new hD⟩
    (fun i H _ ⟨as, _, t⟩ => Same.seq t.same hT) (fun i x H hx ⟨as, la, t⟩ => ?_) (fun H ⟨as, la, t⟩ => hd H as la t)
  have hi := (List.getElem?_eq_some_iff.mp hx).1
  refine hs x H _ _ fun p np => ?_
  have t2 := t.new (l := []) np
  have t3 := t2.set (i := 0) (a := D) (l := as.map V.ref) (l' := as.map V.ref ++ [V.ref p]) rfl
  refine ⟨_, t2.at (i := 0) rfl, by rw [List.length_map]; omega, as ++ [p], by rw [List.length_append, la]; rfl, ?_⟩
  rw [List.map_append, List.map_append]
  exact t3
/-- a new list for each item: of item i one with the i-th of cs in it -/
theorem lcCopy {cs : List (List V)} (lc : cs.length = xs.length) (hz : xs.length ≤ 100000) (hT : SqL K H1 a xs) (hD : H1 D = none)
    (hs : ∀ (i : Nat) (x : V) (c : List V) (H : Hp) (Q : VK) (Z : Hp → Prop), xs[i]? = some x → cs[i]? = some c → Same H1 H → (∀ p, H p = none → Q (.ref p) (upd H p (.lst c))) → g x (wipe σ vs) H fun σ2 H2 => wipe σ2 vs = wipe σ vs ∧ tt σ2 H2 fun b H3 => if b = true then te σ2 H3 Q else Z H3)
    (hd : ∀ H (as : List Addr), as.length = xs.length → TrN H1 H ((D, as.map V.ref) :: as.zip cs) → Qd H) :
    ∃ W : Nat → Nat → Hp → Prop, (∃ m, W 0 m (upd H1 D (.lst []))) ∧ ∀ i m H, W i m H →
      ((Itl K a).stop i H ∧ Qd H) ∨ ((Itl K a).go i H ∧ ∃ Nx : Hp → Prop, (∀ H', Nx H' → ∃ m', m' < m ∧ W (i + 1) m' H') ∧ ∀ x H', (Itl K a).yld i H x H' → g x (wipe σ vs) H' fun σ2 H2 => wipe σ2 vs = wipe σ vs ∧ tt σ2 H2 fun b H3 =>
        if b = true then te σ2 H3 fun y H4 => ∃ acc, H4 D = some (.lst acc) ∧ acc.length < sizeLine ∧ Nx (upd H4 D (.lst (acc ++ [y]))) else Nx H3) := by
  have sl := sizeLine_eq
  refine lc_list (fun i H => ∃ as : List Addr, as.length = i ∧ TrN H1 H ((D, as.map V.ref) :: as.zip (cs.take i))) ⟨[], rfl, (TrN.nil H1).new hD⟩
    (fun i H _ ⟨as, _, t⟩ => Same.seq t.same hT) (fun i x H hx ⟨as, la, t⟩ => ?_) (fun H ⟨as, la, t⟩ => hd H as la (by rw [← lc, List.take_length] at t; exact t))
  have hi := (List.getElem?_eq_some_iff.mp hx).1
  have hc : cs[i]? = some (cs[i]'(by omega)) := List.getElem?_eq_getElem _
  refine hs i x _ H _ _ hx hc t.same fun p np => ?_
  have t2 := t.new (l := cs[i]'(by omega)) np
  have t3 := t2.set (i := 0) (a := D) (l := as.map V.ref) (l' := as.map V.ref ++ [V.ref p]) rfl
  refine ⟨_, t2.at (i := 0) rfl, by rw [List.length_map]; omega, as ++ [p], by rw [List.length_append, la]; rfl, ?_⟩
  rw [List.map_append, List.take_add_one, hc, List.zip_append (by rw [List.length_take]; omega)]
  exact t3
/-- a comprehension over enumerate(t), with a filter -/
theorem lcET (Pv : Nat → Hp → Prop) (h0 : Pv 0 (upd H1 D (.lst []))) (hl : ∀ i H, Pv i H → SqT K H a xs) (hn : ∀ i H T x, Pv i H → H T = none → Pv i (upd H T (.tup [.int (i : Nat), x])))
    (hs : ∀ (i : Nat) (x : V) (T : Addr) (H : Hp), xs[i]? = some x → Pv i H → H T = some (.tup [.int (i : Nat), x]) → g (.ref T) (wipe σ vs) H fun σ2 H2 => wipe σ2 vs = wipe σ vs ∧ tt σ2 H2 fun b H3 =>
      if b = true then te σ2 H3 fun y H4 => ∃ acc, H4 D = some (.lst acc) ∧ acc.length < sizeLine ∧ Pv (i + 1) (upd H4 D (.lst (acc ++ [y]))) else Pv (i + 1) H3) (hd : ∀ H, Pv xs.length H → Qd H) :
    ∃ W : Nat → Nat → Hp → Prop, (∃ m, W 0 m (upd H1 D (.lst []))) ∧ ∀ i m H, W i m H →
      ((IteT K a).stop i H ∧ Qd H) ∨ ((IteT K a).go i H ∧ ∃ Nx : Hp → Prop, (∀ H', Nx H' → ∃ m', m' < m ∧ W (i + 1) m' H') ∧ ∀ x H', (IteT K a).yld i H x H' → g x (wipe σ vs) H' fun σ2 H2 => wipe σ2 vs = wipe σ vs ∧ tt σ2 H2 fun b H3 =>
        if b = true then te σ2 H3 fun y H4 => ∃ acc, H4 D = some (.lst acc) ∧ acc.length < sizeLine ∧ Nx (upd H4 D (.lst (acc ++ [y]))) else Nx H3) := by
  refine ⟨fun i m H => m = xs.length - i ∧ i ≤ xs.length ∧ Pv i H, ⟨xs.length, by simp, Nat.zero_le _, h0⟩, ?_⟩
  rintro i m H ⟨rfl, hi, p⟩
  have q := hl i H p
  by_cases hlt : i < xs.length
  · refine .inr ⟨⟨xs, xs[i], q, by simp [hlt]⟩, Pv (i + 1), fun H' p' => ⟨xs.length - (i + 1), by omega, rfl, hlt, p'⟩, fun x H' y => ?_⟩
    obtain ⟨T, x, rfl, n0, rfl, hx⟩ := y
    exact hs i x T _ (hx xs q) (hn i H T x p n0) upd_same
  · have e : i = xs.length := by omega
    subst e
    exact .inl ⟨⟨xs, q, rfl⟩, hd H p⟩
end
/-- for i, x in enumerate(t) -/
theorem for_ET {K : PySem.W.Frag} {a : Addr} {xs : List V} {g : TG} {tb : TS} {D : Ends} {σ : L2.St} {H : Hp} (Pv : Nat → L2.St → Hp → Prop) (h0 : Pv 0 σ H) (hl : ∀ i σ H, Pv i σ H → SqT K H a xs)
    (hn : ∀ i σ H T x, Pv i σ H → H T = none → Pv i σ (upd H T (.tup [.int (i : Nat), x])))
    (hs : ∀ i x T σ H, xs[i]? = some x → Pv i σ H → H T = some (.tup [.int (i : Nat), x]) → g (.ref T) σ H fun σ2 H2 => tb { D with nx := Pv (i + 1), ct := Pv (i + 1), bk := D.nx } σ2 H2) (hd : ∀ σ H, Pv xs.length σ H → D.nx σ H) :
    ∃ W : Nat → Nat → L2.St → Hp → Prop, (∃ m, W 0 m σ H) ∧ ∀ i m σ H, W i m σ H →
      ((IteT K a).stop i H ∧ D.nx σ H) ∨ ((IteT K a).go i H ∧ ∃ N : L2.St → Hp → Prop, (∀ σ' H', N σ' H' → ∃ m', m' < m ∧ W (i + 1) m' σ' H') ∧ ∀ x H', (IteT K a).yld i H x H' → g x σ H' fun σ2 H2 => tb { D with nx := N, ct := N, bk := D.nx } σ2 H2) := by
  refine ⟨fun i m σ H => m = xs.length - i ∧ i ≤ xs.length ∧ Pv i σ H, ⟨xs.length, by simp, Nat.zero_le _, h0⟩, ?_⟩
  rintro i m σ H ⟨rfl, hi, p⟩
  have q := hl i σ H p
  by_cases hlt : i < xs.length
  · refine .inr ⟨⟨xs, xs[i], q, by simp [hlt]⟩, Pv (i + 1), fun σ' H' p' => ⟨xs.length - (i + 1), by omega, rfl, hlt, p'⟩, fun x H' y => ?_⟩
    obtain ⟨T, x, rfl, n0, rfl, hx⟩ := y
    exact hs i x T σ _ (hx xs q) (hn i σ H T x p n0) upd_same
  · have e : i = xs.length := by omega
    subst e
    exact .inl ⟨⟨xs, q, rfl⟩, hd σ H p⟩
/-- .. over a list -/
theorem for_EL {K : PySem.W.Frag} {a : Addr} {xs : List V} {g : TG} {tb : TS} {D : Ends} {σ : L2.St} {H : Hp} (Pv : Nat → L2.St → Hp → Prop) (h0 : Pv 0 σ H) (hl : ∀ i σ H, Pv i σ H → SqL K H a xs)
    (hn : ∀ i σ H T x, Pv i σ H → H T = none → Pv i σ (upd H T (.tup [.int (i : Nat), x])))
    (hs : ∀ i x T σ H, xs[i]? = some x → Pv i σ H → H T = some (.tup [.int (i : Nat), x]) → g (.ref T) σ H fun σ2 H2 => tb { D with nx := Pv (i + 1), ct := Pv (i + 1), bk := D.nx } σ2 H2) (hd : ∀ σ H, Pv xs.length σ H → D.nx σ H) :
    ∃ W : Nat → Nat → L2.St → Hp → Prop, (∃ m, W 0 m σ H) ∧ ∀ i m σ H, W i m σ H →
      ((Ite K a).stop i H ∧ D.nx σ H) ∨ ((Ite K a).go i H ∧ ∃ N : L2.St → Hp → Prop, (∀ σ' H', N σ' H' → ∃ m', m' < m ∧ W (i + 1) m' σ' H') ∧ ∀ x H', (Ite K a).yld i H x H' → g x σ H' fun σ2 H2 => tb { D with nx := N, ct := N, bk := D.nx } σ2 H2) := by
  refine ⟨fun i m σ H => m = xs.length - i ∧ i ≤ xs.length ∧ Pv i σ H, ⟨xs.length, by simp, Nat.zero_le _, h0⟩, ?_⟩
  rintro i m σ H ⟨rfl, hi, p⟩
  have q := hl i σ H p
  by_cases hlt : i < xs.length
  · refine .inr ⟨⟨xs, xs[i], q, by simp [hlt]⟩, Pv (i + 1), fun σ' H' p' => ⟨xs.length - (i + 1), by omega, rfl, hlt, p'⟩, fun x H' y => ?_⟩
    obtain ⟨T, x, rfl, n0, rfl, hx⟩ := y
    exact hs i x T σ _ (hx xs q) (hn i σ H T x p n0) upd_same
  · have e : i = xs.length := by omega
    subst e
    exact .inl ⟨⟨xs, q, Nat.le_refl _⟩, hd σ H p⟩
end Sl

set_option Elab.async false
set_option linter.all false
set_option maxRecDepth 100000
set_option maxHeartbeats 400000
/-! ## Open terms as data -/
namespace Sl
open PySem PySem.Spec PyProof.Rows L2
def nmTail (x : Str) : Bool := Txt.isascii x && (Txt.isalpha x && (Txt.islower x && !(x == "fun" || x == "let" || x == "in")))
def nmOk (x : Str) : Bool := decide (1 ≤ x.length ∧ x.length ≤ 8) && nmTail x
def D.isName : D → Bool
  | .str x => nmOk x
  | _ => false
def D.short : D → Bool
  | .tup l => decide (l.length ≤ 3)
  | _ => false
def D.fst : D → Str
  | .tup [.str x, _] => x
  | _ => ""
def D.snd : D → D
  | .tup [_, b] => b
  | _ => .non
def D.items : D → List D
  | .tup l => l
  | _ => []
def D.pair : D → Bool
  | .tup [a, _] => a.isName
  | _ => false
def D.defs : D → Bool
  | .tup l => decide (1 ≤ l.length ∧ l.length ≤ 100) && (l.all D.pair && decide (l.map D.fst).Nodup)
  | _ => false
def built3 (s : Str) (b c : D) : Bool := if s = "word" then b.isName && c.short else if s = "fun" then b.isName else decide (s = "let") && b.defs
/-- what the program asks of one part -/
def built : D → Bool
  | .tup [.str s, b] => decide (s = "name") && b.isName
  | .tup [.str s, b, c] => built3 s b c
  | _ => false
def inn3 (s : Str) (b c : D) : List D := if s = "word" then c.items else if s = "fun" then [c] else b.items.map D.snd ++ [c]
/-- the terms directly in one -/
def inn : D → List D
  | .tup [.str s, b, c] => inn3 s b c
  | _ => []
def D.small : D → Bool
  | .str x => decide (x.length ≤ 1000)
  | _ => true
def D.pairS : D → Bool
  | .tup [a, _] => a.small
  | _ => true
def D.smalls : D → Bool
  | .tup l => decide (l.length ≤ 1000) && l.all D.pairS
  | x => x.small
/-- what is asked for the first places of a tuple -/
def D.hd : D → Bool
  | .tup [a, b] => match a with | .str _ => b.small | _ => false
  | .tup [a, b, c] => match a with | .str _ => b.smalls | _ => false
  | _ => true
theorem nm_small {x : Str} (h : nmOk x = true) : x.length ≤ 8 := by
  unfold nmOk at h
  simp only [Bool.and_eq_true, decide_eq_true_eq] at h
  exact h.1.2
theorem isName_small {d : D} (h : d.isName = true) : d.small = true := by
  unfold D.isName at h
  split at h
  · rename_i x
    have := nm_small h
    exact decide_eq_true (by omega)
  · cases h
theorem isName_smalls {d : D} (h : d.isName = true) : d.smalls = true := by
  unfold D.isName at h
  split at h
  · rename_i x
    have := nm_small h
    exact decide_eq_true (by omega)
  · cases h
def OpN : Nat → D → Prop
  | 0, _ => False
  | n + 1, d => (built d = true ∧ (inn d).length ≤ 4) ∧ ∀ e ∈ inn d, OpN n e
def cnt : Nat → D → Nat
  | 0, _ => 0
  | n + 1, d => 1 + ((inn d).map (cnt n)).sum
def HdN : Nat → D → Prop
  | 0, _ => True
  | n + 1, d => d.hd = true ∧ ∀ e ∈ inn d, HdN n e
def Bad : Nat → D → Prop
  | 0, d => built d = false
  | n + 1, d => built d = false ∨ ∃ e ∈ inn d, Bad n e
def opn : Nat → Nat → List D → Bool
  | 0, _, _ => false
  | k + 1, m, l => if m + l.length > 500 ∨ l.all built = false then false else if (l.flatMap inn).isEmpty = true then true else opn k (m + l.length) (l.flatMap inn)
def isOpen (d : D) : Bool := opn 120 0 [d]
theorem defs_smalls {d : D} (h : d.defs = true) : d.smalls = true := by
  unfold D.defs at h
  split at h
  · rename_i l
    simp only [Bool.and_eq_true, decide_eq_true_eq, List.all_eq_true] at h
    show (decide (l.length ≤ 1000) && l.all D.pairS) = true
    simp only [Bool.and_eq_true, decide_eq_true_eq, List.all_eq_true]
    refine ⟨by omega, fun x hx => ?_⟩
    have hp := h.2.1 x hx
    unfold D.pair at hp
    split at hp
    · exact isName_small hp
    · cases hp
  · cases h
theorem built_hd {d : D} (h : built d = true) : d.hd = true := by
  unfold built at h
  split at h
  · simp only [Bool.and_eq_true] at h
    exact isName_small h.2
  · rename_i s b c
    unfold built3 at h
    show b.smalls = true
    split at h
    · simp only [Bool.and_eq_true] at h
      exact isName_smalls h.1
    · split at h
      · exact isName_smalls h
      · simp only [Bool.and_eq_true] at h
        exact defs_smalls h.2
  · cases h
theorem OpN.hd : ∀ {n : Nat} {d : D}, OpN n d → ∀ k, HdN k d
  | 0, _, h, _ => h.elim
  | n + 1, d, h, 0 => trivial
  | n + 1, d, h, k + 1 => ⟨built_hd h.1.1, fun e he => OpN.hd (h.2 e he) k⟩
theorem sum_flat (g : D → Nat) : ∀ l : List D, ((l.flatMap inn).map g).sum = (l.map fun d => ((inn d).map g).sum).sum
  | [] => rfl
  | d :: l => by
    rw [List.flatMap_cons, List.map_append, List.sum_append, sum_flat g l, List.map_cons, List.sum_cons]
theorem sum_one (g : D → Nat) : ∀ l : List D, (l.map fun d => 1 + g d).sum = l.length + (l.map g).sum
  | [] => rfl
  | d :: l => by
    rw [List.map_cons, List.sum_cons, sum_one g l, List.map_cons, List.sum_cons, List.length_cons]
    omega
theorem opn_true : ∀ (n : Nat) (l : List D) (m k : Nat), (∀ d ∈ l, OpN n d) → l ≠ [] → m + (l.map (cnt n)).sum ≤ 500 → n ≤ k → opn k m l = true
  | 0, [], _, _, _, h, _, _ => absurd rfl h
  | 0, d :: _, _, _, h, _, _, _ => (h d List.mem_cons_self).elim
  | n + 1, l, m, 0, _, _, _, h => absurd h (by omega)
  | n + 1, l, m, k + 1, h, hne, hs, hk => by
    have e1 : (l.map (cnt (n + 1))).sum = l.length + ((l.flatMap inn).map (cnt n)).sum := by
      rw [sum_flat]
      exact sum_one (fun d => ((inn d).map (cnt n)).sum) l
    have hb : l.all built = true := List.all_eq_true.mpr fun d hd => (h d hd).1.1
    unfold opn
    rw [if_neg (by rw [hb]; simp; omega)]
    split
    · rfl
    · rename_i hq
      refine opn_true n _ _ k (fun e he => ?_) (fun z => hq (by rw [z]; rfl)) (by omega) (by omega)
      obtain ⟨d, hd, he⟩ := List.mem_flatMap.mp he
      exact (h d hd).2 e he
theorem opn_false : ∀ (n k m : Nat) (l : List D), n < k → (∃ d ∈ l, Bad n d) → opn k m l = false
  | _, 0, _, _, h, _ => absurd h (by omega)
  | 0, k + 1, m, l, _, ⟨d, hd, hb⟩ => by
    unfold opn
    rw [if_pos]
    right
    refine Bool.eq_false_iff.mpr fun z => ?_
    have := List.all_eq_true.mp z d hd
    rw [show built d = false from hb] at this
    cases this
  | n + 1, k + 1, m, l, hk, ⟨d, hd, hb⟩ => by
    unfold opn
    by_cases hq : m + l.length > 500 ∨ l.all built = false
    · rw [if_pos hq]
    · rw [if_neg hq]
      rcases hb with hb | ⟨e, he, hb⟩
      · refine absurd (Or.inr ?_) hq
        refine Bool.eq_false_iff.mpr fun z => ?_
        have := List.all_eq_true.mp z d hd
        rw [hb] at this
        cases this
      · have hm : e ∈ l.flatMap inn := List.mem_flatMap.mpr ⟨d, hd, he⟩
        rw [if_neg (fun z => by
          have z' := List.isEmpty_iff.mp z
          rw [z'] at hm
          cases hm)]
        exact opn_false n k _ _ (by omega) ⟨e, hm, hb⟩
theorem isOpen_of {n : Nat} {d : D} (h : OpN n d) (hn : n ≤ 120) (hc : cnt n d ≤ 500) : isOpen d = true :=
  opn_true n [d] 0 120 (fun x hx => by rw [List.mem_singleton.mp hx]; exact h) (by simp) (by simp; omega) hn
theorem isOpen_bad {n : Nat} {d : D} (h : Bad n d) (hn : n < 120) : isOpen d = false := opn_false n 120 0 [d] hn ⟨d, List.mem_singleton.mpr rfl, h⟩
theorem cnt_pos {n : Nat} {d : D} (h : OpN n d) : 1 ≤ cnt n d := by
  cases n with
  | zero => exact h.elim
  | succ n => unfold cnt; omega
theorem cnt_mem {n : Nat} {d e : D} (he : e ∈ inn d) : cnt n e + 1 ≤ cnt (n + 1) d := by
  have key : ∀ l : List D, e ∈ l → cnt n e ≤ (l.map (cnt n)).sum := by
    intro l
    induction l with
    | nil => intro h; cases h
    | cons x l ih =>
      intro h
      rw [List.map_cons, List.sum_cons]
      rcases List.mem_cons.mp h with rfl | h
      · omega
      · have := ih h
        omega
  have := key _ he
  have e2 : cnt (n + 1) d = 1 + ((inn d).map (cnt n)).sum := rfl
  omega
/-! ### the four forms -/
def mkU (x : Str) : D := .tup [.str "name", .str x]
def mkW (x : Str) (l : List D) : D := .tup [.str "word", .str x, .tup l]
def mkF (x : Str) (b : D) : D := .tup [.str "fun", .str x, b]
def mkPs (ps : List (Str × D)) : List D := ps.map fun p => .tup [.str p.1, p.2]
def mkL (ps : List (Str × D)) (b : D) : D := .tup [.str "let", .tup (mkPs ps), b]
theorem ne_wf : ¬ ((("fun" : Str)) = "word") := by decide +kernel
theorem ne_wl : ¬ ((("let" : Str)) = "word") := by decide +kernel
theorem ne_fl : ¬ ((("let" : Str)) = "fun") := by decide +kernel
theorem mkPs_fst (ps : List (Str × D)) : (mkPs ps).map D.fst = ps.map (·.1) := by
  unfold mkPs
  rw [List.map_map]
  rfl
theorem mkPs_snd (ps : List (Str × D)) : (mkPs ps).map D.snd = ps.map (·.2) := by
  unfold mkPs
  rw [List.map_map]
  rfl
theorem mkPs_all (ps : List (Str × D)) : (mkPs ps).all D.pair = ps.all fun p => nmOk p.1 := by
  unfold mkPs
  rw [List.all_map]
  rfl
@[simp] theorem inn_U (x : Str) : inn (mkU x) = [] := rfl
@[simp] theorem inn_W (x : Str) (l : List D) : inn (mkW x l) = l := by
  show inn3 "word" (.str x) (.tup l) = l
  unfold inn3
  rw [if_pos rfl]
  rfl
@[simp] theorem inn_F (x : Str) (b : D) : inn (mkF x b) = [b] := by
  show inn3 "fun" (.str x) b = [b]
  unfold inn3
  rw [if_neg ne_wf, if_pos rfl]
@[simp] theorem inn_L (ps : List (Str × D)) (b : D) : inn (mkL ps b) = ps.map (·.2) ++ [b] := by
  show inn3 "let" (.tup (mkPs ps)) b = _
  unfold inn3
  rw [if_neg ne_wl, if_neg ne_fl]
  show (mkPs ps).map D.snd ++ [b] = _
  rw [mkPs_snd]
theorem built_U {x : Str} : built (mkU x) = nmOk x := by
  show (decide (("name" : Str) = "name") && nmOk x) = _
  rw [decide_eq_true rfl, Bool.true_and]
theorem built_W {x : Str} {l : List D} : built (mkW x l) = (nmOk x && decide (l.length ≤ 3)) := by
  show built3 "word" (.str x) (.tup l) = _
  unfold built3
  rw [if_pos rfl]
  rfl
theorem built_F {x : Str} {b : D} : built (mkF x b) = nmOk x := by
  show built3 "fun" (.str x) b = _
  unfold built3
  rw [if_neg ne_wf, if_pos rfl]
  rfl
/-- definitions as a block has them -/
def DefOk (ps : List (Str × D)) : Prop := 1 ≤ ps.length ∧ ps.length ≤ 100 ∧ (∀ p ∈ ps, nmOk p.1 = true) ∧ (ps.map (·.1)).Nodup
theorem built_L {ps : List (Str × D)} {b : D} : built (mkL ps b) = true ↔ DefOk ps := by
  show built3 "let" (.tup (mkPs ps)) b = true ↔ _
  unfold built3
  rw [if_neg ne_wl, if_neg ne_fl]
  show (decide (("let" : Str) = "let") && (decide (1 ≤ (mkPs ps).length ∧ (mkPs ps).length ≤ 100) && ((mkPs ps).all D.pair && decide ((mkPs ps).map D.fst).Nodup))) = true ↔ _
  rw [mkPs_all, mkPs_fst, show (mkPs ps).length = ps.length from List.length_map ..]
  simp only [decide_true, Bool.true_and, Bool.and_eq_true, decide_eq_true_eq, List.all_eq_true, DefOk, and_assoc]
/-- what is built is one of the four -/
theorem defs_of {b : D} (h : b.defs = true) : ∃ ps, b = .tup (mkPs ps) ∧ DefOk ps := by
  cases b with
  | tup l =>
    simp only [D.defs, Bool.and_eq_true, decide_eq_true_eq, List.all_eq_true] at h
    obtain ⟨⟨h1, h2⟩, h3, h4⟩ := h
    have key : ∀ l : List D, (∀ d ∈ l, d.pair = true) → ∃ ps : List (Str × D), l = mkPs ps := by
      intro l
      induction l with
      | nil => exact fun _ => ⟨[], rfl⟩
      | cons d l ih =>
        intro hp
        obtain ⟨ps, e⟩ := ih fun x hx => hp x (List.mem_cons_of_mem _ hx)
        have hd := hp d List.mem_cons_self
        unfold D.pair at hd
        split at hd
        · rename_i a b
          unfold D.isName at hd
          split at hd
          · rename_i x
            exact ⟨(x, b) :: ps, by rw [e]; rfl⟩
          · cases hd
        · cases hd
    obtain ⟨ps, e⟩ := key l h3
    subst e
    refine ⟨ps, rfl, ?_⟩
    rw [mkPs_fst] at h4
    refine ⟨by simpa [mkPs] using h1, by simpa [mkPs] using h2, fun p hp => ?_, h4⟩
    exact h3 (.tup [.str p.1, p.2]) (List.mem_map.mpr ⟨p, hp, rfl⟩)
  | _ => cases h
theorem built_cases {d : D} (h : built d = true) : (∃ x, d = mkU x ∧ nmOk x = true) ∨ (∃ x l, d = mkW x l ∧ nmOk x = true ∧ l.length ≤ 3) ∨ (∃ x b, d = mkF x b ∧ nmOk x = true) ∨ ∃ ps b, d = mkL ps b ∧ DefOk ps := by
  unfold built at h
  split at h
  · rename_i s b
    simp only [Bool.and_eq_true, decide_eq_true_eq] at h
    obtain ⟨rfl, h⟩ := h
    unfold D.isName at h
    split at h
    · rename_i x
      exact .inl ⟨x, rfl, h⟩
    · cases h
  · rename_i s b c
    unfold built3 at h
    split at h
    · rename_i e
      subst e
      simp only [Bool.and_eq_true] at h
      obtain ⟨h1, h2⟩ := h
      unfold D.isName at h1
      split at h1
      · rename_i x
        unfold D.short at h2
        split at h2
        · rename_i l
          exact .inr (.inl ⟨x, l, rfl, h1, of_decide_eq_true h2⟩)
        · cases h2
      · cases h1
    · split at h
      · rename_i e
        subst e
        unfold D.isName at h
        split at h
        · rename_i x
          exact .inr (.inr (.inl ⟨x, c, rfl, h⟩))
        · cases h
      · simp only [Bool.and_eq_true, decide_eq_true_eq] at h
        obtain ⟨rfl, h⟩ := h
        obtain ⟨ps, rfl, hp⟩ := defs_of h
        exact .inr (.inr (.inr ⟨ps, c, rfl, hp⟩))
  · cases h
theorem inn_len {d : D} (h : built d = true) : (inn d).length ≤ 101 := by
  rcases built_cases h with ⟨x, rfl, _⟩ | ⟨x, l, rfl, _, hl⟩ | ⟨x, b, rfl, _⟩ | ⟨ps, b, rfl, hp⟩
  · simp
  · rw [inn_W]; omega
  · simp
  · rw [inn_L, List.length_append, List.length_map]
    have := hp.2.1
    simp
    omega
theorem flat_len : ∀ {l : List D}, (∀ d ∈ l, built d = true) → (l.flatMap inn).length ≤ 101 * l.length
  | [], _ => by simp
  | d :: l, h => by
    rw [List.flatMap_cons, List.length_append, List.length_cons]
    have h1 := inn_len (h d List.mem_cons_self)
    have h2 := flat_len fun x hx => h x (List.mem_cons_of_mem (a := x) d hx)
    omega
end Sl

set_option Elab.async false
set_option linter.all false
set_option maxRecDepth 100000
set_option maxHeartbeats 3200000
/-! ## How many different strings a list has -/
namespace Sl
open PySem PySem.Spec PyProof.Rows L2
/-- the strings that are met first -/
def met : List Str → Nat → List Str
  | _, 0 => []
  | xs, i + 1 => if (met xs i).any (· == xs.getD i Str.empty) = true then met xs i else met xs i ++ [xs.getD i Str.empty]
theorem met_len (xs : List Str) : ∀ i, (met xs i).length ≤ i
  | 0 => Nat.le_refl 0
  | i + 1 => by
    have := met_len xs i
    unfold met
    split
    · omega
    · rw [List.length_append]
      simp
      omega
theorem met_any (xs : List Str) (i : Nat) (y : Str) : ((met xs i).any (· == y) || decide (y = xs.getD i Str.empty)) = (met xs (i + 1)).any (· == y) := by
  rw [show met xs (i + 1) = if (met xs i).any (· == xs.getD i Str.empty) = true then met xs i else met xs i ++ [xs.getD i Str.empty] from rfl]
  by_cases e : y = xs.getD i Str.empty
  · subst e
    split
    · rename_i h
      rw [h]
      rfl
    · rw [List.any_append]
      simp
  · rw [decide_eq_false e, Bool.or_false]
    split
    · rfl
    · rw [List.any_append]
      have : ([xs.getD i Str.empty].any (· == y)) = false := by
        simp only [List.any_cons, List.any_nil, Bool.or_false]
        exact beq_eq_false_iff_ne.mpr fun z => e z.symm
      rw [this, Bool.or_false]
theorem met_step (xs : List Str) (i : Nat) : (if (met xs i).any (· == xs.getD i Str.empty) = true then (met xs i).length else (met xs i).length + 1) = (met xs (i + 1)).length := by
  rw [show met xs (i + 1) = if (met xs i).any (· == xs.getD i Str.empty) = true then met xs i else met xs i ++ [xs.getD i Str.empty] from rfl]
  split
  · rfl
  · rw [List.length_append] <;> rfl
theorem met_nodup {xs : List Str} (h : xs.Nodup) : ∀ i, i ≤ xs.length → met xs i = xs.take i
  | 0, _ => rfl
  | i + 1, hi => by
    have hlt : i < xs.length := hi
    have e := met_nodup h i (by omega)
    have e1 : xs.getD i Str.empty = xs[i] := by simp [hlt]
    have no : (xs.take i).any (· == xs[i]) = false := by
      refine Bool.eq_false_iff.mpr fun z => ?_
      obtain ⟨y, hy, hz⟩ := List.any_eq_true.mp z
      obtain ⟨j, hj, ej⟩ := List.getElem_of_mem hy
      rw [List.length_take] at hj
      rw [List.getElem_take] at ej
      have e2 := beq_iff_eq.mp hz
      rw [← ej] at e2
      have := (List.nodup_iff_pairwise_ne.mp h)
      exact absurd e2 ((List.pairwise_iff_getElem.mp this) j i (by omega) hlt (by omega))
    rw [show met xs (i + 1) = if (met xs i).any (· == xs.getD i Str.empty) = true then met xs i else met xs i ++ [xs.getD i Str.empty] from rfl, e, e1, no, List.take_add_one, List.getElem?_eq_getElem hlt]
    rfl
/-- as many as the list is long: all different -/
theorem met_all (xs : List Str) : ∀ i, i ≤ xs.length → (met xs i).length = i → (xs.take i).Nodup ∧ met xs i = xs.take i
  | 0, _, _ => ⟨List.nodup_nil, rfl⟩
  | i + 1, hi, h => by
    have hlt : i < xs.length := hi
    have e1 : xs.getD i Str.empty = xs[i] := by simp [hlt]
    have hl := met_len xs i
    have s := met_step xs i
    rw [h] at s
    by_cases q : (met xs i).any (· == xs.getD i Str.empty) = true
    · rw [if_pos q] at s
      omega
    · rw [if_neg q] at s
      obtain ⟨h1, h2⟩ := met_all xs i (by omega) (by omega)
      have e3 : met xs (i + 1) = met xs i ++ [xs.getD i Str.empty] := by
        rw [show met xs (i + 1) = if (met xs i).any (· == xs.getD i Str.empty) = true then met xs i else met xs i ++ [xs.getD i Str.empty] from rfl, if_neg q]
      have e4 : xs.take (i + 1) = xs.take i ++ [xs[i]] := by
        rw [List.take_add_one, List.getElem?_eq_getElem hlt]
        rfl
      rw [e3, h2, e1, e4]
      refine ⟨?_, rfl⟩
      rw [List.nodup_append]
      refine ⟨h1, by simp, fun a ha b hb z => q ?_⟩
      rw [List.mem_singleton.mp hb] at z
      rw [h2, e1]
      exact List.any_eq_true.mpr ⟨a, ha, by rw [z]; exact beq_self_eq_true _⟩
theorem met_full {xs : List Str} : decide ((met xs xs.length).length = xs.length) = decide xs.Nodup := by
  refine decide_eq_decide.mpr ⟨fun h => ?_, fun h => ?_⟩
  · have := (met_all xs _ (Nat.le_refl _) h).1
    rwa [List.take_length] at this
  · rw [met_nodup h _ (Nat.le_refl _), List.take_length]
section
variable {prog : Program} {w : World} {A : Around} {R : Result → Shared → Prop} {it : Addr} {fp wr : List Addr} {Gn : Array GenState → Array GenState → Prop} {n : Nat} {Pi : Nat → Value → Prop} {Si : Nat → Shared → Prop}
theorem set_loop (Wk : WalksS prog w A.in1 it fp wr Gn n Pi Si) (d : Addr) (off : d ∉ fp) (xs : List Str) (small : n + 1 < scanBound)
    (each : ∀ j v, Pi j v → ∃ t, v = .str (xs.getD j Str.empty) t) :
    ∀ (m i : Nat) (z : Shared), n - i = m → i ≤ n → Si i z → z.heap.SetOf (PySem.strKind prog w) d (fun y => (met xs i).any (· == y)) (met xs i).length →
      (∀ z', Moved (d :: wr) Gn z z' → z'.heap.SetOf (PySem.strKind prog w) d (fun y => (met xs n).any (· == y)) (met xs n).length → R (.ok (.ret .none)) z') →
      codeAny (model prog w) A (.builtin "set.update.loop" ⟨[.ref d, .ref it], []⟩) R z := by
  have nw : d ∉ wr := fun q => off (Wk.sub _ q)
  have sub : ∀ b ∈ wr, b ∈ d :: wr := fun b q => List.mem_cons_of_mem _ q
  intro m
  induction m with
  | zero =>
    intro i z e1 le at_i held fin
    obtain rfl : i = n := by omega
    refine codeAny_builtin PyProof.Rows.F.entry_set_update_loop ?_
    rw [Around.under_plainId PyProof.Rows.F.plain_set_update_loop _]
    show wpAny _ A.in1 (pyNext (.ref it) >>= _) _ _ z
    refine wpAny_bind (Wk.done z _ _ at_i fun z1 mv => wpAny_pure (fin z1 (mv.mono sub) ?_))
    obtain ⟨ob, u1, u2, u3, gt, more⟩ := held
    exact ⟨ob, u1, u2, u3, mv.heap d _ nw gt, more⟩
  | succ m ih =>
    intro i z e1 le at_i held fin
    have lt : i < n := by omega
    refine codeAny_builtin PyProof.Rows.F.entry_set_update_loop ?_
    rw [Around.under_plainId PyProof.Rows.F.plain_set_update_loop _]
    show wpAny _ A.in1 (pyNext (.ref it) >>= _) _ _ z
    refine wpAny_bind (Wk.item i z _ _ lt at_i fun v z1 pv at_1 mv => ?_)
    obtain ⟨t, rfl⟩ := each i v pv
    have held1 : z1.heap.SetOf (PySem.strKind prog w) d (fun y => (met xs i).any (· == y)) (met xs i).length := by
      obtain ⟨ob, u1, u2, u3, gt, more⟩ := held
      exact ⟨ob, u1, u2, u3, mv.heap d _ nw gt, more⟩
    show wpAny _ A.in1 (holding [Value.str (xs.getD i Str.empty) t] (setAdd d (.str (xs.getD i Str.empty) t)) >>= _) _ _ z1
    refine wpAny_bind (wpAny_holding ?_)
    unfold setAdd
    refine wpAny_holding (wpAny_bind ((PySem.strKind prog w).pyHash (k := xs.getD i Str.empty) (strKind_is _ _ _ _) ?_))
    have ml := met_len xs i
    refine wpAny_setAddHashed_of (knd := PySem.strKind prog w) (s := { z1 with toks := z1.toks + 1 }) (strKind_is _ _ _ _) rfl held1 (by omega) fun h2 sb held2 => ?_
    have held3 := SetOf_congr held2 (fun y => met_any xs i y) (met_step xs i)
    refine wpAny_pure ⟨plainId_quiet PyProof.Rows.F.plain_set_update_loop _, ih (i + 1) _ (by omega) lt (Wk.frame _ z1 _ _ at_1 (Nat.le_succ _) fun b q o e => ?_) held3 fun z2 mv2 held4 => ?_⟩
    · rw [sb.2 b (fun h : b = d => off (by rw [← h]; exact q))]
      exact e
    · refine fin z2 (Moved.trans Wk.gtrans ((mv.mono sub).then_heap (Nat.le_succ _) fun b o q e => ?_) mv2) held4
      rw [sb.2 b (fun h : b = d => q (by rw [h]; exact List.mem_cons_self))]
      exact e
end
section
variable {prog : Program} {w : World} {A : Around} {E : Value → Shared → Prop} {z : Shared}
theorem call_setStrs {l : Addr} {its : Array Value} {xs : List Str} {Q : Value → Shared → Prop}
    (cool : A.handled = none) (isL : z.heap.IsList l its) (all : PyProof.Rows.StrsAre its.toList xs) (small : xs.length + 1 < scanBound)
    (q : ∀ (h' : Heap) (tk : Nat), h'.SetOf (PySem.strKind prog w) z.heap.objs.size (fun y => (met xs xs.length).any (· == y)) (met xs xs.length).length →
      (∀ b o, b < z.heap.objs.size → z.heap.get? b = some o → h'.get? b = some o) → Q (.ref z.heap.objs.size) { z with heap := h', toks := tk }) :
    wpAny (model prog w) A (call (.type "set") [.ref l]) Q E z := by
  obtain ⟨c0, tl, mro⟩ := PySem.F.called_set.mro
  have made := PySem.F.called_set.made
  have sub0 := PySem.F.called_set.sub
  have len : xs.length = its.size := by rw [← StrsAre.len_eq all, Array.length_toList]
  refine wpAny_call (codeAny_of_tree ?_)
  show wpAny _ _ (callAny (.type "set") _) _ _ _
  refine wpAny_pure ⟨Code.quiet_builtin _ (by decide +kernel), codeAny_builtin PySem.F.entry_type_call ?_⟩
  rw [Around.under_plain (weight_type_call_type "set" [.ref l] []) rfl]
  have f1 := PySem.F.called_set.notType
  have f2 := PySem.F.called_set.canCreate
  have f3 := PySem.F.typeCall_set_1 (.ref l)
  repeat (any_goals (first | assumption | wp_step))
  refine codeAny_mono (code_set_new_1 (.ref l) (E := E) (Q₁ := fun ob z1 => ∃ led : Bool, ob = .ref z.heap.objs.size ∧ z1 = { z with heap := z.heap.push { cls := .type "set", dict := none, data := .set #[] 0 (.fresh 0 0 led) } }) fun led => ⟨led, rfl, rfl⟩) fun r z1 hr => ?_
  match r, hr with
  | .error e, hr => exact hr
  | .ok (.ret ob), hr =>
    obtain ⟨led, rfl, rfl⟩ := hr
    have hS : (z.heap.push { cls := .type "set", dict := none, data := .set #[] 0 (.fresh 0 0 led) }).get? z.heap.objs.size = some { cls := .type "set", dict := none, data := .set #[] 0 (.fresh 0 0 led) } := Heap.get?_push_size _ rfl
    have hT : Shared.TypeIs { z with heap := z.heap.push { cls := .type "set", dict := none, data := .set #[] 0 (.fresh 0 0 led) } } (.ref z.heap.objs.size) "set" := ⟨_, hS, rfl⟩
    have f4 := PySem.F.called_set.init.lookup
    have f5 := PySem.F.called_set.init.bind (.ref z.heap.objs.size)
    repeat (any_goals (first | assumption | wp_step))
    refine codeAny_mono (codeAny_call_builtin (R := wants (fun r z2 => r = .none ∧ ∃ h' tk, z2 = { z with heap := h', toks := tk } ∧
        h'.SetOf (PySem.strKind prog w) z.heap.objs.size (fun y => (met xs xs.length).any (· == y)) (met xs xs.length).length ∧
        (∀ b o, b < z.heap.objs.size → z.heap.get? b = some o → h'.get? b = some o)) E) PySem.F.called_set.init.plain PySem.F.entry_set_init (check_set_init_1 hT ?_)) fun r2 z2 hr2 => ?_
    · obtain ⟨⟨cls, dd, dt, sl⟩, gl, hc, nl, hd⟩ := isL
      simp only at hc hd
      subst hc hd
      have gl' : (z.heap.push { cls := .type "set", dict := none, data := .set #[] 0 (.fresh 0 0 led) }).get? l = some { cls := .type "list", dict := dd, data := .seq its nl, slots := sl } := Heap.get?_push_of_some _ gl
      have f6 := PySem.F.sub_list_set
      have f7 := PySem.F.sub_list_frozenset
      have f8 : (Value.type "list" == Value.type "dict") = false := by decide
      have isl : (z.heap.push { cls := .type "set", dict := none, data := .set #[] 0 (.fresh 0 0 led) }).IsList l its := ⟨_, gl', rfl, nl, rfl⟩
      unfold Builtin.«set.__init__» noKeywords Builtin.Frozenset.updateFrom
      generalize hPI : pyIter = PI
      wp_walk
      subst hPI
      refine wpAny_pyIter_list isl (wpAny_bind (wpAny_runValue ?_))
      have ls : l < z.heap.objs.size := Heap.lt_size gl
      have cool3 : A.in1.in1.in1.handled = none := by simp [cool]
      have ne1 : l ≠ (z.heap.push { cls := .type "set", dict := none, data := .set #[] 0 (.fresh 0 0 led) }).objs.size := by
        rw [Heap.size_push]
        exact Nat.ne_of_lt (Nat.lt_succ_of_lt ls)
      have off : z.heap.objs.size ∉ [(z.heap.push { cls := .type "set", dict := none, data := .set #[] 0 (.fresh 0 0 led) }).objs.size, l] := by
        rw [Heap.size_push]
        simp only [List.mem_cons, List.mem_singleton, List.not_mem_nil, or_false, not_or]
        exact ⟨Nat.ne_of_lt (Nat.lt_succ_self _), Nat.ne_of_gt ls⟩
      have each : ∀ (j : Nat) (v : Value), its[j]? = some v → ∃ t, v = .str (xs.getD j Str.empty) t := fun j v hv => SS.strs_at all j v (by rw [Array.getElem?_toList]; exact hv)
      refine set_loop ((Walks.list cool3 _ l ne1 its).toS) z.heap.objs.size off xs (by rw [← len]; exact small) each (its.size - 0) 0 _ (by omega) (Nat.zero_le _)
        ⟨⟨_, Heap.get?_push_size _ rfl, rfl, rfl⟩, (isl.push _)⟩ ?h0 ?h1
      case h0 =>
        have get0 : ((z.heap.push { cls := .type "set", dict := none, data := .set #[] 0 (.fresh 0 0 led) }).push { cls := .type "list_iterator", data := .fields #[.ref l, .int 0 0] }).get? z.heap.objs.size
            = some { cls := .type "set", dict := none, data := .set #[] 0 (.fresh 0 0 led) } := Heap.get?_push_of_some _ hS
        exact PyProof.Rows.SetOf_congr ((PyProof.Rows.setObjOf_fresh (knd := PySem.strKind prog w) led).setOf get0 (by unfold scanBound; omega)) (fun _ => rfl) rfl
      case h1 =>
        intro z3 mv held
        obtain ⟨h3, g3, d3, t3, o3⟩ := z3
        have eg : g3 = z.gens := mv.gens
        have ed : d3 = z.drawn := mv.drawn
        have eo : o3 = z.os := mv.os
        subst eg ed eo
        show wpAny _ _ _ _ _ _
        refine wpAny_pure ?_
        show wpAny _ _ (ret Value.none) _ _ _
        refine wpAny_pure ⟨rfl, h3, t3, rfl, by rw [len]; exact held, fun b o lt e => ?_⟩
        have b1 : b ≠ z.heap.objs.size := Nat.ne_of_lt lt
        have b2 : b ≠ (z.heap.push { cls := .type "set", dict := none, data := .set #[] 0 (.fresh 0 0 led) }).objs.size := by
          rw [Heap.size_push]
          exact Nat.ne_of_lt (Nat.lt_succ_of_lt lt)
        exact mv.heap b o (by simp only [List.mem_cons, List.mem_singleton, List.not_mem_nil, or_false, not_or]; exact ⟨b1, b2⟩) (Heap.get?_push_of_some _ (Heap.get?_push_of_some _ e))
    · match r2, hr2 with
      | .error e, hr2 => exact hr2
      | .ok (.ret r3), hr2 =>
        obtain ⟨rfl, h', tk, rfl, held, keep⟩ := hr2
        repeat (any_goals (first | assumption | wp_step))
        exact q _ _ held keep
end
/-- len(set(l)), l a list of strings -/
def tLenStrs (K : PySem.W.Frag) (ta : TE) : TE := fun σ H Q => ta σ H fun x H1 => ∃ (l : Addr) (xs : List Str), x = .ref l ∧ SqL K H1 l (xs.map V.str) ∧ xs.length ≤ 1000 ∧ Q (.int ((met xs xs.length).length : Nat)) H1
theorem pe_lenStrs {X : Cx} {a : Expr} {ta : TE} {p p2 q pos : Pos} (hg : Gl X "len") (hm : X.mg "len" = none) (hg2 : Gl X "set") (hm2 : X.mg "set" = none) (ha : PE X a ta) (cool : X.calm = true := by rfl)
    (na : starEach [a] X.env = (false, eval a X.env) :: starEach [] X.env := by rfl) : PE X (.Call (.Name "len" p) [.Call (.Name "set" p2) [a] [] q] [] pos) (tLenStrs X.K ta) := by
  constructor
  intro pins z σ H Q I h
  refine Call_ (ld_blt I hg hm boot_len (PyProof.Rows.callWith_builtin1 (PyProof.Rows.args_cons ?_ rfl) rfl rfl))
  refine Call_ (ld_blt I hg2 hm2 boot_set (PyProof.Rows.callWith_type1 (PyProof.Rows.args_cons (thn (ha.run pins z σ H _ I h) fun v z1 ⟨x, H1, I1, r1, q1⟩ => PyProof.Rows.args_nil ?_) na) na rfl))
  obtain ⟨l, xs, rfl, hq, hl, q1⟩ := q1
  cases r1
  obtain ⟨its, r, pl, hz⟩ := I1.list hq
  have len : xs.length = its.toArray.size := by rw [List.size_toArray, ← r.length, List.length_map]
  refine call_setStrs (I1.ok.hd cool) pl.isList (by simpa using strsAre_of r) (by unfold scanBound; omega) fun h' tk held keep => PyProof.Rows.args_nil ?_
  obtain ⟨ob, es, ep, t, gt, hex, hd, _, _, _, hf, hn⟩ := held
  have I2 : Inv X pins σ H1 { z1 with heap := h', toks := tk } := I1.kept fun b o e => keep b o (Heap.lt_size e) e
  have ml := met_len xs xs.length
  exact call_len_set gt hex hd hf (by rw [hn] <;> omega) ⟨.int ((met xs xs.length).length : Nat), H1, I2.tok _, ⟨_, by rw [hn]⟩, q1⟩
end Sl

set_option Elab.async false
set_option linter.all false
set_option maxRecDepth 100000
set_option maxHeartbeats 400000
/-! ## [y for x in l for y in f(x)], f(x) a tuple -/
namespace Sl
open PySem PySem.Spec PyProof.Rows L2
theorem RddAll.app' {K : PySem.W.Frag} {H : Hp} : ∀ {xs ys : List V} {ds es : List D}, RddAll K H xs ds → RddAll K H ys es → RddAll K H (xs ++ ys) (ds ++ es)
  | _, _, _, _, .nil, h => h
  | _, _, _, _, .cons a b, h => .cons a (b.app' h)
theorem flat_take {f : D → List D} {ds : List D} {i : Nat} {d : D} (h : ds[i]? = some d) : (ds.take (i + 1)).flatMap f = (ds.take i).flatMap f ++ f d := by
  rw [List.take_add_one, h, List.flatMap_append]
  simp
theorem flat_le {f : D → List D} {ds : List D} (i : Nat) : ((ds.take i).flatMap f).length ≤ (ds.flatMap f).length := by
  have e : ds.flatMap f = (ds.take i).flatMap f ++ (ds.drop i).flatMap f := by rw [← List.flatMap_append, List.take_append_drop]
  rw [e, List.length_append]
  omega
theorem lc2F {K : PySem.W.Frag} {a D0 : Addr} {xs : List V} {ds : List D} {f : D → List D} {wi1 : TI} {vs vs1 : List Nat} {i1 i2 : Nat} {σ : L2.St} {H1 : Hp} {Qd : Hp → Prop} (tot : (ds.flatMap f).length ≤ 100000) (hT : SqL K H1 a xs) (hR : RddAll K H1 xs ds) (hD : H1 D0 = none)
    (w1 : ∀ x, wipe ((wipe σ vs).set i1 (some x)) vs = wipe σ vs)
    (w2 : ∀ x y, wipe ((wipe ((wipe σ vs).set i1 (some x)) vs1).set i2 (some y)) vs1 = wipe ((wipe σ vs).set i1 (some x)) vs1)
    (g2 : ∀ x y, ((wipe ((wipe σ vs).set i1 (some x)) vs1).set i2 (some y))[i2]? = some (some y))
    (hs : ∀ (x : V) (d : D) (H : Hp) (R : It → Hp → Prop), d ∈ ds → Rdd K H x d → Same H1 H → (∀ b ys H', Same H H' → SqT K H' b ys → RddAll K H' ys (f d) → R (Itt K b) H') → wi1 ((wipe σ vs).set i1 (some x)) H R)
    (hd : ∀ H acc, Same H1 H → H D0 = some (.lst acc) → RddAll K H acc (ds.flatMap f) → Qd H) :
    ∃ W : Nat → Nat → Hp → Prop, (∃ m, W 0 m (upd H1 D0 (.lst []))) ∧ ∀ i m H, W i m H →
      ((Itl K a).stop i H ∧ Qd H) ∨ ((Itl K a).go i H ∧ ∃ Nx : Hp → Prop, (∀ H', Nx H' → ∃ m', m' < m ∧ W (i + 1) m' H') ∧ ∀ x H', (Itl K a).yld i H x H' → gName i1 x (wipe σ vs) H' fun σ2 H2 => wipe σ2 vs = wipe σ vs ∧ tYes σ2 H2 fun b H3 =>
        if b = true then wi1 σ2 H3 fun J1 H4 => ∃ W1 : Nat → Nat → Hp → Prop, (∃ m, W1 0 m H4) ∧ ∀ j k H, W1 j k H →
          (J1.stop j H ∧ Nx H) ∨ (J1.go j H ∧ ∃ Nx1 : Hp → Prop, (∀ H', Nx1 H' → ∃ k', k' < k ∧ W1 (j + 1) k' H') ∧ ∀ x H', J1.yld j H x H' → gName i2 x (wipe σ2 vs1) H' fun σ3 H5 => wipe σ3 vs1 = wipe σ2 vs1 ∧ tYes σ3 H5 fun b H6 =>
            if b = true then tVar i2 σ3 H6 fun y H7 => ∃ acc, H7 D0 = some (.lst acc) ∧ acc.length < sizeLine ∧ Nx1 (upd H7 D0 (.lst (acc ++ [y]))) else Nx1 H6)
        else Nx H3) := by
  have len := hR.length
  have sl := sizeLine_eq
  refine ⟨fun i m H => m = xs.length - i ∧ i ≤ xs.length ∧ Off D0 H1 H ∧ ∃ acc, H D0 = some (.lst acc) ∧ RddAll K H acc ((ds.take i).flatMap f), ⟨xs.length, by simp, Nat.zero_le _, .put, [], upd_same, .nil⟩, ?_⟩
  rintro i m H ⟨rfl, hi, ho, acc, hacc, racc⟩
  have sm := same_off ho hD
  have q := Same.seq sm hT
  by_cases hlt : i < xs.length
  · obtain ⟨d, hd', rd⟩ := hR.get (List.getElem?_eq_getElem hlt)
    refine .inr ⟨⟨xs, xs[i], q, by simp [hlt]⟩, fun H => i + 1 ≤ xs.length ∧ Off D0 H1 H ∧ ∃ acc, H D0 = some (.lst acc) ∧ RddAll K H acc ((ds.take (i + 1)).flatMap f), fun H' p' => ⟨xs.length - (i + 1), by omega, rfl, p'⟩, fun x H' y => ?_⟩
    obtain ⟨e, y⟩ := y
    subst e
    have hx := y xs q
    rw [List.getElem?_eq_getElem hlt] at hx
    cases hx
    show wipe _ vs = wipe σ vs ∧ _
    refine ⟨w1 _, ?_⟩
    unfold tYes
    dsimp only
    rw [if_pos rfl]
    refine hs _ d H' _ (List.mem_of_getElem? hd') (Rdd.ex (.same sm) _ rd) sm fun b ys H4 s4 hb ry => ?_
    have lz := ry.length
    have o4 : Off D0 H1 H4 := ho.trans (.same s4)
    refine ⟨fun j k H => k = ys.length - j ∧ j ≤ ys.length ∧ Off D0 H1 H ∧ SqT K H b ys ∧ RddAll K H ys (f d) ∧ ∃ acc, H D0 = some (.lst acc) ∧ RddAll K H acc ((ds.take i).flatMap f ++ (f d).take j),
      ⟨ys.length, by simp, Nat.zero_le _, o4, hb, ry, acc, s4 _ _ hacc, by rw [List.take_zero, List.append_nil]; exact RddAll.ex (.same s4) _ racc⟩, ?_⟩
    rintro j k H ⟨rfl, hj, o5, hb5, ry5, acc5, ha5, ra5⟩
    by_cases hlt2 : j < ys.length
    · refine .inr ⟨⟨ys, ys[j], hb5, by simp [hlt2]⟩, fun H => j + 1 ≤ ys.length ∧ Off D0 H1 H ∧ SqT K H b ys ∧ RddAll K H ys (f d) ∧ ∃ acc, H D0 = some (.lst acc) ∧ RddAll K H acc ((ds.take i).flatMap f ++ (f d).take (j + 1)), fun H' p' => ⟨ys.length - (j + 1), by omega, rfl, p'⟩, fun x H' y => ?_⟩
      obtain ⟨e, y⟩ := y
      subst e
      have hx := y ys hb5
      rw [List.getElem?_eq_getElem hlt2] at hx
      cases hx
      obtain ⟨e2, he2, re2⟩ := ry5.get (List.getElem?_eq_getElem hlt2)
      show wipe _ vs1 = wipe _ vs1 ∧ _
      refine ⟨w2 _ _, ?_⟩
      have tl : acc5.length < 100000 := by
        have e3 := ra5.length
        have e4 : ((ds.take (i + 1)).flatMap f).length ≤ (ds.flatMap f).length := flat_le (i + 1)
        rw [flat_take hd', List.length_append] at e4
        rw [List.length_append, List.length_take] at e3
        omega
      dsimp only
      rw [if_pos rfl]
      refine ⟨_, g2 _ _, acc5, ha5, by omega, hlt2, o5.trans .put, ?_⟩
      have ex : Ex H' (upd H' D0 (.lst (acc5 ++ [ys[j]]))) := (Off.put (a := D0)).ex ha5 upd_same
      refine ⟨ex.tup hb5, RddAll.ex ex _ ry5, _, upd_same, ?_⟩
      rw [List.take_add_one, he2, ← List.append_assoc]
      exact (RddAll.ex ex _ ra5).app' (.cons (Rdd.ex ex _ re2) .nil)
    · have e : j = ys.length := by omega
      subst e
      refine .inl ⟨⟨ys, hb5, Nat.le_refl _⟩, hlt, o5, acc5, ha5, ?_⟩
      rw [flat_take hd']
      rw [lz, List.take_length] at ra5
      exact ra5
  · have e : i = xs.length := by omega
    subst e
    rw [len, List.take_length] at racc
    exact .inl ⟨⟨xs, q, Nat.le_refl _⟩, hd H acc sm hacc racc⟩
end Sl

set_option Elab.async false
set_option linter.all false
set_option maxRecDepth 100000
set_option maxHeartbeats 400000
/-! ## Definitions ascending by names -/
namespace Sl
open PySem PySem.Spec PyProof.Rows L2
theorem lt_irr : ∀ a : List Nat, ltCps a a = false
  | [] => rfl
  | a :: r => by
    unfold ltCps
    rw [lt_irr r]
    simp
theorem lt_tr : ∀ {a b c : List Nat}, ltCps a b = true → ltCps b c = true → ltCps a c = true
  | [], [], _, h, _ => by cases h
  | [], _ :: _, [], _, h => by cases h
  | [], _ :: _, _ :: _, _, _ => rfl
  | _ :: _, [], _, h, _ => by cases h
  | _ :: _, _ :: _, [], _, h => by cases h
  | a :: r, b :: s, c :: t, h1, h2 => by
    unfold ltCps at h1 h2 ⊢
    simp only [Bool.or_eq_true, decide_eq_true_eq, Bool.and_eq_true, beq_iff_eq] at h1 h2 ⊢
    rcases h1 with h1 | ⟨rfl, h1⟩
    · rcases h2 with h2 | ⟨rfl, h2⟩
      · exact .inl (by omega)
      · exact .inl h1
    · rcases h2 with h2 | ⟨rfl, h2⟩
      · exact .inl h2
      · exact .inr ⟨rfl, lt_tr h1 h2⟩
theorem lt_tri : ∀ {a b : List Nat}, ltCps a b = false → ltCps b a = false → a = b
  | [], [], _, _ => rfl
  | [], _ :: _, h, _ => by cases h
  | _ :: _, [], _, h => by cases h
  | a :: r, b :: s, h1, h2 => by
    unfold ltCps at h1 h2
    simp only [Bool.or_eq_false_iff, decide_eq_false_iff_not, Bool.and_eq_false_iff, beq_eq_false_iff_ne] at h1 h2
    have e : a = b := by omega
    subst e
    rcases h1.2 with h | h
    · exact absurd rfl h
    · rcases h2.2 with h' | h'
      · exact absurd rfl h'
      · rw [lt_tri h h']
def sLt (x y : Str) : Bool := ltCps x.cps.toList y.cps.toList
theorem sLt_irr (x : Str) : sLt x x = false := lt_irr _
theorem sLt_tr {x y z : Str} (h1 : sLt x y = true) (h2 : sLt y z = true) : sLt x z = true := lt_tr h1 h2
theorem sLt_tri {x y : Str} (h1 : sLt x y = false) (h2 : sLt y x = false) : x = y := by
  have e := lt_tri h1 h2
  obtain ⟨⟨a⟩⟩ := x
  obtain ⟨⟨b⟩⟩ := y
  have e' : a = b := e
  rw [e']
theorem sLt_asym {x y : Str} (h : sLt x y = true) : sLt y x = false := by
  cases e : sLt y x
  · rfl
  · have := sLt_tr h e
    rw [sLt_irr] at this
    cases this
/-- strictly ascending -/
abbrev Asc (l : List Str) : Prop := l.Pairwise fun x y => sLt x y = true
theorem asc_uniq : ∀ {l m : List Str}, Asc l → Asc m → l.Perm m → l = m
  | [], _, _, _, h => (List.Perm.eq_nil h.symm).symm
  | x :: l, [], _, _, h => absurd h.length_eq (by simp)
  | x :: l, y :: m, hl, hm, h => by
    have hl' := List.pairwise_cons.mp hl
    have hm' := List.pairwise_cons.mp hm
    by_cases e : x = y
    · subst e
      rw [asc_uniq hl'.2 hm'.2 h.cons_inv]
    · have h1 : x ∈ m := by
        rcases List.mem_cons.mp (h.mem_iff.mp (List.mem_cons_self (a := x) (l := l))) with z | z
        · exact absurd z e
        · exact z
      have h2 : y ∈ l := by
        rcases List.mem_cons.mp (h.mem_iff.mpr (List.mem_cons_self (a := y) (l := m))) with z | z
        · exact absurd z.symm e
        · exact z
      have a := hl'.1 y h2
      have b := hm'.1 x h1
      rw [sLt_asym a] at b
      cases b
theorem rising_all : ∀ (l : List Str) (p : Str), risingS p l = true → (p :: l).Pairwise fun x y => sLt y x = false
  | [], p, _ => List.pairwise_singleton _ _
  | x :: r, p, h => by
    have h' : (!ltCps x.cps.toList p.cps.toList && risingS x r) = true := h
    simp only [Bool.and_eq_true, Bool.not_eq_true'] at h'
    have ih := rising_all r x h'.2
    have h1 : sLt x p = false := h'.1
    refine List.pairwise_cons.mpr ⟨fun y hy => ?_, ih⟩
    rcases List.mem_cons.mp hy with rfl | hy
    · exact h1
    · have h2 := (List.pairwise_cons.mp ih).1 y hy
      cases e : sLt y p
      · rfl
      · exfalso
        cases e3 : sLt x y
        · have := sLt_tri e3 h2
          rw [this, e] at h1
          cases h1
        · have := sLt_tr e3 e
          rw [h1] at this
          cases this
theorem sortedS_asc {l : List Str} (h : sortedS l = true) (n : l.Nodup) : Asc l := by
  have p : l.Pairwise fun x y => sLt y x = false := by
    cases l with
    | nil => exact List.Pairwise.nil
    | cons x r => exact rising_all r x h
  refine (p.and (List.nodup_iff_pairwise_ne.mp n)).imp fun {x y} q => ?_
  cases e : sLt x y
  · exact absurd (sLt_tri e q.1) q.2
  · rfl
def insP (p : Str × D) : List (Str × D) → List (Str × D)
  | [] => [p]
  | q :: r => if sLt p.1 q.1 = true then p :: q :: r else q :: insP p r
def srtP : List (Str × D) → List (Str × D)
  | [] => []
  | p :: r => insP p (srtP r)
theorem insP_perm (p : Str × D) : ∀ l, (insP p l).Perm (p :: l)
  | [] => List.Perm.refl _
  | q :: r => by
    unfold insP
    split
    · exact List.Perm.refl _
    · exact ((insP_perm p r).cons q).trans (List.Perm.swap p q r)
theorem srtP_perm : ∀ l, (srtP l).Perm l
  | [] => List.Perm.refl _
  | p :: r => (insP_perm p (srtP r)).trans ((srtP_perm r).cons p)
theorem insP_asc {p : Str × D} : ∀ {l : List (Str × D)}, Asc (l.map (·.1)) → p.1 ∉ l.map (·.1) → Asc ((insP p l).map (·.1))
  | [], _, _ => List.pairwise_singleton _ _
  | q :: r, h, n => by
    have h' := List.pairwise_cons.mp h
    unfold insP
    split
    · rename_i e
      refine List.pairwise_cons.mpr ⟨fun y hy => ?_, h⟩
      rcases List.mem_cons.mp hy with rfl | hy
      · exact e
      · exact sLt_tr e (h'.1 y hy)
    · rename_i e
      have ne : p.1 ≠ q.1 := fun z => n (by rw [z]; exact List.mem_cons_self)
      have lt : sLt q.1 p.1 = true := by
        cases z : sLt q.1 p.1
        · exact absurd (sLt_tri (Bool.eq_false_iff.mpr e) z) ne
        · rfl
      refine List.pairwise_cons.mpr ⟨fun y hy => ?_, insP_asc h'.2 fun z => n (List.mem_cons_of_mem _ z)⟩
      obtain ⟨u, hu, rfl⟩ := List.mem_map.mp hy
      rcases List.mem_cons.mp ((insP_perm p r).mem_iff.mp hu) with rfl | hu
      · exact lt
      · exact h'.1 _ (List.mem_map.mpr ⟨u, hu, rfl⟩)
theorem srtP_asc : ∀ {l : List (Str × D)}, (l.map (·.1)).Nodup → Asc ((srtP l).map (·.1))
  | [], _ => List.Pairwise.nil
  | p :: r, h => by
    have h' := List.nodup_cons.mp h
    refine insP_asc (srtP_asc h'.2) fun z => h'.1 ?_
    exact ((srtP_perm r).map (·.1)).mem_iff.mp z
/-- what sorted gives of the names -/
theorem srt_names {l : List (Str × D)} {ys : List Str} (h : (l.map (·.1)).Nodup) (hp : ys.Perm (l.map (·.1))) (hs : sortedS ys = true) : ys = (srtP l).map (·.1) :=
  asc_uniq (sortedS_asc hs (hp.nodup_iff.mpr h)) (srtP_asc h) (hp.trans ((srtP_perm l).map (·.1)).symm)
/-- two lists of pairs with the same items are sorted alike -/
theorem srtP_uniq {l m : List (Str × D)} (h : (l.map (·.1)).Nodup) (p : l.Perm m) : srtP l = srtP m := by
  have hm : (m.map (·.1)).Nodup := (p.map (·.1)).nodup_iff.mp h
  have e : (srtP l).map (·.1) = (srtP m).map (·.1) := asc_uniq (srtP_asc h) (srtP_asc hm) ((((srtP_perm l).trans p).trans (srtP_perm m).symm).map (·.1))
  have q : (srtP l).Perm (srtP m) := ((srtP_perm l).trans p).trans (srtP_perm m).symm
  have key : ∀ (a b : List (Str × D)), a.map (·.1) = b.map (·.1) → (a.map (·.1)).Nodup → a.Perm b → a = b := by
    intro a
    induction a with
    | nil => intro b _ _ hp; exact (List.Perm.eq_nil hp.symm).symm
    | cons x a ih =>
      intro b e n hp
      cases b with
      | nil => exact absurd hp.length_eq (by simp)
      | cons y b =>
        have e1 : x.1 = y.1 := (List.cons.inj e).1
        have n' := List.nodup_cons.mp n
        have e2 : x = y := by
          rcases List.mem_cons.mp (hp.mem_iff.mpr (List.mem_cons_self (a := y) (l := b))) with z | z
          · exact z.symm
          · exact absurd (List.mem_map.mpr ⟨y, z, e1.symm⟩) n'.1
        subst e2
        rw [ih b (List.cons.inj e).2 n'.2 hp.cons_inv]
  exact key _ _ e (((srtP_perm l).map (·.1)).nodup_iff.mpr h) q
/-! ### an open term with all definitions ascending -/
def srt3 (f : D → D) (s : Str) (b c : D) : D :=
  if s = "word" then .tup [.str s, b, .tup (c.items.map f)] else if s = "fun" then .tup [.str s, b, f c] else .tup [.str s, .tup (mkPs (srtP (b.items.map fun d => (d.fst, f d.snd)))), f c]
def srtD : Nat → D → D
  | 0, d => d
  | n + 1, d => match d with
    | .tup [.str s, b, c] => srt3 (srtD n) s b c
    | d => d
theorem srt_U (n : Nat) (x : Str) : srtD (n + 1) (mkU x) = mkU x := rfl
theorem srt_W (n : Nat) (x : Str) (l : List D) : srtD (n + 1) (mkW x l) = mkW x (l.map (srtD n)) := by
  show srt3 (srtD n) "word" (.str x) (.tup l) = _
  unfold srt3
  rw [if_pos rfl]
  rfl
theorem srt_F (n : Nat) (x : Str) (b : D) : srtD (n + 1) (mkF x b) = mkF x (srtD n b) := by
  show srt3 (srtD n) "fun" (.str x) b = _
  unfold srt3
  rw [if_neg ne_wf, if_pos rfl]
  rfl
theorem srt_L (n : Nat) (ps : List (Str × D)) (b : D) : srtD (n + 1) (mkL ps b) = mkL (srtP (ps.map fun p => (p.1, srtD n p.2))) (srtD n b) := by
  show srt3 (srtD n) "let" (.tup (mkPs ps)) b = _
  unfold srt3
  rw [if_neg ne_wl, if_neg ne_fl]
  show D.tup [.str "let", .tup (mkPs (srtP ((mkPs ps).map fun d => (d.fst, srtD n d.snd)))), srtD n b] = _
  have e : (mkPs ps).map (fun d => (d.fst, srtD n d.snd)) = ps.map fun p => (p.1, srtD n p.2) := by
    unfold mkPs
    rw [List.map_map]
    rfl
  rw [e]
  rfl
theorem defOk_perm {l m : List (Str × D)} (p : l.Perm m) (h : DefOk m) : DefOk l :=
  ⟨by rw [p.length_eq]; exact h.1, by rw [p.length_eq]; exact h.2.1, fun x hx => h.2.2.1 x (p.mem_iff.mp hx), (p.map (·.1)).nodup_iff.mpr h.2.2.2⟩
theorem defOk_map {l : List (Str × D)} (f : D → D) (h : DefOk l) : DefOk (l.map fun p => (p.1, f p.2)) := by
  refine ⟨by rw [List.length_map]; exact h.1, by rw [List.length_map]; exact h.2.1, fun x hx => ?_, ?_⟩
  · obtain ⟨y, hy, rfl⟩ := List.mem_map.mp hx
    exact h.2.2.1 y hy
  · rw [List.map_map]
    exact h.2.2.2
theorem cnt_U (n : Nat) (x : Str) : cnt (n + 1) (mkU x) = 1 := rfl
theorem cnt_s (n : Nat) (d : D) : cnt (n + 1) d = 1 + ((inn d).map (cnt n)).sum := rfl
theorem OpN.s {n : Nat} {d : D} : OpN (n + 1) d ↔ (built d = true ∧ (inn d).length ≤ 4) ∧ ∀ e ∈ inn d, OpN n e := Iff.rfl
theorem srt_ok : ∀ (n : Nat) (d : D), OpN n d → OpN n (srtD n d) ∧ cnt n (srtD n d) = cnt n d
  | 0, _, h => h.elim
  | n + 1, d, h => by
    have map_sum : ∀ l : List D, (∀ e ∈ l, OpN n e) → ((l.map (srtD n)).map (cnt n)).sum = (l.map (cnt n)).sum := by
      intro l
      induction l with
      | nil => exact fun _ => rfl
      | cons x l ih =>
        intro hl
        rw [List.map_cons, List.map_cons, List.sum_cons, List.map_cons, List.sum_cons, (srt_ok n x (hl x List.mem_cons_self)).2, ih fun y hy => hl y (List.mem_cons_of_mem _ hy)]
    obtain ⟨⟨hb, hw⟩, hi⟩ := OpN.s.mp h
    rcases built_cases hb with ⟨x, rfl, hx⟩ | ⟨x, l, rfl, hx, hl⟩ | ⟨x, b, rfl, hx⟩ | ⟨ps, b, rfl, hp⟩
    · exact ⟨h, rfl⟩
    · rw [srt_W]
      rw [inn_W] at hi hw
      refine ⟨OpN.s.mpr ⟨⟨?_, by rw [inn_W, List.length_map]; exact hw⟩, fun e he => ?_⟩, ?_⟩
      · rw [built_W, hx, List.length_map, decide_eq_true hl]
        rfl
      · rw [inn_W] at he
        obtain ⟨y, hy, rfl⟩ := List.mem_map.mp he
        exact (srt_ok n y (hi y hy)).1
      · rw [cnt_s, cnt_s, inn_W, inn_W, map_sum l hi]
    · rw [srt_F]
      rw [inn_F] at hi
      have h1 := srt_ok n b (hi b (List.mem_singleton.mpr rfl))
      refine ⟨OpN.s.mpr ⟨⟨?_, by rw [inn_F]; simp⟩, fun e he => ?_⟩, ?_⟩
      · rw [built_F]
        exact hx
      · rw [inn_F] at he
        rw [List.mem_singleton.mp he]
        exact h1.1
      · rw [cnt_s, cnt_s, inn_F, inn_F, List.map_singleton, List.map_singleton, h1.2]
    · rw [srt_L]
      rw [inn_L] at hi hw
      have hq := srtP_perm (ps.map fun p => (p.1, srtD n p.2))
      have hb' := srt_ok n b (hi b (List.mem_append_right _ (List.mem_singleton.mpr rfl)))
      have e2 : ((ps.map fun p => (p.1, srtD n p.2)).map fun p => p.2) = (ps.map (·.2)).map (srtD n) := by
        rw [List.map_map, List.map_map]
        rfl
      have hps : ∀ e ∈ ps.map (·.2), OpN n e := fun e he => hi e (List.mem_append_left _ he)
      refine ⟨OpN.s.mpr ⟨⟨built_L.mpr (defOk_perm hq (defOk_map _ hp)), ?_⟩, fun e he => ?_⟩, ?_⟩
      · rw [inn_L, List.length_append, List.length_map, hq.length_eq, List.length_map]
        rw [List.length_append, List.length_map] at hw
        exact hw
      · rw [inn_L] at he
        rcases List.mem_append.mp he with he | he
        · have he2 := (hq.map (·.2)).mem_iff.mp he
          rw [e2] at he2
          obtain ⟨y, hy, rfl⟩ := List.mem_map.mp he2
          exact (srt_ok n y (hps y hy)).1
        · rw [List.mem_singleton.mp he]
          exact hb'.1
      · rw [cnt_s, cnt_s, inn_L, inn_L, List.map_append, List.map_append, List.sum_append, List.sum_append, List.map_singleton, List.map_singleton, hb'.2]
        have e3 : (((srtP (ps.map fun p => (p.1, srtD n p.2))).map (·.2)).map (cnt n)).sum = ((ps.map (·.2)).map (cnt n)).sum := by
          rw [((hq.map (·.2)).map (cnt n)).sum_nat, e2]
          exact map_sum _ hps
        rw [e3]
def wide : Nat → Nat
  | 0 => 0
  | n + 1 => 1 + 4 * wide n
theorem cnt_le : ∀ (n : Nat) (d : D), OpN n d → cnt n d ≤ wide n
  | 0, _, h => h.elim
  | n + 1, d, h => by
    obtain ⟨⟨_, hw⟩, hi⟩ := OpN.s.mp h
    have key : ∀ l : List D, (∀ e ∈ l, OpN n e) → (l.map (cnt n)).sum ≤ l.length * wide n := by
      intro l
      induction l with
      | nil => exact fun _ => Nat.zero_le _
      | cons x l ih =>
        intro hl
        have h1 := cnt_le n x (hl x List.mem_cons_self)
        have h2 := ih fun y hy => hl y (List.mem_cons_of_mem _ hy)
        rw [List.map_cons, List.sum_cons, List.length_cons, Nat.succ_mul]
        omega
    have h1 := key _ hi
    have h2 : (inn d).length * wide n ≤ 4 * wide n := Nat.mul_le_mul_right _ hw
    rw [cnt_s]
    show _ ≤ 1 + 4 * wide n
    omega
theorem wide_le {n m : Nat} (h : n ≤ m) : wide n ≤ wide m := by
  induction h with
  | refl => exact Nat.le_refl _
  | step _ ih =>
    refine Nat.le_trans ih ?_
    show _ ≤ 1 + 4 * _
    omega
end Sl

set_option Elab.async false
set_option linter.all false
set_option maxRecDepth 100000
set_option maxHeartbeats 400000
namespace Sl
open PySem PySem.Spec PyProof.Rows L2
open PySem PySem.Spec PyProof.Rows L2
def topT (i : Nat) : Stmt := PySem.Challenge.pw_sharedlets_k11_whole_which_nodes_are_gra.main.body.getD i (.Pass ⟨0, 0, 0, 0⟩)
abbrev sName : Stmt := topT 14
theorem scName : FnScope ["value"] ["value"] (defScope sName) := ⟨rfl, rfl, rfl, by decide +kernel, rfl, by decide +kernel, by decide +kernel⟩
/-- built-ins that the module leaves alone -/
structure Bt (mg : Str → Option Value) : Prop where
  isi : mg "isinstance" = none
  str : mg "str" = none
  tuple : mg "tuple" = none
  dict : mg "dict" = none
  len : mg "len" = none
  all : mg "all" = none
  set : mg "set" = none
  range : mg "range" = none
  sorted : mg "sorted" = none
  list : mg "list" = none
  int : mg "int" = none
  abs : mg "abs" = none
  max : mg "max" = none
  min : mg "min" = none
  repr : mg "repr" = none
  zip : mg "zip" = none
  enum : mg "enumerate" = none
def signs : List V := [.str "fun", .str "let", .str "in"]
theorem isA_str (d : D) : isA "str" d = match d with | .str _ => true | _ => false := by
  cases d
  · exact (by decide +kernel : isT "NoneType" "str" = false)
  · exact (by decide +kernel : isT "bool" "str" = false)
  · exact (by decide +kernel : isT "int" "str" = false)
  · exact (by decide +kernel : isT "str" "str" = true)
  · exact (by decide +kernel : isT "tuple" "str" = false)
  · exact (by decide +kernel : isT "list" "str" = false)
  · exact (by decide +kernel : isT "dict" "str" = false)
theorem bfalse {b : Bool} (h : ¬ b = true) : b = false := by
  cases b
  · rfl
  · exact absurd rfl h
theorem inV_signs (x : Str) : inV (.str x) signs = (x == "fun" || x == "let" || x == "in") := by
  have e : ∀ y : Str, eqV (.str y) (.str x) = (x == y) := fun y => by
    show (y == x) = (x == y)
    by_cases h : x = y
    · rw [h]
    · rw [beq_eq_false_iff_ne.mpr h, beq_eq_false_iff_ne.mpr fun z => h z.symm]
  unfold inV signs
  simp only [List.any_cons, List.any_nil, e, Bool.or_false, Bool.or_assoc]
section
variable {P : Program} {w : World} {K : PySem.W.Frag} {mg : Str → Option Value} {base : Heap}
/-- what the module's top holds -/
structure Tops (K : PySem.W.Frag) (mg : Str → Option Value) : Prop where
  letters : ∃ t, mg "MAX_LETTERS" = some (.int 8 t)
  terms : ∃ t, mg "MAX_TERMS" = some (.int 3 t)
  nodes : ∃ t, mg "MAX_NODES" = some (.int 100 t)
  sw : ∃ a, mg "SIGN_WORDS" = some (.ref a) ∧ ∀ H : Hp, SqT K H a signs
def spName (K : PySem.W.Frag) : Sp := fun vs H Q _ => ∃ v d, vs = [v] ∧ Rdd K H v d ∧ d.small = true ∧ Q (.bl d.isName) H
theorem ok_name {f : Addr} {fd : FuncData} (F : Fun K "is_name" "is_name" sName f fd) (T : Tops K mg) (B : Bt mg) : FnOk P w K mg base CX0 1 f fd ["value"] (spName K) := by
  refine F.ok scName (fun vs H Q E h => ?_) (fun cdv A outer s H vs Q E hr h => ?_)
  · obtain ⟨v, d, rfl, _⟩ := h
    rfl
  · obtain ⟨v, d, rfl, hv, hz, q⟩ := h
    obtain ⟨t8, g8⟩ := T.letters
    obtain ⟨aS, gS, hS⟩ := T.sw
    refine ⟨_, (pss_cons (ps_if (PW.pt (pw_or (pt_not (pt_val (pe_callB call_isi (by rfl) B.isi (by decide +kernel) (pa_cons (pv 0) (pa_cons (pe_bltn (v := .ty "str") (by rfl) B.str (by decide +kernel) rfl) pa_nil)))))
          (pw_or1 (pt_not (pt_chain op_le op_le pe_int (pe_callB call_len_str (by rfl) B.len PySem.boot_len (pa_cons (pv 0) pa_nil)) (pe_glob (v := .int 8) (by rfl) g8 ⟨_, rfl⟩))))))
        (pss_one (ps_ret pe_bl)) pss_nil)
      (pss_one (ps_ret (pe_and (pe_m0 PySem.F.slot_str_isascii PySem.F.type_str_isascii mt_isascii (pv 0)) (pe_and (pe_m0 PySem.F.slot_str_isalpha PySem.F.type_str_isalpha mt_isalpha (pv 0)) (pe_and (pe_m0 PySem.F.slot_str_islower PySem.F.type_str_islower mt_islower (pv 0))
        (pe_one (pe_cmpR op_notIn_seq (pv 0) (pe_glob (v := .ref aS) (by rfl) gS rfl) (by rfl))))))))), ?_⟩
    refine ⟨v, rfl, v, .ty "str", _, _, isA "str" d, rfl, .ty _, hv.ty, kit_isA (by decide +kernel), isA "str" d, rfl, ?_⟩
    rw [isA_str]
    cases hv with
    | str x =>
      have hz' : x.length ≤ 1000 := of_decide_eq_true hz
      have sl := sizeLine_eq
      refine iteF ⟨.str x, rfl, x, rfl, by omega, _, _, rfl, rfl, _, rfl, ?_⟩
      have eN : (D.str x).isName = (decide (1 ≤ x.length ∧ x.length ≤ 8) && nmTail x) := rfl
      rw [eN] at q
      refine ite2 (fun e1 => ⟨_, _, rfl, rfl, _, rfl, ite2 (fun e2 => ?_) (fun e2 => ?_)⟩) (fun e1 => ?_)
      · have h2 : ¬ x.length ≤ 8 := fun z => by
          rw [decide_eq_true (show (x.length : Int) ≤ 8 by omega)] at e2
          cases e2
        rw [decide_eq_false (fun z => h2 z.2), Bool.false_and] at q
        exact q
      · have h1 : 1 ≤ x.length := by
          have := of_decide_eq_true e1
          omega
        have h2 : x.length ≤ 8 := by
          by_cases h : x.length ≤ 8
          · exact h
          · rw [decide_eq_false (show ¬ (x.length : Int) ≤ 8 by omega)] at e2
            exact absurd rfl e2
        rw [decide_eq_true ⟨h1, h2⟩, Bool.true_and] at q
        unfold nmTail at q
        refine ⟨.str x, rfl, ⟨x, rfl⟩, x, rfl, rfl, trivial, _, rfl, ite2 (fun a1 => ?_) (fun a1 => ?_)⟩
        · rw [a1, Bool.true_and] at q
          refine ⟨.str x, rfl, ⟨x, rfl⟩, x, rfl, rfl, trivial, _, rfl, ite2 (fun a2 => ?_) (fun a2 => ?_)⟩
          · rw [a2, Bool.true_and] at q
            refine ⟨.str x, rfl, ⟨x, rfl⟩, x, rfl, rfl, trivial, _, rfl, ite2 (fun a3 => ?_) (fun a3 => ?_)⟩
            · rw [a3, Bool.true_and] at q
              refine ⟨.str x, rfl, aS, signs, rfl, .inr (hS H), rfl, rfl, ?_⟩
              rw [if_pos rfl, inV_signs]
              exact q
            · rw [bfalse a3, Bool.false_and] at q
              exact q
          · rw [bfalse a2, Bool.false_and] at q
            exact q
        · rw [bfalse a1, Bool.false_and] at q
          exact q
      · have h1 : ¬ 1 ≤ x.length := fun z => e1 (decide_eq_true (show (1 : Int) ≤ x.length by omega))
        rw [decide_eq_false (fun z => h1 z.1), Bool.false_and] at q
        exact ⟨_, rfl, iteT q⟩
    | _ => exact iteT q
end
theorem RddAll.at {K : PySem.W.Frag} {H : Hp} {vs : List V} {ds : List D} {i : Nat} {d : D} (h : RddAll K H vs ds) (hd : ds[i]? = some d) : ∃ v, vs[i]? = some v ∧ Rdd K H v d := by
  have hi : i < ds.length := (List.getElem?_eq_some_iff.mp hd).1
  have hl := h.length
  have e : vs[i]? = some (vs[i]'(by omega)) := List.getElem?_eq_getElem (by omega)
  obtain ⟨d2, h2, r⟩ := h.get e
  rw [hd] at h2
  cases h2
  exact ⟨_, e, r⟩
theorem two_of {α : Type} {xs : List α} (h : xs.length = 2) : ∃ x y, xs = [x, y] := by
  match xs, h with
  | [x, y], _ => exact ⟨x, y, rfl⟩
theorem three_of {α : Type} {xs : List α} (h : xs.length = 3) : ∃ x y z, xs = [x, y, z] := by
  match xs, h with
  | [x, y, z], _ => exact ⟨x, y, z, rfl⟩
theorem RddAll.two {K : PySem.W.Frag} {H : Hp} {x y : V} {ds : List D} (h : RddAll K H [x, y] ds) : ∃ p t, ds = [p, t] ∧ Rdd K H x p ∧ Rdd K H y t := by
  cases h with
  | cons h1 h2 =>
    cases h2 with
    | cons h3 h4 =>
      cases h4
      exact ⟨_, _, rfl, h1, h3⟩
theorem RddAll.pair {K : PySem.W.Frag} {H : Hp} {xs : List V} {p t : D} (h : RddAll K H xs [p, t]) : ∃ x y, xs = [x, y] ∧ Rdd K H x p ∧ Rdd K H y t := by
  cases h with
  | cons h1 h2 =>
    cases h2 with
    | cons h3 h4 =>
      cases h4
      exact ⟨_, _, rfl, h1, h3⟩
theorem RddAll.trip {K : PySem.W.Frag} {H : Hp} {xs : List V} {p t u : D} (h : RddAll K H xs [p, t, u]) : ∃ x y z, xs = [x, y, z] ∧ Rdd K H x p ∧ Rdd K H y t ∧ Rdd K H z u := by
  cases h with
  | cons h1 h2 =>
    cases h2 with
    | cons h3 h4 =>
      cases h4 with
      | cons h5 h6 =>
        cases h6
        exact ⟨_, _, _, rfl, h1, h3, h5⟩
theorem Rdd.tupd' {K : PySem.W.Frag} {H : Hp} {v : V} {ds : List D} (h : Rdd K H v (.tup ds)) : ∃ a xs, v = .ref a ∧ SqT K H a xs ∧ RddAll K H xs ds ∧ ds.length ≤ 100000 := by
  cases h with
  | tup hs ha hz => exact ⟨_, _, rfl, hs, ha, hz⟩
theorem Rdd.strd {K : PySem.W.Frag} {H : Hp} {v : V} {x : Str} (h : Rdd K H v (.str x)) : v = .str x := by
  cases h
  rfl
theorem pair_of {d : D} (h : d.pair = true) : ∃ x b, d = .tup [.str x, b] ∧ nmOk x = true := by
  unfold D.pair at h
  split at h
  · rename_i a b
    unfold D.isName at h
    split at h
    · rename_i x
      exact ⟨x, b, rfl, h⟩
    · cases h
  · cases h
theorem fm_fst : ∀ l : List D, (l.map fun d => some (V.str d.fst)).filterMap id = (l.map D.fst).map V.str
  | [] => rfl
  | d :: ds => by
    rw [List.map_cons, List.map_cons, List.map_cons, ← fm_fst ds]
    rfl
theorem str_dec (x y : Str) : decide (V.str x = V.str y) = decide (x = y) := decide_eq_decide.mpr ⟨fun h => V.str.inj h, fun h => by rw [h]⟩
theorem int_dec (x y : Int) : decide (V.int x = V.int y) = decide (x = y) := decide_eq_decide.mpr ⟨fun h => V.int.inj h, fun h => by rw [h]⟩
theorem in23 (n : Nat) : inV (.int n) [V.int 2, .int 3] = decide (n = 2 ∨ n = 3) := by
  have e : ∀ m : Int, eqV (.int m) (.int n) = decide ((n : Int) = m) := fun m => by
    show (m == (n : Int)) = _
    by_cases h : (n : Int) = m
    · rw [decide_eq_true h, h]
      exact beq_self_eq_true m
    · rw [decide_eq_false h]
      exact beq_eq_false_iff_ne.mpr fun z => h z.symm
  unfold inV
  simp only [List.any_cons, List.any_nil, e, Bool.or_false]
  by_cases h2 : n = 2
  · rw [decide_eq_true (show (n : Int) = 2 by omega), decide_eq_true (Or.inl h2), Bool.true_or]
  · rw [decide_eq_false (show ¬ (n : Int) = 2 by omega), Bool.false_or]
    exact decide_eq_decide.mpr ⟨fun z => .inr (by omega), fun z => by omega⟩
theorem built_not {l : List D} (h : ¬ (l.length = 2 ∨ l.length = 3)) : built (.tup l) = false := by
  unfold built
  split
  · rename_i e
    cases e
    exact absurd (Or.inl rfl) h
  · rename_i e
    cases e
    exact absurd (Or.inr rfl) h
  · rfl
theorem fm_snd : ∀ l : List V, (l.map some).filterMap id = l
  | [] => rfl
  | d :: ds => by
    rw [List.map_cons]
    show d :: (ds.map some).filterMap id = _
    rw [fm_snd ds]
theorem nwn : ¬ (("word" : Str)) = "name" := by decide +kernel
theorem nfn : ¬ (("fun" : Str)) = "name" := by decide +kernel
theorem nln : ¬ (("let" : Str)) = "name" := by decide +kernel
theorem nwc : ¬ (("word" : Str)) = "call" := by decide +kernel
theorem nfc : ¬ (("fun" : Str)) = "call" := by decide +kernel
theorem nlc : ¬ (("let" : Str)) = "call" := by decide +kernel
theorem RddAll.app {K : PySem.W.Frag} {H : Hp} : ∀ {xs ys : List V} {ds es : List D}, RddAll K H xs ds → RddAll K H ys es → RddAll K H (xs ++ ys) (ds ++ es)
  | _, _, _, _, .nil, h => h
  | _, _, _, _, .cons a b, h => .cons a (b.app h)
/-- the values of the definitions' terms -/
theorem RddAll.snds {K : PySem.W.Frag} {H : Hp} : ∀ {ps : List (Str × D)} {xs : List V}, RddAll K H xs (mkPs ps) → ∃ us : List V, RddAll K H us (ps.map (·.2)) ∧ us.length = xs.length ∧
    ∀ (i : Nat) (x : V), xs[i]? = some x → ∃ (a : Addr) (y : Str) (u : V), x = V.ref a ∧ SqT K H a [V.str y, u] ∧ us[i]? = some u ∧ (ps.map (·.1))[i]? = some y
  | [], _, h => by
    cases h
    exact ⟨[], .nil, rfl, fun i x e => by simp at e⟩
  | p :: ps, _, h => by
    cases h with
    | @cons v vs d ds h1 h2 =>
      obtain ⟨us, r, l, at'⟩ := RddAll.snds (ps := ps) h2
      obtain ⟨a, ys, rfl, hs, hy, _⟩ := h1.tupd'
      obtain ⟨x, u, rfl, rx, ru⟩ := hy.pair
      cases rx
      refine ⟨u :: us, .cons ru r, by rw [List.length_cons, List.length_cons, l], fun i x e => ?_⟩
      cases i with
      | zero =>
        have e' := Option.some.inj e
        subst e'
        exact ⟨a, p.1, u, rfl, hs, rfl, rfl⟩
      | succ i => exact at' i x e
def spInn (K : PySem.W.Frag) : Sp := fun vs H Q _ => ∃ v d, vs = [v] ∧ Rdd K H v d ∧ built d = true ∧ ∀ r H', Same H H' → Rdd K H' r (.tup (inn d)) → Q r H'
theorem fm_built : ∀ l : List D, (l.map fun d => some (V.bl (built d))).filterMap id = (l.map built).map V.bl
  | [] => rfl
  | d :: ds => by
    rw [List.map_cons, List.map_cons, List.map_cons, ← fm_built ds]
    rfl
/-- as lcT, over a list -/
theorem lcL {K : PySem.W.Frag} {a : Addr} {xs : List V} {g : TG} {tt : TT} {te : TE} {vs : List Nat} {σ : L2.St} {H1 : Hp} {D : Addr} {Qd : Hp → Prop} (ys : List (Option V)) (hlen : ys.length = xs.length) (hz : xs.length ≤ 100000) (hT : SqL K H1 a xs) (hD : H1 D = none)
    (hs : ∀ (i : Nat) (x : V) (H : Hp) (Q : VK) (Z : Hp → Prop), xs[i]? = some x → Same H1 H → (∀ y H', ys[i]? = some (some y) → Same H H' → Q y H') → (∀ H', ys[i]? = some none → Same H H' → Z H') →
      g x (wipe σ vs) H fun σ2 H2 => wipe σ2 vs = wipe σ vs ∧ tt σ2 H2 fun b H3 => if b = true then te σ2 H3 Q else Z H3)
    (hd : ∀ H, Same H1 H → H D = some (.lst (ys.filterMap id)) → Qd H) :
    ∃ W : Nat → Nat → Hp → Prop, (∃ m, W 0 m (upd H1 D (.lst []))) ∧ ∀ i m H, W i m H →
      ((Itl K a).stop i H ∧ Qd H) ∨ ((Itl K a).go i H ∧ ∃ Nx : Hp → Prop, (∀ H', Nx H' → ∃ m', m' < m ∧ W (i + 1) m' H') ∧ ∀ x H', (Itl K a).yld i H x H' → g x (wipe σ vs) H' fun σ2 H2 => wipe σ2 vs = wipe σ vs ∧ tt σ2 H2 fun b H3 =>
        if b = true then te σ2 H3 fun y H4 => ∃ acc, H4 D = some (.lst acc) ∧ acc.length < sizeLine ∧ Nx (upd H4 D (.lst (acc ++ [y]))) else Nx H3) := by
  have short : ∀ i, ((ys.take i).filterMap id).length < sizeLine := fun i => by
    have h1 := List.length_filterMap_le id (ys.take i)
    have h2 : (ys.take i).length ≤ ys.length := by rw [List.length_take]; omega
    have h3 := sizeLine_eq
    omega
  refine lc_list (fun i H => Off D H1 H ∧ H D = some (.lst ((ys.take i).filterMap id))) ⟨.put, upd_same⟩ (fun i H _ ⟨h, _⟩ => Same.seq (same_off h hD) hT) (fun i x H hx ⟨ho, hl⟩ => ?_) (fun H ⟨ho, hl⟩ => ?_)
  · refine hs i x H _ _ hx (same_off ho hD) (fun y H' hy sm => ⟨_, sm _ _ hl, short i, (ho.trans (.same sm)).trans .put, ?_⟩) (fun H' hy sm => ⟨ho.trans (.same sm), ?_⟩)
    · rw [upd_same, List.take_add_one, hy, List.filterMap_append]
      rfl
    · rw [sm _ _ hl, List.take_add_one, hy, List.filterMap_append]
      simp
  · refine hd H (same_off ho hD) ?_
    rw [hl, ← hlen, List.take_length]
/-- an open term of the program's own limits -/
def Okd (d : D) : Prop := ∃ n, n ≤ 120 ∧ OpN n d ∧ cnt n d ≤ 500
theorem Okd.open {d : D} (h : Okd d) : isOpen d = true := by
  obtain ⟨n, h1, h2, h3⟩ := h
  exact isOpen_of h2 h1 h3
theorem Okd.hd {d : D} (h : Okd d) : ∀ k, HdN k d := by
  obtain ⟨n, h1, h2, h3⟩ := h
  exact h2.hd
theorem tup_val {K : PySem.W.Frag} {H : Hp} {p : Addr} {xs : List V} {ds : List D} (hp : H p = some (.tup xs)) (h : RddAll K H xs ds) (hz : ds.length ≤ 100000) : Rdd K H (.ref p) (.tup ds) := .tup (SqT.of hp) h hz
end Sl

set_option Elab.async false
set_option linter.all false
set_option maxRecDepth 100000
set_option maxHeartbeats 400000
/-! ## Graphs as data -/
namespace Sl
open PySem PySem.Spec PyProof.Rows L2
inductive GN where
  | W (x : Str) (cs : List Nat)
  | F (c : Nat)
  | V (f : Nat)
def iD (l : List Nat) : List D := l.map fun i => D.int (i : Nat)
def ndD : GN → D
  | .W x cs => .tup [.str "word", .str x, .tup (iD cs)]
  | .F c => .tup [.str "fun", .int (c : Nat)]
  | .V f => .tup [.str "var", .int (f : Nat)]
def gk : GN → List Nat
  | .W _ cs => cs
  | .F c => [c]
  | .V _ => []
def GN.isV : GN → Bool
  | .V _ => true
  | _ => false
def GN.isF : GN → Bool
  | .F _ => true
  | _ => false
/-- the children of the i-th node -/
def kd (ns : List GN) (i : Nat) : List Nat := match ns[i]? with
  | some g => gk g
  | none => []
/-- a node within n nodes -/
def NdOk (ns : List GN) : GN → Prop
  | .W x cs => nmOk x = true ∧ cs.length ≤ 3 ∧ ∀ c ∈ cs, c < ns.length
  | .F c => c < ns.length
  | .V f => ∃ c, ns[f]? = some (.F c)
/-- the variables: (function, variable), by number -/
def vrs (ns : List GN) : List (Nat × Nat) := (List.range ns.length).filterMap fun i => match ns[i]? with
  | some (GN.V f) => some (f, i)
  | _ => none
def GN.own : GN → Option Nat
  | .V f => some f
  | _ => none
/-- the functions that have a variable -/
def own (ns : List GN) : List Nat := ns.filterMap GN.own
structure GOk (ns : List GN) : Prop where
  pos : 0 < ns.length
  all : ∀ g ∈ ns, NdOk ns g
  one : (own ns).Nodup
theorem own_inj : ∀ {ns : List GN} {v v' f : Nat}, (own ns).Nodup → ns[v]? = some (.V f) → ns[v']? = some (.V f) → v = v'
  | [], v, _, _, _, h, _ => by simp at h
  | g :: ns, 0, 0, _, _, _, _ => rfl
  | g :: ns, 0, v' + 1, f, nd, h, h' => by
    cases h
    have e : own (GN.V f :: ns) = f :: own ns := rfl
    rw [e] at nd
    refine absurd ?_ (List.nodup_cons.mp nd).1
    exact List.mem_filterMap.mpr ⟨.V f, List.mem_of_getElem? (i := v') (by simpa using h'), rfl⟩
  | g :: ns, v + 1, 0, f, nd, h, h' => by
    cases h'
    have e : own (GN.V f :: ns) = f :: own ns := rfl
    rw [e] at nd
    refine absurd ?_ (List.nodup_cons.mp nd).1
    exact List.mem_filterMap.mpr ⟨.V f, List.mem_of_getElem? (i := v) (by simpa using h), rfl⟩
  | g :: ns, v + 1, v' + 1, f, nd, h, h' => by
    have nd' : (own ns).Nodup := by
      unfold own at nd ⊢
      rw [List.filterMap_cons] at nd
      split at nd
      · exact nd
      · exact (List.nodup_cons.mp nd).2
    exact congrArg (· + 1) (own_inj (ns := ns) (f := f) nd' (by simpa using h) (by simpa using h'))
theorem kd_at {ns : List GN} {i : Nat} {g : GN} (h : ns[i]? = some g) : kd ns i = gk g := by
  unfold kd
  rw [h]
theorem kd_lt {ns : List GN} (ok : ∀ g ∈ ns, NdOk ns g) {i c : Nat} (h : c ∈ kd ns i) : i < ns.length ∧ c < ns.length := by
  unfold kd at h
  split at h
  · rename_i g e
    refine ⟨(List.getElem?_eq_some_iff.mp e).1, ?_⟩
    have := ok g (List.mem_of_getElem? e)
    cases g with
    | W x cs => exact this.2.2 c h
    | F d =>
      rw [List.mem_singleton.mp h]
      exact this
    | V f => cases h
  · cases h
theorem mem_vrs {ns : List GN} {f v : Nat} : (f, v) ∈ vrs ns ↔ ns[v]? = some (.V f) := by
  unfold vrs
  rw [List.mem_filterMap]
  constructor
  · rintro ⟨i, hi, e⟩
    split at e
    · rename_i g h
      cases e
      exact h
    · cases e
  · intro h
    exact ⟨v, List.mem_range.mpr (List.getElem?_eq_some_iff.mp h).1, by rw [h]⟩
/-! ### who needs a function: from i the variable v can be reached without f -/
inductive Nd (ns : List GN) (f v : Nat) : Nat → Prop
  | var : Nd ns f v v
  | up {i c : Nat} : Nd ns f v c → c ∈ kd ns i → i ≠ f → Nd ns f v i
/-! ### first walks -/
inductive FW (k : Nat → List Nat) : List Nat → List Nat → List Nat → Prop
  | nil {m : List Nat} : FW k m [] m
  | old {m st o : List Nat} {s : Nat} : s ∈ m → FW k m st o → FW k m (s :: st) o
  | new {m st o : List Nat} {s : Nat} : s ∉ m → FW k (m ++ [s]) (k s ++ st) o → FW k m (s :: st) o
theorem FW.det {k : Nat → List Nat} {m st o o' : List Nat} (h : FW k m st o) (h' : FW k m st o') : o = o' := by
  induction h generalizing o' with
  | nil => cases h'; rfl
  | old hs _ ih =>
    cases h' with
    | old _ r => exact ih r
    | new ns _ => exact absurd hs ns
  | new hs _ ih =>
    cases h' with
    | old q _ => exact absurd q hs
    | new _ r => exact ih r
theorem FW.map {k k' : Nat → List Nat} {ρ : Nat → Nat} {m st o : List Nat} (h : FW k m st o) (inj : ∀ a b, a ∈ o → b ∈ o → ρ a = ρ b → a = b) (hk : ∀ a ∈ o, k' (ρ a) = (k a).map ρ) : (∀ a ∈ m, a ∈ o) ∧ (∀ a ∈ st, a ∈ o) ∧ FW k' (m.map ρ) (st.map ρ) (o.map ρ) := by
  induction h with
  | nil => exact ⟨fun a h => h, fun a h => (by cases h), .nil⟩
  | @old m st o s hs _ ih =>
    obtain ⟨i1, i2, i3⟩ := ih inj hk
    refine ⟨i1, fun a ha => ?_, .old (List.mem_map.mpr ⟨s, hs, rfl⟩) i3⟩
    rcases List.mem_cons.mp ha with rfl | ha
    · exact i1 _ hs
    · exact i2 a ha
  | @new m st o s hs _ ih =>
    obtain ⟨i1, i2, i3⟩ := ih inj hk
    have so : s ∈ o := i1 s (List.mem_append_right _ (List.mem_singleton.mpr rfl))
    refine ⟨fun a ha => i1 a (List.mem_append_left _ ha), fun a ha => ?_, .new (fun z => ?_) ?_⟩
    · rcases List.mem_cons.mp ha with rfl | ha
      · exact so
      · exact i2 a (List.mem_append_right _ ha)
    · obtain ⟨b, hb, e⟩ := List.mem_map.mp z
      exact hs (inj b s (i1 b (List.mem_append_left _ hb)) so e ▸ hb)
    · rw [hk s so, ← List.map_append]
      rw [List.map_append] at i3
      exact i3
theorem FW.nodup {k : Nat → List Nat} {m st o : List Nat} (h : FW k m st o) (hm : m.Nodup) : o.Nodup := by
  induction h with
  | nil => exact hm
  | old _ _ ih => exact ih hm
  | @new m st o s hs _ ih =>
    refine ih (List.nodup_append.mpr ⟨hm, by simp, fun a ha b hb => ?_⟩)
    rw [List.mem_singleton.mp hb]
    exact fun z => hs (z ▸ ha)
theorem FW.sub {k : Nat → List Nat} {m st o : List Nat} (h : FW k m st o) : (∀ a ∈ m, a ∈ o) ∧ ∀ a ∈ st, a ∈ o := by
  induction h with
  | nil => exact ⟨fun a h => h, fun a h => by cases h⟩
  | old hs _ ih =>
    refine ⟨ih.1, fun a ha => ?_⟩
    rcases List.mem_cons.mp ha with rfl | ha
    · exact ih.1 _ hs
    · exact ih.2 a ha
  | @new m st o s hs _ ih =>
    have so : s ∈ o := ih.1 s (List.mem_append_right _ (List.mem_singleton.mpr rfl))
    refine ⟨fun a ha => ih.1 a (List.mem_append_left _ ha), fun a ha => ?_⟩
    rcases List.mem_cons.mp ha with rfl | ha
    · exact so
    · exact ih.2 a (List.mem_append_right _ ha)
/-- what a walk has met has all its children -/
theorem FW.closed {k : Nat → List Nat} {m st o : List Nat} (h : FW k m st o) (hm : ∀ a ∈ m, ∀ c ∈ k a, c ∈ m ∨ c ∈ st) : ∀ a ∈ o, ∀ c ∈ k a, c ∈ o := by
  induction h with
  | nil =>
    intro a ha c hc
    rcases hm a ha c hc with h | h
    · exact h
    · cases h
  | @old m st o s hs _ ih =>
    refine ih fun a ha c hc => ?_
    rcases hm a ha c hc with h | h
    · exact .inl h
    · rcases List.mem_cons.mp h with rfl | h
      · exact .inl hs
      · exact .inr h
  | @new m st o s hs _ ih =>
    refine ih fun a ha c hc => ?_
    rcases List.mem_append.mp ha with ha | ha
    · rcases hm a ha c hc with h | h
      · exact .inl (List.mem_append_left _ h)
      · rcases List.mem_cons.mp h with rfl | h
        · exact .inl (List.mem_append_right _ (List.mem_singleton.mpr rfl))
        · exact .inr (List.mem_append_right _ h)
    · rw [List.mem_singleton.mp ha] at hc
      exact .inr (List.mem_append_left _ hc)
end Sl

set_option Elab.async false
set_option linter.all false
set_option maxRecDepth 100000
set_option maxHeartbeats 1000000
/-! ## sorted, of tuples of ints of any lengths, the first one empty; of pairs of a string and an int -/
namespace Sl
open PySem PySem.Spec PyProof.Rows L2
section
variable {prog : Program} {w : World} {A : Around} {E : Value → Shared → Prop} {s : Shared}
/-- v is a tuple of these ints -/
def Tin (h : Heap) (v : Value) (ns : List Int) : Prop := ∃ a its, v = .ref a ∧ IsTup h a its ∧ IntsAre its.toList ns
theorem Tin.keep {h h' : Heap} {v : Value} {ns : List Int} {a : Addr} (x : Tin h v ns) (na : ∀ o, h.get? a = some o → o.cls ≠ .type "tuple") (k : ∀ b o, b ≠ a → h.get? b = some o → h'.get? b = some o) : Tin h' v ns := by
  obtain ⟨b, its, e, ⟨o, ho, hc, hd⟩, i⟩ := x
  exact ⟨b, its, e, ⟨o, k _ _ (fun z => na o (by rw [← z]; exact ho) hc) ho, hc, hd⟩, i⟩
theorem lt_tin {v u : Value} {ns ms : List Int} {Q : Bool → Shared → Prop} (hu : A.units < cLine) (hv : Tin s.heap v ns) (hw : Tin s.heap u ms) (q : Q (HT.lexLt ns ms) s) : wpAny (model prog w) A (keyLt' oneType' v u) Q E s := by
  obtain ⟨a, its, rfl, ⟨⟨c1, d1, t1, l1⟩, ga, hc, n, hd⟩, ia⟩ := hv
  obtain ⟨b, its2, rfl, ⟨⟨c2, d2, t2, l2⟩, gb, hc2, n2, hd2⟩, ib⟩ := hw
  simp only at hc hd hc2 hd2
  subst hc hd hc2 hd2
  rw [keyLt'_oneType, oneLt'_eq]
  simp only [if_true]
  refine wpAny_bind (wpAny_cRoomFor hu ?_)
  refine wpAny_bind (wpAny_callSpecialIfBound?_slot (T := "tuple") ⟨_, ga, rfl⟩ PySem.F.slot_tuple_lt (call_meets PySem.F.slot_tuple_lt ⟨_, ga, rfl⟩ PySem.F.entry_tuple_lt (PySem.F.args_tuple_lt_2 _ _) (HT.tuple_lt_ints a b its its2 n n2 d1 d2 l1 l2 ns ms ia ib) ⟨ga, gb, ?_⟩))
  exact wpAny_truthy_bool q
theorem firsts_tin : ∀ (vs : List Value) {Q : List (Option Value) → Shared → Prop}, (∀ v ∈ vs, ∃ ns, Tin s.heap v ns) → (∀ fs : List (Option Value), fs.length = vs.length → (∀ (i : Nat) (v : Value) (ns : List Int), vs[i]? = some v → Tin s.heap v ns → ns = [] → fs[i]? = some none) → Q fs s) → wpAny (model prog w) A (vs.mapM firstOfTuple') Q E s
  | [], Q, _, q => by
    rw [List.mapM_nil]
    exact wpAny_pure (q [] rfl fun i v ns h => by simp at h)
  | v :: vs, Q, h, q => by
    obtain ⟨ns, a, its, rfl, ⟨o, ho, hc, n, hd⟩, ii⟩ := h v List.mem_cons_self
    rw [List.mapM_cons]
    refine wpAny_bind ?_
    rw [PySem.W.kas_first_eq]
    refine wpAny_bind (PySem.W.Looks.here (show PySem.W.Looks (model prog w) s.heap (typeOf (.ref a)) o.cls from (PySem.W.Looks.ld ho).andThen .now) ?_)
    rw [hc, if_neg (by first | decide | simp)]
    refine wpAny_bind (listItems_at ho hd (wpAny_pure ?_))
    refine wpAny_bind (firsts_tin vs (fun u hu => h u (List.mem_cons_of_mem _ hu)) fun fs hl hf => wpAny_pure (q _ (by rw [List.length_cons, List.length_cons, hl]) fun i u ms hi hm e => ?_))
    cases i with
    | zero =>
      have e2 := Option.some.inj hi
      obtain ⟨a2, its2, e3, ⟨o2, ho2, hc2, n2, hd2⟩, ii2⟩ := hm
      rw [← e2] at e3
      cases e3
      rw [ho] at ho2
      cases ho2
      rw [hd] at hd2
      cases hd2
      subst e
      have z : its.toList = [] := by
        cases hh : its.toList with
        | nil => rfl
        | cons y ys =>
          rw [hh] at ii2
          cases ii2
      show some (its[0]?) = some none
      rw [← Array.getElem?_toList, z]
      rfl
    | succ i => exact hf i u ms hi hm e
theorem kind_tin {vs : List Value} {v0 : Value} {Q : SortKind → Shared → Prop} (h : ∀ v ∈ vs, ∃ ns, Tin s.heap v ns) (h0 : vs[0]? = some v0) (hv0 : Tin s.heap v0 []) (q : Q oneType' s) : wpAny (model prog w) A (keyKind' vs.toArray) Q E s := by
  rw [keyKind'_eq, List.mapM_toArray, map_eq_pure_bind]
  refine wpAny_bind (wpAny_bind (firsts_tin vs h fun fs hl hf => wpAny_pure ?_))
  have f0 := hf 0 v0 [] h0 hv0 rfl
  have n1 : ¬ (fs.toArray.all fun x => x.isSome) = true := fun z => by
    rw [List.all_toArray, List.all_eq_true] at z
    have := z none (List.mem_of_getElem? f0)
    cases this
  have e0 : fs.toArray[0]? = some none := by rw [List.getElem?_toArray]; exact f0
  rw [if_neg n1, e0]
  rw [if_neg (by decide)]
  rw [oneTypeOnly'_eq, List.mapM_toArray, map_eq_pure_bind]
  refine wpAny_bind (wpAny_bind (wpAny_bind (PySem.W.kas_mapM (r := Value.type "tuple") _ (fun v hv Q' hq => ?_) (wpAny_pure ?_))))
  · obtain ⟨ns, a, its, rfl, ⟨o, ho, hc, _⟩, _⟩ := h v hv
    exact ((PySem.W.Looks.ld ho).andThen (by rw [hc]; exact PySem.W.Looks.now)).here hq
  · have e1 : (vs.map fun _ => Value.type "tuple").toArray[0]? = some (Value.type "tuple") := by
      rw [List.getElem?_toArray, List.getElem?_map, h0]
      rfl
    have e2 : ((vs.map fun _ => Value.type "tuple").toArray.all fun x => x == Value.type "tuple") = true := by
      rw [List.all_toArray, List.all_map, List.all_eq_true]
      intro _ _
      rfl
    rw [e1]
    simp only [e2, if_true]
    exact wpAny_pure (wpAny_pure q)
end
/-- sorted(l), l a list of tuples of ints whose first is () -/
def rSortedTin (K : PySem.W.Frag) : List V → Hp → VK → Prop := fun vs H Q => ∃ (a : Addr) (xs : List V), vs = [V.ref a] ∧ SqL K H a xs ∧ (∀ x ∈ xs, ∃ (t : Addr) (ns : List Int), x = V.ref t ∧ SqT K H t (ns.map V.int)) ∧ (∃ t, xs[0]? = some (V.ref t) ∧ SqT K H t []) ∧
  ∀ ys p, ys.Perm xs → H p = none → Q (.ref p) (upd H p (.lst ys))
section
variable {X : Cx}
theorem cr_sortedTin (hu : X.A.units + 64 < cLine) : CallR X (.builtin "sorted") (rSortedTin X.K) := by
  intro pins z σ H vs us Q I r h
  obtain ⟨a, xs, rfl, hs, hx, ⟨t0, h0, ht0⟩, q⟩ := h
  obtain ⟨its, rv, hl, hz⟩ := I.list hs
  obtain ⟨u, rfl, ru⟩ := vals1 r
  obtain rfl : u = Value.ref a := ru
  obtain ⟨e1, e2⟩ := refs_back rv fun x m => by
    obtain ⟨t, _, e, _⟩ := hx x m
    exact ⟨t, e⟩
  have hv : ∀ v ∈ its, ∃ ns, Tin z.heap v ns := fun v m => by
    obtain ⟨t, rfl⟩ := e2 v m
    have hm : V.ref t ∈ xs := by rw [e1]; exact List.mem_map.mpr ⟨_, m, rfl⟩
    obtain ⟨t', ns, e, ht⟩ := hx _ hm
    cases e
    obtain ⟨its2, r2, p2, _⟩ := I.tuple ht
    exact ⟨ns, t, _, rfl, p2, intsAre_of r2⟩
  obtain ⟨v0, g0, rv0⟩ := rv.get h0
  cases rv0
  have hv0 : Tin z.heap (.ref t0) [] := by
    obtain ⟨its2, r2, p2, _⟩ := I.tuple ht0
    cases r2
    exact ⟨t0, _, rfl, p2, .nil⟩
  obtain ⟨k, hk⟩ : ∃ k : Value → List Int, ∀ v ∈ its, Tin z.heap v (k v) := by
    have : ∀ v : Value, ∃ ns : List Int, v ∈ its → Tin z.heap v ns := fun v => by
      by_cases m : v ∈ its
      · obtain ⟨ns, h⟩ := hv v m
        exact ⟨ns, fun _ => h⟩
      · exact ⟨[], fun z => absurd z m⟩
    exact ⟨fun v => Classical.choose (this v), fun v m => Classical.choose_spec (this v) m⟩
  refine SrtO.sorted_ord (NtL.swo_lexL k) hl.isList (by rw [← rv.length]; exact hz) (fun h2 h1 b hb kk => ?_) fun out h1 h2 => ?_
  · have nb : ∀ o, h1.get? b = some o → o.cls ≠ .type "tuple" := fun o e => by
      rw [hb] at e
      cases e
      intro c
      exact absurd (Value.type.inj c) (by decide)
    have up : ∀ v ns, Tin z.heap v ns → Tin h1 v ns := fun v ns x => by
      obtain ⟨c, its3, e, ⟨o, ho, hc, hd⟩, i⟩ := x
      exact ⟨c, its3, e, ⟨o, (kk _ _ ho).2, hc, hd⟩, i⟩
    intro h' keep
    have up2 : ∀ v ns, Tin z.heap v ns → Tin h' v ns := fun v ns x => (up v ns x).keep nb keep
    refine ⟨oneType', fun Q' E' hq => kind_tin (fun v m => ⟨_, up2 _ _ (hk v m)⟩) g0 (up2 _ _ hv0) hq, fun p q' hp hq' => ?_⟩
    exact lt_tin (by show X.A.in1.in1.units < cLine; simp; omega) (up2 _ _ (hk _ hp)) (up2 _ _ (hk _ hq')) ⟨rfl, rfl⟩
  · have h3 : ∀ u ∈ out, ∃ a, u = Value.ref a := fun u hu => e2 u (h2.perm.mem_iff.mp hu)
    obtain ⟨ep, he'⟩ := PyProof.Rows.sortedAll_at z.heap its out.toArray
    have hp : (out.map backV).Perm xs := by
      rw [e1]
      exact h2.perm.map backV
    refine ⟨.ref _, upd H (z.heap.objs.size + 1) (.lst (out.map backV)), I.laid (t' := z.toks) (fun _ _ => PyProof.Rows.sortedAll_old) (Nat.le_succ _) ⟨by rw [hp.length_eq]; exact hz, out, ep, vals_back h3, he'⟩, rfl, q _ _ hp (I.hok.fresh (Nat.le_succ _))⟩
end
/-! ### pairs of a string and an int -/
def ltSI (p q : Str × Int) : Bool := if p.1 = q.1 then decide (p.2 < q.2) else sLt p.1 q.1
theorem swo_SI {α : Type} (k : α → Str × Int) : SrtO.Swo fun v u : α => ltSI (k v) (k u) := by
  refine ⟨fun x y h => ?_, fun x y z h1 h2 => ?_⟩
  · unfold ltSI at h ⊢
    by_cases e : (k x).1 = (k y).1
    · rw [if_pos e] at h
      rw [if_pos e.symm]
      have := of_decide_eq_true h
      exact decide_eq_false (by omega)
    · rw [if_neg e] at h
      rw [if_neg (Ne.symm e)]
      exact sLt_asym h
  · unfold ltSI at h1 h2 ⊢
    by_cases e1 : (k y).1 = (k x).1
    · rw [if_pos e1] at h1
      by_cases e2 : (k z).1 = (k y).1
      · rw [if_pos e2] at h2
        rw [if_pos (e2.trans e1)]
        have a := of_decide_eq_false h1
        have b := of_decide_eq_false h2
        exact decide_eq_false (by omega)
      · rw [if_neg e2, e1] at h2
        rw [if_neg (by rw [← e1]; exact e2)]
        exact h2
    · rw [if_neg e1] at h1
      by_cases e2 : (k z).1 = (k y).1
      · rw [if_neg (by rw [e2]; exact e1), e2]
        exact h1
      · rw [if_neg e2] at h2
        have a : sLt (k x).1 (k y).1 = true := by
          cases h : sLt (k x).1 (k y).1
          · exact absurd (sLt_tri h1 h) e1
          · rfl
        have b : sLt (k y).1 (k z).1 = true := by
          cases h : sLt (k y).1 (k z).1
          · exact absurd (sLt_tri h2 h) e2
          · rfl
        have c := sLt_tr a b
        have n : ¬ (k z).1 = (k x).1 := fun e => by
          rw [e, sLt_irr] at c
          cases c
        rw [if_neg n]
        exact sLt_asym c
section
variable {prog : Program} {w : World} {A : Around} {E : Value → Shared → Prop} {s : Shared}
def Tsi (h : Heap) (v : Value) (p : Str × Int) : Prop := ∃ a o t u n, v = .ref a ∧ h.get? a = some o ∧ o.cls = .type "tuple" ∧ o.data = .seq #[.str p.1 t, .int p.2 u] n
theorem si_cmp {vs : List Value} {k : Value → Str × Int} (hp : ∀ v ∈ vs, Tsi s.heap v (k v)) : SrtO.Cmp prog w A s (tuples' true) (fun p => p.1 ∈ vs) (SrtO.lt2 fun v u => ltSI (k v) (k u)) := by
  intro p q hm hm'
  have h1 := hp _ hm
  have h2 := hp _ hm'
  show wpAny (model prog w) A (keyLt' (tuples' true) p.1 q.1) (fun r s' => s' = s ∧ r = ltSI (k p.1) (k q.1)) (fun _ _ => False) s
  generalize k p.1 = x at h1 ⊢
  generalize k q.1 = y at h2 ⊢
  obtain ⟨x1, x2⟩ := x
  obtain ⟨y1, y2⟩ := y
  obtain ⟨a, o, t, u, n, e, ho, hc, hd⟩ := h1
  obtain ⟨b, o', t', u', n', e', ho', hc', hd'⟩ := h2
  rw [e, e']
  refine PySem.W.kat_lt ho hd ho' hd' ?_
  show PySem.W.KatLex prog w A true (decide (2 < 2)) _ [(.str x1 t, .str y1 t'), (.int x2 u, .int y2 u')] 0 s
  refine PySem.W.kat_cons (wpAny_eqBool_str ?_)
  refine PySem.W.kat_go (fun e1 => ?_) (fun e1 => ?_)
  · have ex : x1 = y1 := of_decide_eq_true e1
    refine PySem.W.kat_yes (PySem.W.kat_cons (SeqAt.EqAt.int_int x2 u y2 u' prog w _ _ ?_))
    refine PySem.W.kat_go (fun e2 => ?_) (fun e2 => ?_)
    · have ey : x2 = y2 := by simpa using e2
      refine PySem.W.kat_yes (PySem.W.kat_nil ⟨rfl, ?_⟩)
      unfold ltSI
      rw [if_pos ex, ey]
      exact (decide_eq_false (Int.lt_irrefl _)).symm
    · refine PySem.W.kat_no (PySem.W.kat_one _ _ (PyProof.Rows.lt_int ?_))
      refine (show s = s ∧ decide (x2 < y2) = ltSI (x1, x2) (y1, y2) from ⟨rfl, ?_⟩)
      unfold ltSI
      rw [if_pos ex]
  · have ex : ¬ x1 = y1 := fun z => by
      rw [decide_eq_true z] at e1
      cases e1
    refine PySem.W.kat_no (oneLt_str ⟨rfl, ?_⟩)
    unfold ltSI
    rw [if_neg ex]
    exact lt_meets x1 y1
theorem si_firsts {h : Heap} {k : Value → Str × Int} : ∀ vs : List Value, (∀ v ∈ vs, Tsi h v (k v)) → ∃ fs, PySem.W.KatTups h vs fs ∧ fs.length = vs.length ∧ ∀ f ∈ fs, ∃ x t, f = Value.str x t
  | [], _ => ⟨[], PySem.W.KatTups.nil, rfl, fun f hf => by simp at hf⟩
  | v :: vs, hp => by
    obtain ⟨fs, k1, l1, h1⟩ := si_firsts vs fun u hu => hp u (List.mem_cons_of_mem _ hu)
    obtain ⟨a, o, t, u, n, rfl, ho, hc, hd⟩ := hp v List.mem_cons_self
    refine ⟨_ :: fs, PySem.W.KatTups.cons ho hc hd rfl k1, by rw [List.length_cons, List.length_cons, l1], fun f hf => ?_⟩
    rcases List.mem_cons.mp hf with rfl | hf
    · exact ⟨_, _, rfl⟩
    · exact h1 f hf
theorem si_sortable {a : Addr} {vs : List Value} {k : Value → Str × Int} (h0 : 0 < vs.length) (hp : ∀ v ∈ vs, Tsi s.heap v (k v)) (ha : ∀ o, s.heap.get? a = some o → o.cls ≠ .type "tuple") : SrtO.SortableO prog w A s a vs fun v u => ltSI (k v) (k u) := by
  intro h' keep
  have hp' : ∀ v ∈ vs, Tsi h' v (k v) := fun v hm => by
    obtain ⟨b, o, t, u, n, e, ho, hc, hd⟩ := hp v hm
    exact ⟨b, o, t, u, n, e, keep _ _ (fun z => ha o (by rw [← z]; exact ho) hc) ho, hc, hd⟩
  obtain ⟨fs, h1, h2, h3⟩ := si_firsts vs hp'
  refine ⟨tuples' true, fun Q E hq => ?_, si_cmp hp'⟩
  refine PySem.W.kat_kind (T := .type "str") h1 (by omega) (fun f hm => ?_) (by rfl) ?_
  · obtain ⟨x, t, rfl⟩ := h3 f hm
    exact PySem.W.Looks.now
  · have e : (Value.type "str" != Value.type "tuple") = true := by first | decide +kernel | rfl | decide
    rw [e]
    exact hq
end
/-- sorted(l), l a list of pairs of a string and an int -/
def rSortedSI (K : PySem.W.Frag) : List V → Hp → VK → Prop := fun vs H Q => ∃ (a : Addr) (xs : List V) (k : V → Str × Int), vs = [V.ref a] ∧ SqL K H a xs ∧ (∀ x ∈ xs, ∃ t, x = V.ref t ∧ SqT K H t [.str (k x).1, .int (k x).2]) ∧
  ∀ ys p, ys.Perm xs → ys.Pairwise (fun x y => ltSI (k y) (k x) = false) → H p = none → Q (.ref p) (upd H p (.lst ys))
theorem cr_sortedSI {X : Cx} : CallR X (.builtin "sorted") (rSortedSI X.K) := by
  intro pins z σ H vs us Q I r h
  obtain ⟨a, xs, k, rfl, hs, hx, q⟩ := h
  obtain ⟨its, rv, hl, hz⟩ := I.list hs
  obtain ⟨u, rfl, ru⟩ := vals1 r
  obtain rfl : u = Value.ref a := ru
  obtain ⟨e1, e2⟩ := refs_back rv fun x m => by
    obtain ⟨t, e, _⟩ := hx x m
    exact ⟨t, e⟩
  have hv : ∀ v ∈ its, Tsi z.heap v (k (backV v)) := fun v m => by
    obtain ⟨t, rfl⟩ := e2 v m
    have hm : V.ref t ∈ xs := by rw [e1]; exact List.mem_map.mpr ⟨_, m, rfl⟩
    obtain ⟨t', e, ht⟩ := hx _ hm
    cases e
    obtain ⟨its2, r2, ⟨o, ho, hc, n, hd⟩, _⟩ := I.tuple ht
    obtain ⟨u1, u2, rfl, ri, rj⟩ := vals2 r2
    obtain ⟨t1, rfl⟩ := ri
    obtain ⟨t2, rfl⟩ := rj
    exact ⟨t, o, t1, t2, n, rfl, ho, hc, hd⟩
  refine SrtO.sorted_ord (swo_SI fun u => k (backV u)) hl.isList (by rw [← rv.length]; exact hz) (fun h2 h1 b hb kk => si_sortable (by omega) (fun v m => ?_) fun o e => ?_) fun out h1 h2 => ?_
  · obtain ⟨c, o, t, u, n, e, ho, hc, hd⟩ := hv v m
    exact ⟨c, o, t, u, n, e, (kk _ _ ho).2, hc, hd⟩
  · have e' : some o = _ := e.symm.trans hb
    cases e'
    intro c
    exact absurd (Value.type.inj c) (by decide)
  · have h3 : ∀ u ∈ out, ∃ a, u = Value.ref a := fun u hu => e2 u (h2.perm.mem_iff.mp hu)
    obtain ⟨ep, he'⟩ := PyProof.Rows.sortedAll_at z.heap its out.toArray
    have hp : (out.map backV).Perm xs := by
      rw [e1]
      exact h2.perm.map backV
    have hsr : (out.map backV).Pairwise (fun x y => ltSI (k y) (k x) = false) := List.pairwise_map.mpr h1
    exact ⟨.ref _, upd H (z.heap.objs.size + 1) (.lst (out.map backV)), I.laid (t' := z.toks) (fun _ _ => PyProof.Rows.sortedAll_old) (Nat.le_succ _) ⟨by rw [hp.length_eq]; exact hz, out, ep, vals_back h3, he'⟩, rfl, q _ _ hp hsr (I.hok.fresh (Nat.le_succ _))⟩
end Sl

set_option Elab.async false
set_option linter.all false
set_option maxRecDepth 100000
set_option maxHeartbeats 400000
/-! ## Nodes -/
namespace Sl
open PySem PySem.Spec PyProof.Rows L2
abbrev sWhole : Stmt := topT 7
abbrev sBelow : Stmt := topT 8
abbrev sCheckB : Stmt := topT 9
abbrev sKids : Stmt := topT 16
abbrev sWithK : Stmt := topT 17
abbrev sRow : Stmt := topT 18
abbrev sPairOf : Stmt := topT 19
abbrev sIsNd : Stmt := topT 20
abbrev sAreN : Stmt := topT 21
theorem scWhole : FnScope ["value"] ["value"] (defScope sWhole) := ⟨rfl, rfl, rfl, by decide +kernel, rfl, by decide +kernel, by decide +kernel⟩
theorem scBelow : FnScope ["value", "limit"] ["value", "limit"] (defScope sBelow) := ⟨rfl, rfl, rfl, by decide +kernel, rfl, by decide +kernel, by decide +kernel⟩
theorem scCheckB : FnScope ["value", "limit"] ["value", "limit"] (defScope sCheckB) := ⟨rfl, rfl, rfl, by decide +kernel, rfl, by decide +kernel, by decide +kernel⟩
theorem scKids : FnScope ["node"] ["node"] (defScope sKids) := ⟨rfl, rfl, rfl, by decide +kernel, rfl, by decide +kernel, by decide +kernel⟩
theorem scWithK : FnScope ["node", "children"] ["node", "children"] (defScope sWithK) := ⟨rfl, rfl, rfl, by decide +kernel, rfl, by decide +kernel, by decide +kernel⟩
theorem scRow : FnScope ["value", "many", "child"] ["value", "many"] (defScope sRow) := ⟨rfl, rfl, rfl, by decide +kernel, rfl, by decide +kernel, by decide +kernel⟩
theorem scPairOf : FnScope ["value", "kind"] ["value", "kind"] (defScope sPairOf) := ⟨rfl, rfl, rfl, by decide +kernel, rfl, by decide +kernel, by decide +kernel⟩
theorem scIsNd : FnScope ["value", "nodes"] ["value", "nodes"] (defScope sIsNd) := ⟨rfl, rfl, rfl, by decide +kernel, rfl, by decide +kernel, by decide +kernel⟩
theorem scAreN : FnScope ["values", "owners", "value", "node"] ["values"] (defScope sAreN) := ⟨rfl, rfl, rfl, by decide +kernel, rfl, by decide +kernel, by decide +kernel⟩
/-- built-ins that the module leaves alone -/
structure Bi (mg : Str → Option Value) : Prop where
  isi : mg "isinstance" = none
  int : mg "int" = none
  bool : mg "bool" = none
  tuple : mg "tuple" = none
  len : mg "len" = none
  all : mg "all" = none
def dWhole : D → Bool
  | .int _ => true
  | _ => false
def dBelow (n : Int) : D → Bool
  | .int i => decide (0 ≤ i) && decide (i < n)
  | _ => false
theorem isa_whole (d : D) : (if isA "int" d = true then !isA "bool" d else false) = dWhole d := by
  rw [isA_int, isA_bool]
  cases d <;> rfl
section
variable {P : Program} {w : World} {K : PySem.W.Frag} {mg : Str → Option Value} {base : Heap}
def spWhole (K : PySem.W.Frag) : Sp := fun vs H Q _ => ∃ v d, vs = [v] ∧ Rdd K H v d ∧ Q (.bl (dWhole d)) H
theorem ok_whole {f : Addr} {fd : FuncData} (F : Fun K "is_whole" "is_whole" sWhole f fd) (B : Bi mg) : FnOk P w K mg base CX0 1 f fd ["value"] (spWhole K) := by
  refine F.ok scWhole (fun vs H Q E h => ?_) (fun cdv A outer s H vs Q E hr h => ?_)
  · obtain ⟨v, d, rfl, _⟩ := h
    rfl
  · obtain ⟨v, d, rfl, hv, q⟩ := h
    refine ⟨_, pss_one (ps_ret (pe_and (pe_callB call_isi (by rfl) B.isi (by decide +kernel) (pa_cons (pv 0) (pa_cons (pe_bltn (v := .ty "int") (by rfl) B.int (by decide +kernel) rfl) pa_nil)))
      (pe_one (pe_not (pe_callB call_isi (by rfl) B.isi (by decide +kernel) (pa_cons (pv 0) (pa_cons (pe_bltn (v := .ty "bool") (by rfl) B.bool (by decide +kernel) rfl) pa_nil))))))), ?_⟩
    refine ⟨v, rfl, v, .ty "int", _, _, isA "int" d, rfl, .ty _, hv.ty, kit_isA (by decide +kernel), isA "int" d, rfl, ?_⟩
    have e := isa_whole d
    cases h1 : isA "int" d with
    | true =>
      rw [h1, if_pos rfl] at e
      refine iteT ⟨v, rfl, v, .ty "bool", _, _, isA "bool" d, rfl, .ty _, hv.ty, kit_isA (by decide +kernel), isA "bool" d, rfl, ?_⟩
      rw [e]
      exact q
    | false =>
      rw [h1, if_neg Bool.false_ne_true] at e
      refine iteF ?_
      rw [e]
      exact q
def spBelow (K : PySem.W.Frag) : Sp := fun vs H Q _ => ∃ v d n, vs = [v, .int n] ∧ Rdd K H v d ∧ Q (.bl (dBelow n d)) H
theorem ok_below {f fW : Addr} {fd fdW : FuncData} (F : Fun K "is_below" "is_below" sBelow f fd) (FW : Fun K "is_whole" "is_whole" sWhole fW fdW) (bW : Binds K fdW ["value"] []) (gW : mg "is_whole" = some (.ref fW)) (B : Bi mg) :
    FnOk P w K mg base CX0 2 f fd ["value", "limit"] (spBelow K) := by
  have GW : FnOk P w K mg base CX0 1 fW fdW ["value"] (spWhole K) := ok_whole FW B
  refine F.ok scBelow (fun vs H Q E h => ?_) (fun cdv A outer s H vs Q E hr h => ?_)
  · obtain ⟨v, d, n, rfl, _⟩ := h
    rfl
  · obtain ⟨v, d, n, rfl, hv, q⟩ := h
    refine ⟨_, pss_one (ps_ret (pe_and (pe_call GW hr (by rfl) gW FW.kp bW .nil pass0 (pa_cons (pv 0) pa_nil)) (pe_one (pe_chain op_le op_lt pe_int (pv 0) (pv 1))))), ?_⟩
    refine ⟨v, rfl, v, d, rfl, hv, dWhole d, rfl, ?_⟩
    cases hv with
    | int i =>
      refine iteT ⟨.int i, rfl, _, _, rfl, rfl, _, rfl, ?_⟩
      refine ite2 (fun e => ⟨_, rfl, _, _, rfl, rfl, ?_⟩) (fun e => ?_)
      · have e' : decide (0 ≤ i) = true := e
        have z : dBelow n (.int i) = decide (i < n) := by
          show (decide (0 ≤ i) && decide (i < n)) = decide (i < n)
          rw [e', Bool.true_and]
        rw [z] at q
        exact q
      · have e' : decide (0 ≤ i) = false := by
          cases h : decide (0 ≤ i) with
          | true => exact absurd h e
          | false => rfl
        have z : dBelow n (.int i) = false := by
          show (decide (0 ≤ i) && decide (i < n)) = false
          rw [e', Bool.false_and]
        rw [z] at q
        exact q
    | _ => exact iteF q
/-! ### a program's own names -/
structure Ad (K : PySem.W.Frag) (mg : Str → Option Value) (fW fB fPc fPr fA : Addr) (fdW fdB fdPc fdPr fdA : FuncData) : Prop where
  FW : Fun K "is_whole" "is_whole" sWhole fW fdW
  bW : Binds K fdW ["value"] []
  gW : mg "is_whole" = some (.ref fW)
  FB : Fun K "is_below" "is_below" sBelow fB fdB
  bB : Binds K fdB ["value", "limit"] []
  gB : mg "is_below" = some (.ref fB)
  FPc : Fun K "_is_piece" "_is_piece" sPiece fPc fdPc
  bPc : Binds K fdPc ["value"] []
  gPc : mg "_is_piece" = some (.ref fPc)
  pl : ∃ fP fdP, Fun K "is_plain_address" "is_plain_address" sPlainA fP fdP ∧ Binds K fdP ["value"] [] ∧ mg "is_plain_address" = some (.ref fP)
  FPr : Fun K "_is_pair" "_is_pair" sPair fPr fdPr
  bPr : Binds K fdPr ["value"] []
  gPr : mg "_is_pair" = some (.ref fPr)
  FA : Fun K "is_address" "is_address" sIsAddr fA fdA
  bA : Binds K fdA ["value"] []
  gA : mg "is_address" = some (.ref fA)
  terms : ∃ t, mg "MAX_TERMS" = some (.int 3 t)
  times : ∃ t, mg "MAX_TIMES" = some (.int lim0 t)
variable {fW fB fPc fPr fA : Addr} {fdW fdB fdPc fdPr fdA : FuncData}
theorem g_below (T : Ad K mg fW fB fPc fPr fA fdW fdB fdPc fdPr fdA) (B : Bi mg) : FnOk P w K mg base CX0 2 fB fdB ["value", "limit"] (spBelow K) := ok_below T.FB T.FW T.bW T.gW B
end
section
variable {P : Program} {w : World} {K : PySem.W.Frag} {mg : Str → Option Value} {base : Heap}
/-- the node defs -/
structure Gn (K : PySem.W.Frag) (mg : Str → Option Value) (fWh fBe fNm fKd fWk fRw fPo fNd fAn : Addr) (dWh dBe dNm dKd dWk dRw dPo dNd dAn : FuncData) : Prop where
  FWh : Fun K "is_whole" "is_whole" sWhole fWh dWh
  bWh : Binds K dWh ["value"] []
  gWh : mg "is_whole" = some (.ref fWh)
  FBe : Fun K "is_below" "is_below" sBelow fBe dBe
  bBe : Binds K dBe ["value", "limit"] []
  gBe : mg "is_below" = some (.ref fBe)
  FNm : Fun K "is_name" "is_name" sName fNm dNm
  bNm : Binds K dNm ["value"] []
  gNm : mg "is_name" = some (.ref fNm)
  FKd : Fun K "children_of" "children_of" sKids fKd dKd
  bKd : Binds K dKd ["node"] []
  gKd : mg "children_of" = some (.ref fKd)
  FWk : Fun K "with_children" "with_children" sWithK fWk dWk
  bWk : Binds K dWk ["node", "children"] []
  gWk : mg "with_children" = some (.ref fWk)
  FRw : Fun K "_is_row" "_is_row" sRow fRw dRw
  bRw : Binds K dRw ["value", "many"] []
  gRw : mg "_is_row" = some (.ref fRw)
  FPo : Fun K "_is_pair_of" "_is_pair_of" sPairOf fPo dPo
  bPo : Binds K dPo ["value", "kind"] []
  gPo : mg "_is_pair_of" = some (.ref fPo)
  FNd : Fun K "_is_node" "_is_node" sIsNd fNd dNd
  bNd : Binds K dNd ["value", "nodes"] []
  gNd : mg "_is_node" = some (.ref fNd)
  FAn : Fun K "are_nodes" "are_nodes" sAreN fAn dAn
  bAn : Binds K dAn ["values"] []
  gAn : mg "are_nodes" = some (.ref fAn)
variable {fWh fBe fNm fKd fWk fRw fPo fNd fAn : Addr} {dWh dBe dNm dKd dWk dRw dPo dNd dAn : FuncData}
theorem iD_ints {H : Hp} : ∀ {l : List Nat} {xs : List V}, RddAll K H xs (iD l) → xs = l.map fun i => V.int (i : Nat)
  | [], _, h => by cases h; rfl
  | a :: l, _, h => by
    cases h with
    | cons h1 h2 =>
      cases h1
      rw [iD_ints h2]
      rfl
theorem ints_iD {H : Hp} : ∀ l : List Nat, RddAll K H (l.map fun i => V.int (i : Nat)) (iD l)
  | [] => .nil
  | a :: l => .cons (.int _) (ints_iD l)
def spKids (K : PySem.W.Frag) : Sp := fun vs H Q _ => ∃ (v : V) (g : GN), vs = [v] ∧ Rdd K H v (ndD g) ∧ (gk g).length ≤ 3 ∧ ∀ r H', Same H H' → Rdd K H' r (.tup (iD (gk g))) → Q r H'
theorem ok_kids (N : Gn K mg fWh fBe fNm fKd fWk fRw fPo fNd fAn dWh dBe dNm dKd dWk dRw dPo dNd dAn) : FnOk P w K mg base CX0 1 fKd dKd ["node"] (spKids K) := by
  refine N.FKd.ok scKids (fun vs H Q E h => ?_) (fun cdv A outer s H vs Q E hr h => ?_)
  · obtain ⟨v, g, rfl, _⟩ := h
    rfl
  · obtain ⟨v, g, rfl, hv, h3, q⟩ := h
    have sl := sizeLine_eq
    --DK
    refine ⟨_, (pss_cons (ps_if (pt_cmpR op_eq (pe_ix ix_tup (pv 0) pe_int (fun _ _ => rfl)) pe_str (nomark _))
          (pss_one (ps_ret (pe_ix ix_tup (pv 0) pe_int (fun _ _ => rfl)))) pss_nil)
        (pss_cons (ps_if (pt_cmpR op_eq (pe_ix ix_tup (pv 0) pe_int (fun _ _ => rfl)) pe_str (nomark _))
          (pss_one (ps_ret (pe_tup (pa_cons (pe_ix ix_tup (pv 0) pe_int (fun _ _ => rfl)) pa_nil)))) pss_nil)
        (pss_one (ps_ret (pe_tup pa_nil))))), ?_⟩
    --EK
    cases g with
    | W x cs =>
      obtain ⟨a0, xs, rfl, hs, hx, _⟩ := hv.tupd'
      obtain ⟨x1, x2, x3, rfl, r1, r2, r3⟩ := hx.trip
      cases r1
      refine ⟨_, rfl, a0, _, (0 : Int), _, rfl, rfl, hs, atI_nat (j := 0) rfl, rfl, _, rfl, ?_⟩
      rw [str_dec, decide_eq_true rfl]
      exact iteT ⟨_, rfl, a0, _, (2 : Int), _, rfl, rfl, hs, atI_nat (j := 2) rfl, q _ H (Same.refl _) r3⟩
    | F c =>
      obtain ⟨a0, xs, rfl, hs, hx, _⟩ := hv.tupd'
      obtain ⟨x1, x2, rfl, r1, r2⟩ := hx.pair
      cases r1
      cases r2
      refine ⟨_, rfl, a0, _, (0 : Int), _, rfl, rfl, hs, atI_nat (j := 0) rfl, rfl, _, rfl, ?_⟩
      rw [str_dec, decide_eq_false (by decide +kernel)]
      refine iteF ⟨_, rfl, a0, _, (0 : Int), _, rfl, rfl, hs, atI_nat (j := 0) rfl, rfl, _, rfl, ?_⟩
      rw [str_dec, decide_eq_true rfl]
      refine iteT ⟨_, rfl, a0, _, (1 : Int), _, rfl, rfl, hs, atI_nat (j := 1) rfl, (by show 1 ≤ sizeLine; omega), fun p np => ?_⟩
      exact q _ _ (Same.new np) (tup_val upd_same (.cons (.int _) .nil) (by simp [gk, iD]))
    | V f =>
      obtain ⟨a0, xs, rfl, hs, hx, _⟩ := hv.tupd'
      obtain ⟨x1, x2, rfl, r1, r2⟩ := hx.pair
      cases r1
      refine ⟨_, rfl, a0, _, (0 : Int), _, rfl, rfl, hs, atI_nat (j := 0) rfl, rfl, _, rfl, ?_⟩
      rw [str_dec, decide_eq_false (by decide +kernel)]
      refine iteF ⟨_, rfl, a0, _, (0 : Int), _, rfl, rfl, hs, atI_nat (j := 0) rfl, rfl, _, rfl, ?_⟩
      rw [str_dec, decide_eq_false (by decide +kernel)]
      refine iteF ⟨(by show 0 ≤ sizeLine; omega), fun p np => ?_⟩
      exact q _ _ (Same.new np) (tup_val upd_same .nil (by simp [gk, iD]))
/-- a node with other numbers -/
def rl (ν : Nat → Nat) : GN → GN
  | .W x cs => .W x (cs.map ν)
  | .F c => .F (ν c)
  | .V f => .V (ν f)
/-- the numbers in a node -/
def nums : GN → List Nat
  | .W _ cs => cs
  | .F c => [c]
  | .V f => [f]
def spWithK (K : PySem.W.Frag) : Sp := fun vs H Q _ => ∃ (v : V) (g : GN) (l : Addr) (ν : Nat → Nat), vs = [v, .ref l] ∧ Rdd K H v (ndD g) ∧ SqL K H l ((nums g).map fun i => V.int (ν i : Nat)) ∧ (nums g).length ≤ 3 ∧ ∀ r H', Same H H' → Rdd K H' r (ndD (rl ν g)) → Q r H'
theorem ok_withK (N : Gn K mg fWh fBe fNm fKd fWk fRw fPo fNd fAn dWh dBe dNm dKd dWk dRw dPo dNd dAn) (B : Bt mg) : FnOk P w K mg base CX0 1 fWk dWk ["node", "children"] (spWithK K) := by
  refine N.FWk.ok scWithK (fun vs H Q E h => ?_) (fun cdv A outer s H vs Q E hr h => ?_)
  · obtain ⟨v, g, l, ν, rfl, _⟩ := h
    rfl
  · obtain ⟨v, g, l, ν, rfl, hv, hl, h3, q⟩ := h
    have sl := sizeLine_eq
    --DW
    refine ⟨_, (pss_cons (ps_if (pt_cmpR op_eq (pe_ix ix_tup (pv 0) pe_int (fun _ _ => rfl)) pe_str (nomark _))
          (pss_one (ps_ret (pe_tup (pa_cons pe_str (pa_cons (pe_ix ix_tup (pv 0) pe_int (fun _ _ => rfl)) (pa_cons (pe_callTy call_tuple_of (by rfl) B.tuple (by decide +kernel) (pa_cons (pv 1) pa_nil)) pa_nil)))))) pss_nil)
        (pss_one (ps_ret (pe_tup (pa_cons (pe_ix ix_tup (pv 0) pe_int (fun _ _ => rfl)) (pa_cons (pe_ix ix_list (pv 1) pe_int (fun _ _ => rfl)) pa_nil)))))), ?_⟩
    --EW
    cases g with
    | W x cs =>
      obtain ⟨a0, xs, rfl, hs, hx, _⟩ := hv.tupd'
      obtain ⟨x1, x2, x3, rfl, r1, r2, r3⟩ := hx.trip
      cases r1
      cases r2
      refine ⟨_, rfl, a0, _, (0 : Int), _, rfl, rfl, hs, atI_nat (j := 0) rfl, rfl, _, rfl, ?_⟩
      rw [str_dec, decide_eq_true rfl]
      refine iteT ⟨_, rfl, a0, _, (1 : Int), _, rfl, rfl, hs, atI_nat (j := 1) rfl, _, rfl, l, _, rfl, .inl ⟨hl, fun p np => ?_⟩⟩
      have s1 := Same.new (o := .tup ((nums (.W x cs)).map fun i => V.int (ν i : Nat))) np
      have hp : (upd H p (.tup ((nums (.W x cs)).map fun i => V.int (ν i : Nat)))) p = some (.tup ((nums (.W x cs)).map fun i => V.int (ν i : Nat))) := upd_same
      generalize upd H p (.tup ((nums (.W x cs)).map fun i => V.int (ν i : Nat))) = H1 at s1 hp ⊢
      refine ⟨(by show 3 ≤ sizeLine; omega), fun p2 np2 => ?_⟩
      have s2 := Same.new (o := .tup [V.str "word", .str x, .ref p]) np2
      have h3' : cs.length ≤ 3 := h3
      refine q _ _ (s1.trans s2) (tup_val upd_same (.cons (.str _) (.cons (.str _) (.cons (tup_val (s2 _ _ hp) ?_ ?_) .nil))) (by simp))
      · have := ints_iD (K := K) (H := upd H1 p2 (.tup [V.str "word", .str x, .ref p])) (cs.map ν)
        rw [List.map_map] at this
        exact this
      · unfold iD
        rw [List.length_map, List.length_map]
        omega
    | F c =>
      obtain ⟨a0, xs, rfl, hs, hx, _⟩ := hv.tupd'
      obtain ⟨x1, x2, rfl, r1, r2⟩ := hx.pair
      cases r1
      refine ⟨_, rfl, a0, _, (0 : Int), _, rfl, rfl, hs, atI_nat (j := 0) rfl, rfl, _, rfl, ?_⟩
      rw [str_dec, decide_eq_false (by decide +kernel)]
      refine iteF ⟨_, rfl, a0, _, (0 : Int), _, rfl, rfl, hs, atI_nat (j := 0) rfl, _, rfl, l, _, (0 : Int), _, rfl, rfl, hl, atI_nat (j := 0) rfl, (by show 2 ≤ sizeLine; omega), fun p np => ?_⟩
      exact q _ _ (Same.new np) (tup_val upd_same (.cons (.str _) (.cons (.int _) .nil)) (by simp))
    | V f =>
      obtain ⟨a0, xs, rfl, hs, hx, _⟩ := hv.tupd'
      obtain ⟨x1, x2, rfl, r1, r2⟩ := hx.pair
      cases r1
      refine ⟨_, rfl, a0, _, (0 : Int), _, rfl, rfl, hs, atI_nat (j := 0) rfl, rfl, _, rfl, ?_⟩
      rw [str_dec, decide_eq_false (by decide +kernel)]
      refine iteF ⟨_, rfl, a0, _, (0 : Int), _, rfl, rfl, hs, atI_nat (j := 0) rfl, _, rfl, l, _, (0 : Int), _, rfl, rfl, hl, atI_nat (j := 0) rfl, (by show 2 ≤ sizeLine; omega), fun p np => ?_⟩
      exact q _ _ (Same.new np) (tup_val upd_same (.cons (.str _) (.cons (.int _) .nil)) (by simp))
end
end Sl

set_option Elab.async false
set_option linter.all false
set_option maxRecDepth 100000
set_option maxHeartbeats 400000
/-! ## t[::-1], t a tuple -/
namespace Sl
open PySem PySem.Spec PyProof.Rows L2
section
variable {prog : Program} {w : World} {A : Around} {E : Value → Shared → Prop} {s : Shared}
theorem adjust_rev (n : Nat) : Builtin.Slice.sliceAdjust none none (-1) (n : Int) = ((n : Int) - 1, -1) := by
  unfold Builtin.Slice.sliceAdjust
  have h1 : ((-1 : Int) < 0) := by omega
  simp only [h1, if_true]
theorem places_rev (n : Nat) : Builtin.Slice.slicePlaces ((n : Int) - 1) (-1) (-1) = n := by
  unfold Builtin.Slice.slicePlaces
  have h1 : ¬ ((-1 : Int) > 0) := by omega
  simp only [h1, if_false]
  rw [show (-(-1 : Int)) = 1 from rfl, Int.ediv_one]
  split <;> omega
theorem applied_rev {sl : Addr} {n : Nat} {vl vu vs : Value} {Q : Int × Int × Nat → Shared → Prop} (hs : s.heap.IsSliceOf sl vl vu vs) (pl : IsPart vl none) (pu : IsPart vu none) (ps : IsPart vs (some (-1))) (h : Q ((n : Int) - 1, -1, n) s) :
    wpAny (model prog w) A (Builtin.Slice.sliceApplied (.ref sl) (pure (n : Int))) Q E s := by
  obtain ⟨os, hos, hcs, hds⟩ := id hs
  cases pl
  cases pu
  cases ps
  unfold Builtin.Slice.sliceApplied Builtin.Slice.sliceFields
  refine wpAny_bind (wpAny_bind (wpAny_field hos hds rfl (wpAny_bind (wpAny_field hos hds rfl (wpAny_bind (wpAny_field hos hds rfl (wpAny_pure ?_)))))))
  refine wpAny_bind (slicePart_int ?_)
  show wpAny _ _ (if ((-1 : Int) == 0) = true then _ else _) _ _ s
  rw [if_neg (by decide)]
  refine wpAny_bind (slicePart_none (wpAny_bind (slicePart_none (wpAny_bind (wpAny_pure ?_)))))
  show wpAny _ _ (match Builtin.Slice.sliceAdjust none none (-1) (n : Int) with | (lo, hi) => pure (lo, (-1 : Int), Builtin.Slice.slicePlaces lo hi (-1))) _ _ s
  rw [adjust_rev n]
  show wpAny _ _ (pure ((n : Int) - 1, (-1 : Int), Builtin.Slice.slicePlaces ((n : Int) - 1) (-1) (-1))) _ _ s
  rw [places_rev n]
  exact wpAny_pure h
theorem pick_rev (xs : Array Value) : ((List.range xs.size).filterMap fun (k : Nat) => xs[((xs.size : Int) - 1 + (k : Int) * (-1)).toNat]?).toArray = xs.toList.reverse.toArray := by
  have e : (List.range xs.size).filterMap (fun (k : Nat) => xs[((xs.size : Int) - 1 + (k : Int) * (-1)).toNat]?) = ((List.range xs.size).map fun k => xs.size - 1 - k).filterMap (xs[·]?) := by
    rw [List.filterMap_map]
    refine congrArg (fun f => (List.range xs.size).filterMap f) (funext fun k => ?_)
    show xs[((xs.size : Int) - 1 + (k : Int) * (-1)).toNat]? = xs[xs.size - 1 - k]?
    rw [show ((xs.size : Int) - 1 + (k : Int) * (-1)).toNat = xs.size - 1 - k by omega]
  rw [e, PySem.W.krv_range, List.filterMap_reverse, PySem.W.krv_all]
theorem getItem_tuple_rev {t sl : Addr} {items : Array Value} {vl vu vs : Value} {Q : Value → Shared → Prop} (ht : IsTup s.heap t items) (hs : s.heap.IsSliceOf sl vl vu vs) (pl : IsPart vl none) (pu : IsPart vu none) (ps : IsPart vs (some (-1)))
    (h : Q (.ref s.heap.objs.size) { s with heap := s.heap.push { cls := .type "tuple", data := .seq items.toList.reverse.toArray } }) (hsz : items.size ≤ sizeLine) : wpAny (model prog w) A (getItem (.ref t) (.ref sl)) Q E s := by
  have hz : sizeOk (.seq items.toList.reverse.toArray) := by
    show items.toList.reverse.toArray.size ≤ sizeLine
    rw [List.size_toArray, List.length_reverse, Array.length_toList]
    exact hsz
  obtain ⟨os, hos, hcs, hds⟩ := id hs
  have hTs : s.TypeIs (.ref sl) "slice" := ⟨os, hos, hcs⟩
  unfold getItem
  try with_reducible refine wpAny_holding ?_
  first | refine wpAny_bind (wpAny_pure ?_) | skip
  refine wpAny_bind (wpAny_sequenceKey ht.typeIs (by decide) ?_)
  refine wpAny_bind (wpAny_callSpecial?_slot (name := Str.ofString "__getitem__") ht.typeIs slot_tuple_getitem
    (wpAny_call_entry slot_tuple_getitem ht.typeIs entry_tuple_getitem ?_ (args_tuple_getitem _ _)))
  show wpAny _ _ (Builtin.Tuple.tupleItemsOf (.ref t) >>= _) _ _ s
  refine wpAny_bind (tupleItemsOf_ ht ?_)
  refine wpAny_bind (wpAny_typeOf hTs ?_)
  rw [if_pos (by decide)]
  refine wpAny_bind (applied_rev hs pl pu ps ?_)
  show wpAny _ _ (if (((items.size : Int) - 1 == 0 && (-1 : Int) == 1 && items.size == items.size) = true) then _ else _) _ _ s
  rw [if_neg (by simp), pick_rev]
  first
    | exact wpAny_bind (m := Builtin.Tuple.tupleExact _) (wpAny_newObj_type (wpAny_pure ⟨_, rfl, wpAny_pure h⟩) hz)
    | exact wpAny_bind (m := Builtin.Tuple.tupleExact _) (wpAny_newObj_type (wpAny_bind (wpAny_pure (wpAny_pure ⟨_, rfl, wpAny_pure h⟩))) hz)
    | exact wpAny_bind (wpAny_bind (m := Builtin.Tuple.tupleExact _) (wpAny_newObj_type (wpAny_pure (wpAny_pure ⟨_, rfl, wpAny_pure h⟩)) hz))
    | exact wpAny_bind (wpAny_bind (m := Builtin.Tuple.tupleExact _) (wpAny_newObj_type (wpAny_pure ⟨_, rfl, wpAny_pure h⟩) hz))
end
section
variable {X : Cx}
def tRevTu (K : PySem.W.Frag) (te : TE) : TE := fun σ H Q => te σ H fun x H1 => ∃ a xs, x = .ref a ∧ SqT K H1 a xs ∧ ∀ p, H1 p = none → Q (.ref p) (upd H1 p (.tup xs.reverse))
theorem pe_revTu {e : Expr} {te : TE} {k : Nat} {p1 p2 p3 pos : Pos} (he : PE X e te) : PE X (.Subscript e (.Slice none none (some (.UnaryOp .USub (.Constant (.int 1) k p1) p2)) p3) pos) (tRevTu X.K te) := by
  refine ⟨fun pins s σ H Q I h => ?_⟩
  refine Subscript_ (thn (he.run pins s σ H _ I h) fun v s1 ⟨x, H1, I1, r1, a, xs, ex, hx, q⟩ => ?_)
  subst ex
  cases r1
  have hst : PO X (some (.UnaryOp .USub (.Constant (.int 1) k p1) p2)) (tPart (tUn (rU fun i => .int (-i)) (tC (.int 1)))) := po_some (pe_un un_neg pe_int)
  refine wpAny_Slice (thn (po_none.run pins s1 σ H1 (fun o H2 => o = none ∧ H2 = H1) I1 ⟨rfl, rfl⟩) fun vl s2 ⟨l, H2, I2, pl, el, e2⟩ => ?_)
  subst el e2
  refine thn (po_none.run pins s2 σ H2 (fun o H3 => o = none ∧ H3 = H2) I2 ⟨rfl, rfl⟩) fun vu s3 ⟨u, H3, I3, pu, eu, e3⟩ => ?_
  subst eu e3
  refine thn (hst.run pins s3 σ H3 (fun o H4 => o = some (-1) ∧ H4 = H3) I3 ⟨1, rfl, -1, rfl, rfl, rfl⟩) fun vs s4 ⟨o, H4, I4, ps, eo, e4⟩ => ?_
  subst eo e4
  have I5 : Inv X pins σ H4 { s4 with heap := s4.heap.push { cls := .type "slice", data := .fields #[vl, vu, vs] } } := I4.kept (t' := s4.toks) fun b ob q => Heap.get?_push_of_some _ q
  obtain ⟨its, r, ht, hz⟩ := I5.tuple hx
  have hlen := r.length
  refine tail_any (ops := [.ref a, .ref s4.heap.objs.size]) ht.typeIs slot_tuple_getitem.lookup ?_ (by with_unfolding_all rfl)
  refine getItem_tuple_rev ht (Heap.IsSliceOf.new _ vl vu vs) pl pu ps ?_ (by rw [List.size_toArray]; omega)
  exact ⟨.ref _, _, I5.laid (t' := s4.toks) (o := .tup xs.reverse) (fun b ob q => Heap.get?_push_of_some _ q) (Nat.le_refl _) ⟨by rw [List.length_reverse]; exact hz, _, r.reverse, IsTup.new _ _⟩, rfl, q _ (I5.hok.fresh (Nat.le_refl _))⟩
end
end Sl

set_option Elab.async false
set_option linter.all false
set_option maxRecDepth 100000
set_option maxHeartbeats 400000
/-! ### {**a, k: v}, {**a, **b} -/
namespace PySem
open Sem (wp)
section
variable {prog : Program} {w : World} {K : Type} [DecidableEq K] {knd : KeyKind prog w K} {A : Around} {E : Value → Shared → Prop} {s : Shared}
theorem wpAny_dictPut_pairs {d : Addr} {kvs : List (K × Value)} {k : K} {key v : Value} {Q : Unit → Shared → Prop} (hkey : knd.is k key = true) (hm : s.heap.DictOf knd d kvs)
    (hQ : ∀ h', h'.DictOf knd d (stored kvs k v) → Heap.SameBut d s.heap h' → Q () { s with heap := h' })
    (hsz : kvs.length ≤ sizeLine := by size_fits) :
    wpAny (model prog w) A (dictPut d (knd.hash k) key v) Q E s := by
  obtain ⟨o, es, ep, ho, hc, hd, hk, hp, hn⟩ := hm
  have hes : es.size ≤ sizeLine := by have e1 := hp.length; have e2 : es.toList.length = es.size := by simp
                                      omega
  unfold dictPut
  refine wpAny_bind (wpAny_dictFind_of hkey ho hd hk ?_)
  have hidx : (es.findIdx? fun e => knd.is k e.key) = kvs.findIdx? fun kv => decide (kv.1 = k) := by
    rw [← hp.findIdx k]; obtain ⟨l⟩ := es; simp
  cases hi : es.findIdx? fun e => knd.is k e.key with
  | some i =>
    refine wpAny_updateDict ho hd (hQ _ ⟨_, _, ep, Heap.get?_update_self _ ho (Obj.isFreed_of_dict (Obj.data_mapDict hd _)),
      hc.mapDict _, Obj.data_mapDict hd _, hk.modify _ _, ?_, ?_⟩ (Heap.SameBut.update ..))
    · rw [stored, if_pos (any_of_findIdx_some (hidx ▸ hi))]
      have hl : (es.toList.findIdx? fun e => knd.is k e.key) = some i := by rw [← hi]; obtain ⟨l⟩ := es; simp
      have := hp.modify hn hl v
      obtain ⟨l⟩ := es
      simpa using this
    · rw [stored, if_pos (any_of_findIdx_some (hidx ▸ hi)), keys_map_store]; exact hn
  | none =>
    have hnot : k ∉ kvs.map (·.1) := not_mem_of_findIdx_none (hidx ▸ hi)
    have hany : ¬ (kvs.any fun kv => decide (kv.1 = k)) = true := by
      rw [List.any_eq_true]; rintro ⟨kv, hkv, he⟩
      exact hnot (List.mem_map.mpr ⟨kv, hkv, of_decide_eq_true he⟩)
    refine wpAny_updateDictKeys (hz := hes) ho hd (hQ _ ⟨_, _, ep + 1, Heap.get?_update_self _ ho (Obj.isFreed_of_dict (Obj.data_mapDictKeys hd _)),
      hc.mapDictKeys _, Obj.data_mapDictKeys hd _, hk.push hkey _, ?_, ?_⟩ (Heap.SameBut.update ..))
    · rw [stored, if_neg hany]
      have := hp.append hkey (knd.hash k) v
      obtain ⟨l⟩ := es
      simpa using this
    · rw [stored, if_neg hany, List.map_append, List.nodup_append]
      refine ⟨hn, by simp, ?_⟩
      intro a ha b hb
      simp only [List.map_cons, List.map_nil, List.mem_singleton] at hb
      subst hb
      exact fun e => hnot (e ▸ ha)
theorem wpAny_mergeMapping {d o : Addr} {kvs more : List (K × Value)} {Q : Unit → Shared → Prop} (hdo : d ≠ o) (hoS : (o == sysModules) = false) (hnr : ∀ k v, knd.is k v = true → ∀ a, v ≠ .ref a)
    (hd : s.heap.DictOf knd d kvs) (ho : s.heap.DictOf knd o more)
    (hQ : ∀ h', h'.DictOf knd d (merged kvs more) → h'.DictOf knd o more → Heap.SameBut d s.heap h' → Q () { s with heap := h' })
    (hsz : kvs.length + more.length ≤ sizeLine := by size_fits) :
    wpAny (model prog w) A (mergeMapping d (.ref o) false) Q E s := by
  obtain ⟨od, esd, epd, hod, hcd, hdd, hkd, hpd, hnd⟩ := id hd
  obtain ⟨oo, eso, epo, hoo, hco, hdo', hko, hpo, hno⟩ := id ho
  unfold mergeMapping
  refine wpAny_bind (wpAny_isInstance ho.typeIs isSubtype_dict_dict ?_)
  simp only [if_true]
  refine wpAny_bind (wpAny_specialOf ho.typeIs F.slot_dict_iter.lookup ?_)
  simp only [beq_self_eq_true]
  refine wpAny_bind (wpAny_pure ?_)
  dsimp only
  rw [if_neg (by rw [hoS]; exact Bool.false_ne_true)]
  refine wpAny_bind (wpAny_dictEntries hod hdd ?_)
  simp only [Bool.false_eq_true, if_false]
  have hlen : more.length = eso.size := by rw [← hpo.length]; simp
  have loop : wpAny (model prog w) A (do
      let l ← dictEntries o
      let epoch ← dictEpoch o
      forIn (List.range l.size) PUnit.unit fun i (_ : PUnit) => (do
          let l' ← dictEntries o
          match l'[i]? with
            | some e => do
              holding [e.key, e.val] (dictPut d e.hash e.key e.val)
              let ep' ← dictEpoch o
              if (ep' != epoch) = true then do
                  (unsupported "dict.changed-during-merge" : Sem PUnit)
                  pure (ForInStep.yield PUnit.unit)
                else pure (ForInStep.yield PUnit.unit)
            | _ => do
              (unsupported "dict.changed-during-merge" : Sem PUnit)
              pure (ForInStep.yield PUnit.unit) : Sem (ForInStep PUnit))
      pure ()) Q E s := by
    refine wpAny_bind (wpAny_dictEntries hoo hdo' ?_)
    refine wpAny_bind (wpAny_dictEpoch hoo hdo' ?_)
    refine wpAny_bind ?_
    rw [List.range_eq_range']
    refine wpAny_forIn_list _
      (fun rest _ s' => ∃ h' i, s' = { s with heap := h' } ∧ rest = List.range' i (eso.size - i) ∧ i ≤ eso.size ∧ h'.DictOf knd d (merged kvs (more.take i)) ∧ h'.get? o = some oo ∧ Heap.SameBut d s.heap h')
      _ ?_ ?_ _ _ ⟨s.heap, 0, rfl, by simp, Nat.zero_le _, by simpa [merged] using hd, hoo, Heap.SameBut.refl _ _⟩
    · rintro x rest b s' ⟨h', i, rfl, hr, hi, hd', hoo', hs'⟩
      have hlt : i < eso.size := by
        rcases Nat.lt_or_ge i eso.size with h | h
        · exact h
        · rw [Nat.sub_eq_zero_of_le h] at hr; simp at hr
      obtain ⟨rfl, hrest⟩ : x = i ∧ rest = List.range' (i + 1) (eso.size - (i + 1)) := by
        have e : eso.size - i = (eso.size - (i + 1)) + 1 := by omega
        rw [e, List.range'_succ] at hr
        injection hr with h1 h2
        exact ⟨h1, h2⟩
      refine wpAny_bind (wpAny_dictEntries hoo' hdo' ?_)
      rw [Array.getElem?_eq_getElem hlt]
      obtain ⟨kv, hkv⟩ : ∃ kv, more[x]? = some kv := ⟨more[x]'(by rw [hlen]; exact hlt), List.getElem?_eq_getElem _⟩
      obtain ⟨k, v⟩ := kv
      obtain ⟨hkey, hval⟩ := hpo.get? (e := eso[x]) (by simp [hlt]) hkv
      obtain ⟨k', hkey', hhash⟩ := hko eso[x] (Array.getElem_mem hlt)
      obtain rfl : k' = k := knd.inj _ _ _ hkey' hkey
      show wpAny _ _ (holding [eso[x].key, eso[x].val] (dictPut d eso[x].hash eso[x].key eso[x].val) >>= _) _ _ _
      rw [hhash, hval]
      have hmx : (merged kvs (more.take x)).length ≤ sizeLine := by
        have e1 := merged_length_le kvs (more.take x)
        have e2 : (more.take x).length ≤ more.length := by rw [List.length_take]; omega
        omega
      refine wpAny_bind (wpAny_holding (wpAny_dictPut_pairs (hsz := hmx) hkey hd' fun h'' hd'' hs'' => ?_))
      have hoo'' : h''.get? o = some oo := (hs''.2 o (Ne.symm hdo)).trans hoo'
      refine wpAny_bind (wpAny_dictEpoch hoo'' hdo' ?_)
      rw [if_neg (by simp)]
      exact wpAny_pure ⟨h'', x + 1, rfl, hrest, hlt, by rw [merged_take_succ kvs more x (k', v) hkv]; exact hd'', hoo'', hs'.trans hs''⟩
    · rintro b s' ⟨h', i, rfl, hr, hi, hd', hoo', hs'⟩
      have hin : i = eso.size := by
        rcases Nat.lt_or_ge i eso.size with h | h
        · have e : eso.size - i = (eso.size - (i + 1)) + 1 := by omega
          rw [e, List.range'_succ] at hr; exact nomatch hr
        · exact Nat.le_antisymm hi h
      refine wpAny_pure (hQ h' ?_ ⟨oo, eso, epo, hoo', hco, hdo', hko, hpo, hno⟩ hs')
      rw [hin, ← hlen, List.take_length] at hd'; exact hd'
  split
  · refine wpAny_bind (wpAny_dictEntries hoo hdo' ?_)
    have hloop : (forIn eso PUnit.unit fun e (_ : PUnit) => (match e.key with
        | Value.ref a => (do
          let q ← specialOf e.key (Str.ofString "__eq__")
          if (q != some (Value.builtin "object.__eq__")) = true then
            if (Array.filter (fun x => x.hash == e.hash) eso).size > 1 then (do
              (unsupported "dict.merge-into-an-empty-dict:keys-of-equal-hash" : Sem PUnit)
              pure (ForInStep.yield PUnit.unit))
            else pure (ForInStep.yield PUnit.unit)
          else pure (ForInStep.yield PUnit.unit) : Sem (ForInStep PUnit))
        | x => pure (ForInStep.yield PUnit.unit) : Sem (ForInStep PUnit))) = pure PUnit.unit := by
      rw [← Array.forIn_toList]
      refine forIn_yield_id _ fun e he c => ?_
      obtain ⟨k, hkey, _⟩ := hko e (Array.mem_toList_iff.mp he)
      have hn := hnr k _ hkey
      split
      · rename_i a e1
        exact absurd e1 (hn a)
      · rfl
    exact wpAny_bind (wpAny_of_eq hloop loop)
  · exact loop
end
end PySem
namespace PySem
section
variable {prog : Program} {w : World} {A : Around} {E : Value → Shared → Prop} {s : Shared}
theorem wpAny_spread2 {a : Sem Value} {k v : Sem Value} {Q : Value → Shared → Prop}
    (h : wpAny (model prog w) A a (fun m s1 => wpAny (model prog w) A (mergeMapping s.heap.objs.size m false) (fun _ s2 => wpAny (model prog w) A (subDict [(k, v)]) (fun sub s3 => wpAny (model prog w) A (mergeMapping s.heap.objs.size (.ref sub) false) (fun _ s4 => Q (.ref s.heap.objs.size) s4) (fun _ _ => False) s3) E s2) (fun _ _ => False) s1) E
      { s with heap := s.heap.push { cls := .type "dict", data := .dict #[] } }) :
    wpAny (model prog w) A (dictDisplay [(none, a), (some k, v)]) Q E s := by
  unfold dictDisplay
  simp only [List.forIn_cons, List.forIn_nil, List.isEmpty_nil, if_true, pure_bind, bind_pure_comp, bind_assoc, List.nil_append, List.length_singleton]
  refine wpAny_bind (wpAny_alloc ?_)
  refine wpAny_bind (wpAny_holding (wpAny_mono h (fun m s1 h1 => ?_) fun _ _ e => e))
  refine wpAny_bind (wpAny_map (wpAny_onRaise (wpAny_tryCatch (wpAny_onRaise (wpAny_holding (wpAny_mono h1 (fun _ s2 h2 => ?_) fun _ _ e => e.elim))))))
  dsimp only
  simp only [List.nil_append, List.length_singleton, List.isEmpty_cons, Bool.false_eq_true, if_false]
  rw [if_neg (by decide)]
  refine wpAny_bind (wpAny_bind (wpAny_pure ?_))
  dsimp only
  refine wpAny_pure ?_
  simp only [List.isEmpty_cons, Bool.false_eq_true, if_false]
  refine wpAny_bind (wpAny_bind (wpAny_holding (wpAny_mono h2 (fun sub s3 h3 => ?_) fun _ _ e => e)))
  refine wpAny_map (wpAny_onRaise (wpAny_holding (wpAny_mono h3 (fun _ s4 h4 => ?_) fun _ _ e => e.elim)))
  exact wpAny_pure h4
theorem wpAny_spread1 {a b : Sem Value} {Q : Value → Shared → Prop}
    (h : wpAny (model prog w) A a (fun m s1 => wpAny (model prog w) A (mergeMapping s.heap.objs.size m false) (fun _ s2 => wpAny (model prog w) A b (fun m2 s3 => wpAny (model prog w) A (mergeMapping s.heap.objs.size m2 false) (fun _ s4 => Q (.ref s.heap.objs.size) s4) (fun _ _ => False) s3) E s2) (fun _ _ => False) s1) E
      { s with heap := s.heap.push { cls := .type "dict", data := .dict #[] } }) :
    wpAny (model prog w) A (dictDisplay [(none, a), (none, b)]) Q E s := by
  unfold dictDisplay
  simp only [List.forIn_cons, List.forIn_nil, List.isEmpty_nil, if_true, pure_bind, bind_pure_comp, bind_assoc, List.nil_append, List.length_singleton]
  refine wpAny_bind (wpAny_alloc ?_)
  refine wpAny_bind (wpAny_holding (wpAny_mono h (fun m s1 h1 => ?_) fun _ _ e => e))
  refine wpAny_bind (wpAny_map (wpAny_onRaise (wpAny_tryCatch (wpAny_onRaise (wpAny_holding (wpAny_mono h1 (fun _ s2 h2 => ?_) fun _ _ e => e.elim))))))
  dsimp only
  simp only [List.isEmpty_nil, if_true, pure_bind]
  refine wpAny_bind (wpAny_bind (wpAny_bind (wpAny_holding (wpAny_mono h2 (fun m2 s3 h3 => ?_) fun _ _ e => e))))
  refine wpAny_map (wpAny_onRaise (wpAny_tryCatch (wpAny_onRaise (wpAny_holding (wpAny_mono h3 (fun _ s4 h4 => ?_) fun _ _ e => e.elim)))))
  dsimp only
  refine wpAny_pure ?_
  simp only [List.isEmpty_nil, if_true, pure_bind]
  exact wpAny_pure h4
end
end PySem

namespace Sl
open PySem PySem.Spec PyProof.Rows L2
theorem mix_noRef {P : Program} {w : World} (k : Key) (v : Value) (h : (mixKind P w).is k v = true) (a : Addr) : v ≠ .ref a := by
  intro e
  subst e
  cases k with
  | inl i => exact Bool.noConfusion (show false = true from h)
  | inr x => exact Bool.noConfusion (show false = true from h)
theorem kv_keys {kvs : List (Key × V)} {vs : List (Key × Value)} (r : KV kvs vs) : kvs.map (·.1) = vs.map (·.1) := by
  unfold KV at r
  induction r with
  | nil => rfl
  | cons h t ih => rw [List.map_cons, List.map_cons, h.1, ih]
/-- {**a, k: v} -/
def tSpread (ta tk tv : TE) : TE := fun σ H Q => ∀ p, H p = none → ta σ (upd H p (.dK [])) fun x H1 => ∃ a kvs, x = .ref a ∧ a ≠ p ∧ H1 p = some (.dK []) ∧ H1 a = some (.dK kvs) ∧ kvs.length + 1 ≤ sizeLine ∧
  ∀ q, upd H1 p (.dK kvs) q = none → tPairs [(tk, tv)] σ (upd (upd H1 p (.dK kvs)) q (.dK [])) fun ps H2 => H2 q = some (.dK []) ∧ H2 p = some (.dK kvs) ∧ ∃ k y, ps = [(kV k, y)] ∧ Q (.ref p) (upd (upd H2 q (.dK [(k, y)])) p (.dK (putK kvs k y)))
/-- {**a, **b} -/
def tSpread2 (ta tb : TE) : TE := fun σ H Q => ∀ p, H p = none → ta σ (upd H p (.dK [])) fun x H1 => ∃ a kvs, x = .ref a ∧ a ≠ p ∧ H1 p = some (.dK []) ∧ H1 a = some (.dK kvs) ∧
  tb σ (upd H1 p (.dK kvs)) fun y H2 => ∃ b more, y = .ref b ∧ b ≠ p ∧ H2 p = some (.dK kvs) ∧ H2 b = some (.dK more) ∧ kvs.length + more.length ≤ sizeLine ∧ ((more.map (·.1)).Nodup → Q (.ref p) (upd H2 p (.dK (mergeK kvs more))))
theorem kv_merge_nil {P : Program} {w : World} {h : Heap} {a : Addr} {kvs : List (Key × V)} {vs : List (Key × Value)} (dd : h.DictOf (mixKind P w) a vs) : merged [] vs = vs := by
  obtain ⟨_, _, _, _, _, _, _, _, hn⟩ := dd
  exact merged_nil_of_nodup vs hn
section
variable {X : Cx} {pins : List (Addr × Obj)} {σ : L2.St} {H : Hp} {s : Shared} {p a : Addr} {kvs more : List (Key × V)} {Q : Unit → Shared → Prop}
theorem d_merge (I : Inv X pins σ H s) (hp : H p = some (.dK kvs)) (ha : H a = some (.dK more)) (ne : a ≠ p) (hz : kvs.length + more.length ≤ sizeLine) (h : ∀ s', Inv X pins σ (upd H p (.dK (mergeK kvs more))) s' → Q () s') :
    wpAny (model X.prog X.w) X.A (mergeMapping p (.ref a) false) Q (fun _ _ => False) s := by
  obtain ⟨_, hd1, vs, r1, d1⟩ := dk_of I.hok hp
  obtain ⟨_, hd2, ws, r2, d2⟩ := dk_of I.hok ha
  have l1 := r1.length
  have l2 := r2.length
  refine wpAny_mergeMapping (knd := mixKind X.prog X.w) (Ne.symm ne) hd2 mix_noRef d1 d2 (fun h' dd' _ hs => h _ ?_) (by omega)
  have he : ∃ q, h'.get? p = some q := let ⟨q, _, _, hq, _⟩ := dd'; ⟨q, hq⟩
  have lm := length_mergeK more kvs
  exact d_write I (by rw [hp]; exact True.intro) hs he (dk_new (by omega) hd1 (r2.merge r1) dd')
theorem merge_nil_kvs (I : Inv X pins σ H s) (ha : H a = some (.dK kvs)) : mergeK [] kvs = kvs := by
  obtain ⟨_, _, vs, r, dd⟩ := dk_of I.hok ha
  have hn : (vs.map (·.1)).Nodup := let ⟨_, _, _, _, _, _, _, _, hn⟩ := dd; hn
  have e : kvs.map (·.1) = vs.map (·.1) := kv_keys r
  rw [← e] at hn
  have key : ∀ (l acc : List (Key × V)), ((acc ++ l).map (·.1)).Nodup → mergeK acc l = acc ++ l := by
    intro l
    induction l with
    | nil =>
      intro acc _
      show acc = acc ++ []
      rw [List.append_nil]
    | cons x l ih =>
      intro acc h
      have e1 : putK acc x.1 x.2 = acc ++ [x] := by
        unfold putK
        rw [if_neg]
        intro z
        obtain ⟨y, hy, ey⟩ := List.any_eq_true.mp z
        rw [List.map_append, List.map_cons] at h
        exact (List.nodup_append.mp h).2.2 y.1 (List.mem_map.mpr ⟨y, hy, rfl⟩) x.1 List.mem_cons_self (of_decide_eq_true ey)
      show mergeK (putK acc x.1 x.2) l = _
      rw [e1, ih]
      · rw [List.append_assoc]
        rfl
      · rw [List.append_assoc]
        exact h
  simpa using key kvs [] (by simpa using hn)
end
section
variable {X : Cx} {a b k v : Expr} {ta tb tk tv : TE} {pos : Pos}
theorem pe_spread (ha : PE X a ta) (hk : PE X k tk) (hv : PE X v tv) : PE X (.Dict [none, some k] [a, v] pos) (tSpread ta tk tv) := by
  refine ⟨fun pins s σ H Q I h => ?_⟩
  have sl := sizeLine_eq
  have hn := I.hok.fresh (Nat.le_refl s.heap.objs.size)
  have I1 := I.laid (a := s.heap.objs.size) (o := .dK []) (h' := s.heap.push { cls := .type "dict", data := .dict #[] }) (t' := s.toks) (fun _ _ q => Heap.get?_push_of_some _ q) (Nat.le_refl _) (dk_empty s.heap I.big)
  rw [arm_eval_Dict]
  refine wpAny_bind (wpAny_standAt ?_)
  show wpAny _ _ (dictDisplay [(none, (do let x ← eval a X.env; standAt pos; pure x)), (some (eval k X.env), (do let x ← eval v X.env; standAt pos; pure x))]) _ _ _
  refine wpAny_spread2 (wpAny_bind (thn (ha.run pins _ σ _ _ I1 (h _ hn)) fun u s1 ⟨x, H1, I2, rx, a1, kvs, ex, ne, h1p, h1a, hz, q⟩ => ?_))
  subst ex
  obtain rfl : u = Value.ref a1 := rx
  refine wpAny_bind (wpAny_standAt (wpAny_pure ?_))
  have e0 := merge_nil_kvs I2 h1a
  refine d_merge I2 h1p h1a ne (by rw [List.length_nil]; omega) fun s2 I3 => ?_
  rw [e0] at I3
  have hn3 := I3.hok.fresh (Nat.le_refl s2.heap.objs.size)
  have q' := q _ hn3
  have I4 := I3.laid (a := s2.heap.objs.size) (o := .dK []) (h' := s2.heap.push { cls := .type "dict", data := .dict #[] }) (t' := s2.toks) (fun _ _ q => Heap.get?_push_of_some _ q) (Nat.le_refl _) (dk_empty s2.heap I3.big)
  have hP : PPs X pos [some k] [v] [(tk, tv)] := pps_cons hk hv pps_nil
  refine wpAny_subDict (knd := mixKind X.prog X.w) (by simp) (thn (hP.run pins _ σ _ _ I4 q') fun ws s3 ⟨ps, H2, I5, rel, h2q, h2p, kk, y, ep, qq⟩ => ?_)
  subst ep
  obtain ⟨rs, c, rk⟩ := carries_of (P := X.prog) (w := X.w) (kvs := [(kk, y)]) rel
  obtain ⟨z, hd, vs0, r0, dd⟩ := dk_of I5.hok h2q
  cases r0
  refine ⟨rs, c, dd, fun h' dd' hs => ?_⟩
  have he : ∃ q, h'.get? s2.heap.objs.size = some q := let ⟨q, _, _, hq, _⟩ := dd'; ⟨q, hq⟩
  have I6 := d_write (t' := s3.toks + ws.length) I5 (by rw [h2q]; exact True.intro) hs he (dk_new (kvs := [(kk, y)]) (by rw [sl]; simp) hd (rk.merge .nil) dd')
  have npq : s.heap.objs.size ≠ s2.heap.objs.size := fun z => by
    rw [← z, upd_same] at hn3
    cases hn3
  refine wpAny_mono (d_merge I6 (p := s.heap.objs.size) (a := s2.heap.objs.size) (kvs := kvs) (more := [(kk, y)]) (by rw [upd_ne npq]; exact h2p) upd_same (Ne.symm npq) (by simp; omega) fun s' I7 => ⟨.ref s.heap.objs.size, _, I7, rfl, qq⟩) (fun _ _ z => z) fun _ _ z => z
theorem pe_spread2 (ha : PE X a ta) (hb : PE X b tb) : PE X (.Dict [none, none] [a, b] pos) (tSpread2 ta tb) := by
  refine ⟨fun pins s σ H Q I h => ?_⟩
  have hn := I.hok.fresh (Nat.le_refl s.heap.objs.size)
  have I1 := I.laid (a := s.heap.objs.size) (o := .dK []) (h' := s.heap.push { cls := .type "dict", data := .dict #[] }) (t' := s.toks) (fun _ _ q => Heap.get?_push_of_some _ q) (Nat.le_refl _) (dk_empty s.heap I.big)
  rw [arm_eval_Dict]
  refine wpAny_bind (wpAny_standAt ?_)
  show wpAny _ _ (dictDisplay [(none, (do let x ← eval a X.env; standAt pos; pure x)), (none, (do let x ← eval b X.env; standAt pos; pure x))]) _ _ _
  refine wpAny_spread1 (wpAny_bind (thn (ha.run pins _ σ _ _ I1 (h _ hn)) fun u s1 ⟨x, H1, I2, rx, a1, kvs, ex, ne, h1p, h1a, q⟩ => ?_))
  subst ex
  obtain rfl : u = Value.ref a1 := rx
  refine wpAny_bind (wpAny_standAt (wpAny_pure ?_))
  have e0 := merge_nil_kvs I2 h1a
  have z1 := (dk_of I2.hok h1a).1
  refine d_merge I2 h1p h1a ne (by rw [List.length_nil]; omega) fun s2 I3 => ?_
  rw [e0] at I3
  refine wpAny_bind (thn (hb.run pins _ σ _ _ I3 q) fun u2 s3 ⟨y, H2, I4, ry, b1, more, ey, ne2, h2p, h2b, hz, qq⟩ => ?_)
  subst ey
  obtain rfl : u2 = Value.ref b1 := ry
  have nm : (more.map (·.1)).Nodup := by
    obtain ⟨_, _, vs, r, dd⟩ := dk_of I4.hok h2b
    rw [kv_keys r]
    obtain ⟨_, _, _, _, _, _, _, _, hn⟩ := dd
    exact hn
  refine wpAny_bind (wpAny_standAt (wpAny_pure ?_))
  exact wpAny_mono (d_merge I4 h2p h2b ne2 hz fun s' I5 => ⟨.ref s.heap.objs.size, _, I5, rfl, qq nm⟩) (fun _ _ z => z) fun _ _ z => z
end
end Sl

namespace Sl
open PySem PySem.Spec PyProof.Rows L2
theorem valV_none {kvs : List (Key × V)} {k : Key} (h : k ∉ kvs.map (·.1)) : valV kvs k = none := by
  induction kvs with
  | nil => rfl
  | cons p r ih =>
    rw [List.map_cons] at h
    rw [valV_neg fun z => h (by rw [z]; exact List.mem_cons_self)]
    exact ih fun z => h (List.mem_cons_of_mem _ z)
theorem valV_merge (k : Key) : ∀ (more kvs : List (Key × V)), (more.map (·.1)).Nodup → valV (mergeK kvs more) k = match valV more k with | some v => some v | none => valV kvs k
  | [], kvs, _ => rfl
  | m :: rest, kvs, h => by
    rw [List.map_cons] at h
    obtain ⟨h1, h2⟩ := List.nodup_cons.mp h
    show valV (mergeK (putK kvs m.1 m.2) rest) k = _
    rw [valV_merge k rest _ h2, valV_put]
    by_cases e : k = m.1
    · subst e
      rw [valV_none h1, if_pos rfl, valV_pos rfl]
    · rw [if_neg e, valV_neg fun z => e z.symm]
end Sl

set_option Elab.async false
set_option linter.all false
set_option maxRecDepth 100000
set_option maxHeartbeats 400000
/-! ## first_walk -/
namespace Sl
open PySem PySem.Spec PyProof.Rows L2
abbrev sWalk : Stmt := topT 26
theorem scWalk : FnScope ["inner", "root", "met", "waiting", "number"] ["inner", "root"] (defScope sWalk) := ⟨rfl, rfl, rfl, by decide +kernel, rfl, by decide +kernel, by decide +kernel⟩
def iL (l : List Nat) : List V := l.map fun i => V.int (i : Nat)
/-- the dict that holds these numbers -/
def kvI (m : List Nat) : List (Key × V) := m.map fun i => (Sum.inl ((i : Nat) : Int), V.bl true)
theorem kvI_keys (m : List Nat) : (kvI m).map (·.1) = m.map fun i => Sum.inl ((i : Nat) : Int) := by
  unfold kvI
  rw [List.map_map]
  rfl
theorem kvI_len (m : List Nat) : (kvI m).length = m.length := List.length_map ..
theorem kvI_none {m : List Nat} {i : Nat} (h : i ∉ m) : valV (kvI m) (Sum.inl ((i : Nat) : Int)) = none := valV_none fun z => by
  rw [kvI_keys] at z
  obtain ⟨j, hj, e⟩ := List.mem_map.mp z
  have : j = i := Int.ofNat.inj (Sum.inl.inj e)
  exact h (this ▸ hj)
theorem kvI_some {i : Nat} : ∀ {m : List Nat}, i ∈ m → valV (kvI m) (Sum.inl ((i : Nat) : Int)) = some (.bl true)
  | a :: m, h => by
    by_cases e : a = i
    · subst e
      exact valV_pos (p := (Sum.inl ((a : Nat) : Int), V.bl true)) (r := kvI m) rfl
    · have h2 : i ∈ m := (List.mem_cons.mp h).resolve_left fun z => e z.symm
      refine (valV_neg (p := (Sum.inl ((a : Nat) : Int), V.bl true)) (r := kvI m) fun z => e (Int.ofNat.inj (Sum.inl.inj z))).trans (kvI_some h2)
theorem kvI_put {m : List Nat} {i : Nat} (h : i ∉ m) : putK (kvI m) (Sum.inl ((i : Nat) : Int)) (.bl true) = kvI (m ++ [i]) := by
  rw [putK_new _ (kvI_none h)]
  unfold kvI
  rw [List.map_append]
  rfl
theorem kvI_get {H : Hp} {a : Addr} {m : List Nat} (i : Nat) (e : H a = some (.dK (kvI m))) : ∃ o, DGet H a (.int (i : Nat)) o ∧ o.isSome = decide (i ∈ m) := by
  refine ⟨_, DGet.k (k := Sum.inl ((i : Nat) : Int)) e, ?_⟩
  by_cases h : i ∈ m
  · rw [kvI_some h, decide_eq_true h]
    rfl
  · rw [kvI_none h, decide_eq_false h]
    rfl
/-- a walk's sizes -/
theorem nd_len' {l : List Nat} {n : Nat} (nd : l.Nodup) (lt : ∀ a ∈ l, a < n) : l.length ≤ n := by
  have : ∀ {l m : List Nat}, l.Nodup → (∀ x ∈ l, x ∈ m) → l.length ≤ m.length := fun {l} => by
    induction l with
    | nil => exact fun _ _ => Nat.zero_le _
    | cons a l ih =>
      intro m h s
      have ⟨h1, h2⟩ := List.nodup_cons.mp h
      have am := s a List.mem_cons_self
      have z := ih (m := m.erase a) h2 fun x hx => (List.mem_erase_of_ne (fun z : x = a => h1 (z ▸ hx))).mpr (s x (List.mem_cons_of_mem _ hx))
      rw [List.length_erase_of_mem am] at z
      have : 0 < m.length := List.length_pos_of_mem am
      rw [List.length_cons]
      omega
  have z := this (m := List.range n) nd fun x hx => List.mem_range.mpr (lt x hx)
  rwa [List.length_range] at z
section
variable {P : Program} {w : World} {K : PySem.W.Frag} {mg : Str → Option Value} {base : Heap}
/-- lists of numbers below n, three at most -/
def KsOk (ks : List (List Nat)) : Prop := ∀ c ∈ ks, c.length ≤ 3 ∧ ∀ a ∈ c, a < ks.length
def ksF (ks : List (List Nat)) (i : Nat) : List Nat := ks.getD i []
theorem ksF_lt {ks : List (List Nat)} (ok : KsOk ks) (i : Nat) : (ksF ks i).length ≤ 3 ∧ ∀ a ∈ ksF ks i, a < ks.length := by
  unfold ksF
  rw [List.getD_eq_getElem?_getD]
  cases h : ks[i]? with
  | none => exact ⟨Nat.zero_le _, fun a ha => by cases ha⟩
  | some c => exact ok c (List.mem_of_getElem? h)
def spWalk (K : PySem.W.Frag) : Sp := fun vs H Q _ => ∃ (a : Addr) (xs : List V) (ks : List (List Nat)) (r : Nat), vs = [.ref a, .int (r : Nat)] ∧ SqL K H a xs ∧ RddAll K H xs (ks.map fun c => .tup (iD c)) ∧ KsOk ks ∧ r < ks.length ∧ ks.length ≤ 4000 ∧
  ∀ o p H', FW (ksF ks) [] [r] o → o.Nodup → (∀ i ∈ o, i < ks.length) → Same H H' → H p = none → H' p = some (.lst (iL o)) → Q (.ref p) H'
theorem ok_walk {f : Addr} {fd : FuncData} (F : Fun K "first_walk" "first_walk" sWalk f fd) (B : Bt mg) : FnOk P w K mg base CX0 1 f fd ["inner", "root"] (spWalk K) := by
  refine F.ok scWalk (fun vs H Q E h => ?_) (fun cdv A outer s H vs Q E hr h => ?_)
  · obtain ⟨a, xs, ks, r, rfl, _⟩ := h
    rfl
  · obtain ⟨a, xs, ks, r, rfl, ha, hx, ok, hlt, hn, q⟩ := h
    have hu := hu_of hr
    have sl := sizeLine_eq
    --D
    refine ⟨_, (pss_cons (ps_set (i := 2) scWalk.nd rfl (Or.inl rfl) pe_dnewK)
        (pss_cons (ps_set (i := 3) scWalk.nd rfl (Or.inl rfl) (pe_lst (pa_cons (pv 1) pa_nil)))
        (pss_cons (ps_while PassesOwn.never (pt_truth (pv 3) (by intro _; rfl))
        (pss_cons (ps_set (i := 4) scWalk.nd rfl (Or.inl rfl) (pe_bm0 PySem.F.plainAttrs_list PySem.F.slot_list_pop PySem.F.type_list_pop mt_pop (pv 3)))
        (pss_one (ps_if (pt_cmp (pc_dnotin hu (pv 4) (pv 2)))
          (pss_cons (ps_asg pe_bl (pg_sub (pv 2) (pv 4) (set_dict hu)))
        (pss_one (ps_expr (pe_bm PySem.F.plainAttrs_list PySem.F.slot_list_extend PySem.F.type_list_extend mt_extendT (pv 3) (pa_cons (pe_revTu (pe_ix ix_list (pv 0) (pv 4) (fun _ _ => rfl))) pa_nil))))) pss_nil))))
        (pss_one (ps_ret (pe_callTy (call_list_dK rfl) (by rfl) B.list (by decide +kernel) (pa_cons (pv 2) pa_nil))))))), ?_⟩
    --E
    have hnone : ∀ {G : Hp} {b : Addr}, Same H G → G b = none → H b = none := fun {G b} s n => by
      cases e : H b with
      | none => rfl
      | some o =>
        rw [s _ _ e] at n
        cases n
    refine fun mt nm => ?_
    have s1 := Same.new (o := .dK []) nm
    have hm1 : (upd H mt (.dK [])) mt = some (.dK (kvI [])) := upd_same
    generalize upd H mt (.dK []) = H1 at s1 hm1 ⊢
    refine ⟨_, rfl, (by show 1 ≤ sizeLine; omega), fun w0 nw => ?_⟩
    have mw : mt ≠ w0 := ne_of_none hm1 nw
    have nw0 := hnone s1 nw
    have s2 := Same.new (o := .lst [V.int (r : Nat)]) nw
    have hw2 : (upd H1 w0 (.lst [V.int (r : Nat)])) w0 = some (.lst (iL [r].reverse)) := upd_same
    have hm2 := s2 _ _ hm1
    have s12 := s1.trans s2
    generalize upd H1 w0 (.lst [V.int (r : Nat)]) = H2 at s12 hm2 hw2 ⊢
    refine ⟨fun μ σ' G => ∃ (m st : List Nat) (g : Option V), μ = 4 * (ks.length - m.length) + st.length ∧ σ' = [some (.ref a), some (.int (r : Nat)), some (.ref mt), some (.ref w0), g] ∧ Same H G ∧ G mt = some (.dK (kvI m)) ∧ G w0 = some (.lst (iL st.reverse)) ∧ m.Nodup ∧ (∀ i ∈ m, i < ks.length) ∧ (∀ i ∈ st, i < ks.length) ∧ st.length ≤ 3 * m.length + 1 ∧ ∀ o, FW (ksF ks) m st o → FW (ksF ks) [] [r] o,
      ⟨_, [], [r], none, rfl, rfl, s12, hm2, hw2, .nil, (by simp), (fun i hi => by rw [List.mem_singleton.mp hi]; exact hlt), (by simp), fun o h => h⟩, ?_⟩
    rintro μ σ' G ⟨m, st, g, rfl, rfl, sG, hm, hw, ndm, ltm, lts, l3, fw⟩
    have lm := nd_len' ndm ltm
    refine ⟨.ref w0, rfl, !(iL st.reverse).isEmpty, .inl ⟨_, SqL.of hw, rfl⟩, ?_⟩
    cases st with
    | nil =>
      refine iteF ⟨_, rfl, mt, _, rfl, hm, fun p np => ?_⟩
      refine q m p _ (fw m .nil) ndm ltm (sG.trans (Same.new np)) (hnone sG np) ?_
      have e : (kvI m).map (fun kv => kV kv.1) = iL m := by
        unfold kvI iL
        rw [List.map_map]
        rfl
      rw [e]
      exact upd_same
    | cons s st =>
      have es : iL (s :: st).reverse = iL st.reverse ++ [V.int (s : Nat)] := by
        unfold iL
        rw [List.reverse_cons, List.map_append]
        rfl
      rw [es] at hw ⊢
      have hs := lts s List.mem_cons_self
      rw [show (!(iL st.reverse ++ [V.int (s : Nat)]).isEmpty) = true by simp]
      refine iteT ⟨fun σ2 G2 => ∃ (m2 st2 : List Nat), 4 * (ks.length - m2.length) + st2.length < 4 * (ks.length - m.length) + (s :: st).length ∧ ∃ g : Option V, σ2 = [some (.ref a), some (.int (r : Nat)), some (.ref mt), some (.ref w0), g] ∧ Same H G2 ∧ G2 mt = some (.dK (kvI m2)) ∧ G2 w0 = some (.lst (iL st2.reverse)) ∧ m2.Nodup ∧ (∀ i ∈ m2, i < ks.length) ∧ (∀ i ∈ st2, i < ks.length) ∧ st2.length ≤ 3 * m2.length + 1 ∧ ∀ o, FW (ksF ks) m2 st2 o → FW (ksF ks) [] [r] o, ?_, ?_⟩
      · rintro σ2 G2 ⟨m2, st2, l2, g2, rest⟩
        exact ⟨_, l2, m2, st2, g2, rfl, rest⟩
      refine ⟨.ref w0, rfl, .inl ⟨rfl, _, SqL.of hw⟩, w0, _, .int (s : Nat), rfl, rfl, hw, by simp, ?_⟩
      rw [List.dropLast_concat]
      have sG1 : Same H (upd G w0 (.lst (iL st.reverse))) := jr_same.put sG nw0
      have hm1' : (upd G w0 (.lst (iL st.reverse))) mt = some (.dK (kvI m)) := by rw [upd_ne mw]; exact hm
      have hw1 : (upd G w0 (.lst (iL st.reverse))) w0 = some (.lst (iL st.reverse)) := upd_same
      generalize upd G w0 (.lst (iL st.reverse)) = G1 at sG1 hm1' hw1 ⊢
      obtain ⟨o, hg, ho⟩ := kvI_get s hm1'
      refine ⟨_, rfl, _, rfl, mt, o, rfl, hg, _, rfl, ?_⟩
      rw [ho]
      by_cases sm : s ∈ m
      · rw [decide_eq_true sm]
        refine iteF ⟨m, st, by rw [List.length_cons]; omega, _, rfl, sG1, hm1', hw1, ndm, ltm, fun i hi => lts i (List.mem_cons_of_mem _ hi), by rw [List.length_cons] at l3; omega, fun o h => fw o (.old sm h)⟩
      · rw [decide_eq_false sm]
        have lmn : m.length < ks.length := by
          have := nd_len' (n := ks.length) (List.nodup_cons.mpr ⟨sm, ndm⟩) fun i hi => by
            rcases List.mem_cons.mp hi with rfl | hi
            · exact hs
            · exact ltm i hi
          rw [List.length_cons] at this
          omega
        refine iteT ⟨_, rfl, _, rfl, mt, _, rfl, DPut.k (k := Sum.inl ((s : Nat) : Int)) hm1' (by rw [kvI_len]; omega), ?_⟩
        rw [kvI_put sm]
        have sG2 : Same H (upd G1 mt (.dK (kvI (m ++ [s])))) := jr_same.put sG1 nm
        have hm2' : (upd G1 mt (.dK (kvI (m ++ [s])))) mt = some (.dK (kvI (m ++ [s]))) := upd_same
        have hw2' : (upd G1 mt (.dK (kvI (m ++ [s])))) w0 = some (.lst (iL st.reverse)) := by rw [upd_ne (Ne.symm mw)]; exact hw1
        generalize upd G1 mt (.dK (kvI (m ++ [s]))) = G2 at sG2 hm2' hw2' ⊢
        obtain ⟨k3, klt⟩ := ksF_lt ok s
        obtain ⟨y, hy, ry⟩ := hx.at (i := s) (d := .tup (iD (ksF ks s))) (by
          rw [List.getElem?_map]
          unfold ksF
          rw [List.getD_eq_getElem?_getD, List.getElem?_eq_getElem hs]
          rfl)
        obtain ⟨b0, zs, rfl, hb, hz, _⟩ := (Rdd.ex (Ex.same sG2) _ ry).tupd'
        have ez := iD_ints hz
        refine ⟨_, rfl, .inl ⟨rfl, _, SqL.of hw2'⟩, .ref a, rfl, _, rfl, a, xs, ((s : Nat) : Int), .ref b0, rfl, rfl, Same.seq sG2 ha, atI_nat hy, b0, zs, rfl, hb, fun p np => ?_⟩
        have s3 := Same.new (o := .tup zs.reverse) np
        have hp3 : (upd G2 p (.tup zs.reverse)) p = some (.tup zs.reverse) := upd_same
        have hm3 := s3 _ _ hm2'
        have hw3 := s3 _ _ hw2'
        have sG3 := sG2.trans s3
        generalize upd G2 p (.tup zs.reverse) = G3 at s3 hp3 hm3 hw3 sG3 ⊢
        have lz : zs.length = (ksF ks s).length := by rw [ez, List.length_map]
        have lst' : (iL st.reverse).length = st.length := by
          unfold iL
          rw [List.length_map, List.length_reverse]
        have e3 : iL st.reverse ++ zs.reverse = iL (ksF ks s ++ st).reverse := by
          unfold iL
          rw [ez, List.reverse_append, List.map_append, List.map_reverse (l := ksF ks s)]
          
        rw [List.length_cons] at l3
        refine ⟨w0, p, _, _, rfl, rfl, hw3, SqT.of hp3, by rw [List.length_reverse]; omega, ?_⟩
        rw [e3]
        refine ⟨m ++ [s], ksF ks s ++ st, by simp only [List.length_append, List.length_cons, List.length_nil]; omega, _, rfl, jr_same.put sG3 nw0, by rw [upd_ne mw]; exact hm3, upd_same, ?_, ?_, ?_, by simp only [List.length_append, List.length_cons, List.length_nil]; omega, fun o h => fw o (.new sm h)⟩
        · exact List.nodup_append.mpr ⟨ndm, by simp, fun x hx y hy => by
            rw [List.mem_singleton.mp hy]
            exact fun z => sm (z ▸ hx)⟩
        · intro i hi
          rcases List.mem_append.mp hi with hi | hi
          · exact ltm i hi
          · rw [List.mem_singleton.mp hi]
            exact hs
        · intro i hi
          rcases List.mem_append.mp hi with hi | hi
          · exact klt i hi
          · exact lts i (List.mem_cons_of_mem _ hi)
end
end Sl

set_option Elab.async false
set_option linter.all false
set_option maxRecDepth 100000
set_option maxHeartbeats 400000
/-! ## len(set(xs)), xs any list of ints -/
namespace Sl
open PySem PySem.Spec PyProof.Rows L2 PySem.W
theorem oss_nd_from : ∀ (l ks : List Int), ks.Nodup → (l.foldl step_dedup ks).Nodup
  | [], ks, h => h
  | a :: l, ks, h => by
    rw [List.foldl_cons]
    refine oss_nd_from l _ ?_
    rw [oss_step]
    split
    · exact h
    · rename_i n
      exact List.nodup_append.mpr ⟨h, by simp, fun x hx y hy => by
        rw [List.mem_singleton.mp hy]
        exact fun z => n (z ▸ hx)⟩
theorem oss_nd (l : List Int) : (ossOf l).Nodup := oss_nd_from l [] List.nodup_nil
theorem nd_len : ∀ {l m : List Int}, l.Nodup → (∀ x ∈ l, x ∈ m) → l.length ≤ m.length
  | [], _, _, _ => Nat.zero_le _
  | a :: l, m, h, s => by
    have ⟨h1, h2⟩ := List.nodup_cons.mp h
    have am := s a List.mem_cons_self
    have := nd_len (l := l) (m := m.erase a) h2 fun x hx => (List.mem_erase_of_ne (fun z : x = a => h1 (z ▸ hx))).mpr (s x (List.mem_cons_of_mem _ hx))
    rw [List.length_erase_of_mem am] at this
    have : 0 < m.length := List.length_pos_of_mem am
    rw [List.length_cons]
    omega
theorem oss_same {l : List Int} (h : l.Nodup) : (ossOf l).length = l.length :=
  Nat.le_antisymm (oss_len l) (nd_len h fun x hx => oss_has.mpr hx)
theorem oss_full : ∀ (l ks : List Int), (l.foldl step_dedup ks).length = ks.length + l.length → l.Nodup ∧ ∀ x ∈ l, x ∉ ks
  | [], _, _ => ⟨List.nodup_nil, fun x h => by cases h⟩
  | a :: l, ks, e => by
    rw [List.foldl_cons, oss_step] at e
    by_cases h : a ∈ ks
    · rw [if_pos h] at e
      have := oss_len_from l ks
      rw [List.length_cons] at e
      omega
    · rw [if_neg h] at e
      obtain ⟨h1, h2⟩ := oss_full l (ks ++ [a]) (by rw [e, List.length_append, List.length_cons, List.length_singleton]; omega)
      refine ⟨List.nodup_cons.mpr ⟨fun z => h2 a z (List.mem_append_right _ (List.mem_singleton.mpr rfl)), h1⟩, fun x hx => ?_⟩
      rcases List.mem_cons.mp hx with rfl | hx
      · exact h
      · exact fun z => h2 x hx (List.mem_append_left _ z)
theorem oss_iff (l : List Int) : (ossOf l).length = l.length ↔ l.Nodup := by
  refine ⟨fun e => (oss_full l [] ?_).1, oss_same⟩
  show (ossOf l).length = _
  rw [e]
  simp
def tLenSetA (K : PySem.W.Frag) (ta : TE) : TE := fun σ H Q => ta σ H fun x H1 => ∃ (l : Addr) (ns : List Int), x = .ref l ∧ SqL K H1 l (ns.map V.int) ∧ ns.length ≤ 4000 ∧ Q (.int ((ossOf ns).length : Nat)) H1
theorem pe_lenSetA {X : Cx} {a : Expr} {ta : TE} {p p2 q pos : Pos} (hg : Gl X "len") (hm : X.mg "len" = none) (hg2 : Gl X "set") (hm2 : X.mg "set" = none) (ha : PE X a ta) (hc : X.calm = true := by rfl)
    (na : starEach [a] X.env = (false, eval a X.env) :: starEach [] X.env := by rfl) : PE X (.Call (.Name "len" p) [.Call (.Name "set" p2) [a] [] q] [] pos) (tLenSetA X.K ta) := by
  refine ⟨fun pins s σ H Q I h => Call_ (ld_blt I hg hm boot_len (callWith_builtin1 (args_cons (Call_ (ld_blt I hg2 hm2 boot_set (callWith_type1 (args_cons (thn (ha.run pins s σ H _ I h) fun v s1 ⟨x, H1, I1, r1, q1⟩ => args_nil ?_) na) na rfl))) rfl) rfl rfl))⟩
  obtain ⟨l, ns, rfl, hq, hl, q1⟩ := q1
  cases r1
  obtain ⟨its, r, pl, _⟩ := I1.list hq
  have z : its.toArray.size = ns.length := by
    have := r.length
    rw [List.length_map] at this
    rw [List.size_toArray]
    omega
  refine call_set_list (I1.ok.hd hc) pl.isList (by simpa using RZ.intsAre_vals r) (by unfold scanBound; omega) fun h' tk hS hk => args_nil ?_
  rw [z, oss_met] at hS
  obtain ⟨o, es, ep, t, ho, hex, hd, _, _, _, hf, hn⟩ := hS
  have I2 : Inv X pins σ H1 { s1 with heap := h', toks := tk } := I1.kept fun b o e => hk b o (Heap.lt_size e) e
  exact call_len_set ho hex hd hf (by rw [hn]; have := oss_len ns; omega) ⟨.int (ossOf ns).length, H1, I2.tok _, ⟨_, by rw [hn]⟩, q1⟩
end Sl

set_option Elab.async false
set_option linter.all false
set_option maxRecDepth 100000
set_option maxHeartbeats 400000
/-! ## are_nodes -/
namespace Sl
open PySem PySem.Spec PyProof.Rows L2
theorem all_bls {α : Type} (l : List α) : ((l.map fun _ => true)).all id = true := List.all_eq_true.mpr fun b hb => by
  obtain ⟨_, _, rfl⟩ := List.mem_map.mp hb
  rfl
theorem fm_al2 {α : Type} (l : List α) (f : α → V) : (l.map fun x => some (f x)).filterMap id = l.map f := by
  induction l with
  | nil => rfl
  | cons a l ih =>
    rw [List.map_cons, List.map_cons, ← ih]
    rfl
section
variable {P : Program} {w : World} {K : PySem.W.Frag} {mg : Str → Option Value} {base : Heap} {fWh fBe fNm fKd fWk fRw fPo fNd fAn : Addr} {dWh dBe dNm dKd dWk dRw dPo dNd dAn : FuncData}
def spRow (K : PySem.W.Frag) : Sp := fun vs H Q _ => ∃ (v : V) (cs : List Nat) (n : Nat), vs = [v, .int n] ∧ Rdd K H v (.tup (iD cs)) ∧ cs.length ≤ 3 ∧ (∀ c ∈ cs, c < n) ∧ ∀ H', Same H H' → Q (.bl true) H'
theorem ok_row (N : Gn K mg fWh fBe fNm fKd fWk fRw fPo fNd fAn dWh dBe dNm dKd dWk dRw dPo dNd dAn) (U : Tops K mg) (Bi' : Bi mg) (B : Bt mg) : FnOk P w K mg base CX0 3 fRw dRw ["value", "many"] (spRow K) := by
  have GB : FnOk P w K mg base CX0 2 fBe dBe ["value", "limit"] (spBelow K) := ok_below N.FBe N.FWh N.bWh N.gWh Bi'
  obtain ⟨t3, g3⟩ := U.terms
  refine N.FRw.ok scRow (fun vs H Q E h => ?_) (fun cdv A outer s H vs Q E hr h => ?_)
  · obtain ⟨v, cs, n, rfl, _⟩ := h
    rfl
  · obtain ⟨v, cs, n, rfl, hv, h3, hc, q⟩ := h
    have sl := sizeLine_eq
    --DR
    refine ⟨_, (pss_cons (ps_if (PW.pt (pw_or (pt_not (pt_val (pe_callB call_isi (by rfl) B.isi (by decide +kernel) (pa_cons (pv 0) (pa_cons (pe_bltn (v := .ty "tuple") (by rfl) B.tuple (by decide +kernel) rfl) pa_nil))))) (pw_or1 (pt_cmpR op_gt (pe_callB call_len_seq (by rfl) B.len PySem.boot_len (pa_cons (pv 0) pa_nil)) (pe_glob (v := .int 3) (by rfl) g3 ⟨_, rfl⟩) (nomark _)))))
          (pss_one (ps_ret pe_bl)) pss_nil)
        (pss_one (ps_ret (pe_callB (cr_all rfl) (by rfl) B.all (by decide +kernel) (pa_cons (pe_lc (own := [("child", 2)]) (g := gName 2) (tt := tYes) (te := tCall (spBelow K) [] E0 (tCons (tVar 2) (tCons (tVar 1) tNil))) rfl scRow.nd (pi_tup (pv 0)) (blkOk_by (own := [("child", 2)]) (N := ["value", "many", "child"]) (sc := defScope sRow) (by decide +kernel)) (fun _ _ _ _ _ => pg_name (i := 2) scRow.nd rfl (Or.inl rfl)) (fun _ _ _ _ _ => pts_nil) (fun _ _ _ _ _ => by exact (pe_call GB hr (by rfl) N.gBe N.FBe.kp N.bBe .nil pass0 (pa_cons (pv 2) (pa_cons (pv 1) pa_nil))))) pa_nil))))), ?_⟩
    --ER
    have hty := hv.ty
    obtain ⟨a0, xs, rfl, hs, hx, _⟩ := hv.tupd'
    have ex := iD_ints hx
    have lx : xs.length = cs.length := by rw [ex, List.length_map]
    refine ⟨_, rfl, V.ref a0, .ty "tuple", _, _, isA "tuple" (.tup (iD cs)), rfl, .ty _, hty, kit_isA (by decide +kernel), _, rfl, ?_⟩
    rw [isA_tuple]
    refine iteF ⟨_, rfl, a0, xs, rfl, .inr hs, _, _, rfl, rfl, _, rfl, ?_⟩
    rw [decide_eq_false (by omega)]
    refine iteF ⟨_, rfl, a0, rfl, ⟨_, hs⟩, fun D0 nD => ?_⟩
    refine lcT (cs.map fun _ => some (V.bl true)) (by rw [List.length_map]; omega) (by omega) hs nD ?_ ?_
    · intro i y H2 Q2 Z2 hy s2 hQ _
      rw [ex, List.getElem?_map] at hy
      obtain ⟨c, hcc, rfl⟩ := Option.map_eq_some_iff.mp hy
      have hlt := hc c (List.mem_of_getElem? hcc)
      refine ⟨rfl, ?_⟩
      refine iteT (B := Z2 H2) ⟨_, rfl, _, rfl, V.int (c : Nat), .int (c : Nat), (n : Int), rfl, .int _, ?_⟩
      rw [show dBelow (n : Int) (.int (c : Nat)) = true by
        show (decide ((0 : Int) ≤ (c : Nat)) && decide (((c : Nat) : Int) < n)) = true
        rw [decide_eq_true (by omega), decide_eq_true (by omega)]
        rfl]
      exact hQ _ H2 (by rw [List.getElem?_map, hcc]; rfl) (Same.refl _)
    · intro H2 s2 hD2
      rw [fm_al2, show cs.map (fun _ => V.bl true) = (cs.map fun _ => true).map V.bl by rw [List.map_map]; rfl] at hD2
      refine ⟨D0, _, rfl, SqL.of hD2, ?_⟩
      rw [all_bls]
      exact q H2 s2
/-- the numbers in a node lie below n, and its name is a name -/
def Rng (n : Nat) : GN → Prop
  | .W x cs => nmOk x = true ∧ cs.length ≤ 3 ∧ ∀ c ∈ cs, c < n
  | .F c => c < n
  | .V f => f < n
def ndB (ns : List GN) : GN → Bool
  | .V f => match ns[f]? with
    | some g => g.isF
    | none => false
  | _ => true
def kindB (g : GN) (k : Str) : Bool := match g with
  | .W _ _ => false
  | .F _ => decide (("fun" : Str) = k)
  | .V _ => decide (("var" : Str) = k)
theorem kb_ff (c : Nat) : kindB (.F c) "fun" = true := by
  unfold kindB
  exact decide_eq_true rfl
theorem kb_vf (f : Nat) : kindB (.V f) "fun" = false := by
  unfold kindB
  exact decide_eq_false (by decide +kernel)
theorem kb_vv (f : Nat) : kindB (.V f) "var" = true := by
  unfold kindB
  exact decide_eq_true rfl
theorem kb_isF (g : GN) : kindB g "fun" = g.isF := by
  cases g with
  | W x cs => rfl
  | F c => exact kb_ff c
  | V f => exact kb_vf f
def spPairOf (K : PySem.W.Frag) : Sp := fun vs H Q _ => ∃ (v : V) (g : GN) (k : Str), vs = [v, .str k] ∧ Rdd K H v (ndD g) ∧ Q (.bl (kindB g k)) H
theorem ok_pairOf (N : Gn K mg fWh fBe fNm fKd fWk fRw fPo fNd fAn dWh dBe dNm dKd dWk dRw dPo dNd dAn) (Bi' : Bi mg) (B : Bt mg) : FnOk P w K mg base CX0 1 fPo dPo ["value", "kind"] (spPairOf K) := by
  refine N.FPo.ok scPairOf (fun vs H Q E h => ?_) (fun cdv A outer s H vs Q E hr h => ?_)
  · obtain ⟨v, g, k, rfl, _⟩ := h
    rfl
  · obtain ⟨v, g, k, rfl, hv, q⟩ := h
    --DP
    refine ⟨_, (pss_one (ps_ret (pe_and (pe_callB call_isi (by rfl) B.isi (by decide +kernel) (pa_cons (pv 0) (pa_cons (pe_bltn (v := .ty "tuple") (by rfl) B.tuple (by decide +kernel) rfl) pa_nil))) (pe_and (pe_cmpR op_eq (pe_callB call_len_seq (by rfl) B.len PySem.boot_len (pa_cons (pv 0) pa_nil)) pe_int (nomark _)) (pe_one (pe_cmpR op_eq (pe_ix ix_tup (pv 0) pe_int (fun _ _ => rfl)) (pv 1) (nomark _))))))), ?_⟩
    --EP
    have hty := hv.ty
    cases g with
    | W x cs =>
      obtain ⟨a0, xs, rfl, hs, hx, _⟩ := hv.tupd'
      obtain ⟨x1, x2, x3, rfl, r1, r2, r3⟩ := hx.trip
      refine ⟨_, rfl, V.ref a0, .ty "tuple", _, _, isA "tuple" (ndD (.W x cs)), rfl, .ty _, hty, kit_isA (by decide +kernel), _, rfl, ?_⟩
      rw [isA_tuple]
      refine iteT ⟨_, rfl, a0, _, rfl, .inr hs, rfl, _, rfl, ?_⟩
      rw [decide_eq_false (show ¬ V.int (([x1, x2, x3] : List V).length : Nat) = V.int 2 from fun z => by cases z)]
      exact iteF q
    | F c =>
      obtain ⟨a0, xs, rfl, hs, hx, _⟩ := hv.tupd'
      obtain ⟨x1, x2, rfl, r1, r2⟩ := hx.pair
      cases r1
      refine ⟨_, rfl, V.ref a0, .ty "tuple", _, _, isA "tuple" (ndD (.F c)), rfl, .ty _, hty, kit_isA (by decide +kernel), _, rfl, ?_⟩
      rw [isA_tuple]
      refine iteT ⟨_, rfl, a0, _, rfl, .inr hs, rfl, _, rfl, ?_⟩
      rw [decide_eq_true (show V.int (([V.str "fun", x2] : List V).length : Nat) = V.int 2 from rfl)]
      refine iteT ⟨_, rfl, a0, _, (0 : Int), _, rfl, rfl, hs, atI_nat (j := 0) rfl, _, rfl, rfl, ?_⟩
      rw [str_dec]
      exact q
    | V f =>
      obtain ⟨a0, xs, rfl, hs, hx, _⟩ := hv.tupd'
      obtain ⟨x1, x2, rfl, r1, r2⟩ := hx.pair
      cases r1
      refine ⟨_, rfl, V.ref a0, .ty "tuple", _, _, isA "tuple" (ndD (.V f)), rfl, .ty _, hty, kit_isA (by decide +kernel), _, rfl, ?_⟩
      rw [isA_tuple]
      refine iteT ⟨_, rfl, a0, _, rfl, .inr hs, rfl, _, rfl, ?_⟩
      rw [decide_eq_true (show V.int (([V.str "var", x2] : List V).length : Nat) = V.int 2 from rfl)]
      refine iteT ⟨_, rfl, a0, _, (0 : Int), _, rfl, rfl, hs, atI_nat (j := 0) rfl, _, rfl, rfl, ?_⟩
      rw [str_dec]
      exact q
def spIsNd (K : PySem.W.Frag) : Sp := fun vs H Q _ => ∃ (v u : V) (g : GN) (ns : List GN), vs = [v, u] ∧ Rdd K H v (ndD g) ∧ Rdd K H u (.tup (ns.map ndD)) ∧ Rng ns.length g ∧ ns.length ≤ 100000 ∧ ∀ H', Same H H' → Q (.bl (ndB ns g)) H'
theorem ok_isNd (N : Gn K mg fWh fBe fNm fKd fWk fRw fPo fNd fAn dWh dBe dNm dKd dWk dRw dPo dNd dAn) (U : Tops K mg) (Bi' : Bi mg) (B : Bt mg) : FnOk P w K mg base CX0 4 fNd dNd ["value", "nodes"] (spIsNd K) := by
  have GB : FnOk P w K mg base CX0 2 fBe dBe ["value", "limit"] (spBelow K) := ok_below N.FBe N.FWh N.bWh N.gWh Bi'
  have GN' : FnOk P w K mg base CX0 1 fNm dNm ["value"] (spName K) := ok_name N.FNm U B
  have GR : FnOk P w K mg base CX0 3 fRw dRw ["value", "many"] (spRow K) := ok_row N U Bi' B
  have GP : FnOk P w K mg base CX0 1 fPo dPo ["value", "kind"] (spPairOf K) := ok_pairOf N Bi' B
  refine N.FNd.ok scIsNd (fun vs H Q E h => ?_) (fun cdv A outer s H vs Q E hr h => ?_)
  · obtain ⟨v, u, g, ns, rfl, _⟩ := h
    rfl
  · obtain ⟨v, u, g, ns, rfl, hv, hu, hg, hn, q⟩ := h
    have h1 := hr.mono (by decide : 1 ≤ 3)
    have h2 := hr.mono (by decide : 2 ≤ 3)
    --DN
    refine ⟨_, (pss_cons (ps_if (PW.pt (pw_and (pt_val (pe_callB call_isi (by rfl) B.isi (by decide +kernel) (pa_cons (pv 0) (pa_cons (pe_bltn (v := .ty "tuple") (by rfl) B.tuple (by decide +kernel) rfl) pa_nil)))) (pw_and (pt_cmpR op_eq (pe_callB call_len_seq (by rfl) B.len PySem.boot_len (pa_cons (pv 0) pa_nil)) pe_int (nomark _)) (pw_and1 (pt_cmpR op_eq (pe_ix ix_tup (pv 0) pe_int (fun _ _ => rfl)) pe_str (nomark _))))))
          (pss_one (ps_ret (pe_and (pe_call GN' h1 (by rfl) N.gNm N.FNm.kp N.bNm .nil pass0 (pa_cons (pe_ix ix_tup (pv 0) pe_int (fun _ _ => rfl)) pa_nil)) (pe_one (pe_call GR hr (by rfl) N.gRw N.FRw.kp N.bRw .nil pass0 (pa_cons (pe_ix ix_tup (pv 0) pe_int (fun _ _ => rfl)) (pa_cons (pe_callB call_len_seq (by rfl) B.len PySem.boot_len (pa_cons (pv 1) pa_nil)) pa_nil))))))) pss_nil)
        (pss_cons (ps_if (PW.pt (pw_and (pt_not (pt_val (pe_call GP h1 (by rfl) N.gPo N.FPo.kp N.bPo .nil pass0 (pa_cons (pv 0) (pa_cons pe_str pa_nil))))) (pw_and1 (pt_not (pt_val (pe_call GP h1 (by rfl) N.gPo N.FPo.kp N.bPo .nil pass0 (pa_cons (pv 0) (pa_cons pe_str pa_nil))))))))
          (pss_one (ps_ret pe_bl)) pss_nil)
        (pss_cons (ps_if (pt_not (pt_val (pe_call GB h2 (by rfl) N.gBe N.FBe.kp N.bBe .nil pass0 (pa_cons (pe_ix ix_tup (pv 0) pe_int (fun _ _ => rfl)) (pa_cons (pe_callB call_len_seq (by rfl) B.len PySem.boot_len (pa_cons (pv 1) pa_nil)) pa_nil)))))
          (pss_one (ps_ret pe_bl)) pss_nil)
        (pss_one (ps_ret (pe_or (pe_cmpR op_eq (pe_ix ix_tup (pv 0) pe_int (fun _ _ => rfl)) pe_str (nomark _)) (pe_one (pe_call GP h1 (by rfl) N.gPo N.FPo.kp N.bPo .nil pass0 (pa_cons (pe_ix ix_tup (pv 1) (pe_ix ix_tup (pv 0) pe_int (fun _ _ => rfl)) (fun _ _ => rfl)) (pa_cons pe_str pa_nil)))))))))), ?_⟩
    --EN
    have hty := hv.ty
    obtain ⟨b0, us, rfl, hsu, hxu, _⟩ := hu.tupd'
    have lu : us.length = ns.length := by rw [hxu.length, List.length_map]
    have below : ∀ c : Nat, c < ns.length → dBelow ((us.length : Nat) : Int) (.int (c : Nat)) = true := fun c hc => by
      show (decide ((0 : Int) ≤ (c : Nat)) && decide (((c : Nat) : Int) < (us.length : Nat))) = true
      rw [decide_eq_true (by omega), decide_eq_true (by omega)]
      rfl
    cases g with
    | W x cs =>
      have hv' := hv
      obtain ⟨a0, xs, rfl, hs, hx, _⟩ := hv'.tupd'
      obtain ⟨x1, x2, x3, rfl, r1, r2, r3⟩ := hx.trip
      cases r1
      cases r2
      refine ⟨_, rfl, V.ref a0, .ty "tuple", _, _, isA "tuple" (ndD (.W x cs)), rfl, .ty _, hty, kit_isA (by decide +kernel), _, rfl, ?_⟩
      rw [isA_tuple]
      refine iteT ⟨_, rfl, a0, _, rfl, .inr hs, rfl, _, rfl, ?_⟩
      rw [decide_eq_true (show V.int (([V.str "word", .str x, x3] : List V).length : Nat) = V.int 3 from rfl)]
      refine iteT ⟨_, rfl, a0, _, (0 : Int), _, rfl, rfl, hs, atI_nat (j := 0) rfl, rfl, _, rfl, ?_⟩
      rw [str_dec, decide_eq_true rfl]
      refine iteT ⟨_, rfl, a0, _, (1 : Int), _, rfl, rfl, hs, atI_nat (j := 1) rfl, _, .str x, rfl, .str x, decide_eq_true (by have := nm_small hg.1; omega), ?_⟩
      rw [show (D.str x).isName = nmOk x from rfl, hg.1]
      refine ⟨_, rfl, iteT ⟨_, rfl, a0, _, (2 : Int), _, rfl, rfl, hs, atI_nat (j := 2) rfl, _, rfl, b0, us, rfl, .inr hsu, x3, cs, us.length, rfl, r3, hg.2.1, fun c hc => by rw [lu]; exact hg.2.2 c hc, q⟩⟩
    | F c =>
      have hv' := hv
      obtain ⟨a0, xs, rfl, hs, hx, _⟩ := hv'.tupd'
      obtain ⟨x1, x2, rfl, r1, r2⟩ := hx.pair
      cases r1
      cases r2
      refine ⟨_, rfl, V.ref a0, .ty "tuple", _, _, isA "tuple" (ndD (.F c)), rfl, .ty _, hty, kit_isA (by decide +kernel), _, rfl, ?_⟩
      rw [isA_tuple]
      refine iteT ⟨_, rfl, a0, _, rfl, .inr hs, rfl, _, rfl, ?_⟩
      rw [decide_eq_false (show ¬ V.int (([V.str "fun", .int (c : Nat)] : List V).length : Nat) = V.int 3 from fun z => by cases z)]
      refine iteF ⟨_, rfl, _, .F c, "fun", rfl, hv, _, rfl, ?_⟩
      rw [kb_ff]
      refine iteF ⟨_, rfl, a0, _, (1 : Int), _, rfl, rfl, hs, atI_nat (j := 1) rfl, _, rfl, b0, us, rfl, .inr hsu, V.int (c : Nat), .int (c : Nat), ((us.length : Nat) : Int), rfl, .int _, _, rfl, ?_⟩
      rw [below c hg]
      refine iteF ⟨_, rfl, a0, _, (0 : Int), _, rfl, rfl, hs, atI_nat (j := 0) rfl, rfl, _, rfl, ?_⟩
      rw [str_dec, decide_eq_true rfl]
      exact iteT (q H (Same.refl _))
    | V f =>
      have hv' := hv
      obtain ⟨a0, xs, rfl, hs, hx, _⟩ := hv'.tupd'
      obtain ⟨x1, x2, rfl, r1, r2⟩ := hx.pair
      cases r1
      cases r2
      have hlt : f < ns.length := hg
      have hc : ns[f]? = some ns[f] := List.getElem?_eq_getElem hlt
      obtain ⟨yf, hyf, ryf⟩ := hxu.at (i := f) (d := ndD ns[f]) (by rw [List.getElem?_map, hc]; rfl)
      have eb : ndB ns (.V f) = ns[f].isF := by
        unfold ndB
        dsimp only
        rw [hc]
      refine ⟨_, rfl, V.ref a0, .ty "tuple", _, _, isA "tuple" (ndD (.V f)), rfl, .ty _, hty, kit_isA (by decide +kernel), _, rfl, ?_⟩
      rw [isA_tuple]
      refine iteT ⟨_, rfl, a0, _, rfl, .inr hs, rfl, _, rfl, ?_⟩
      rw [decide_eq_false (show ¬ V.int (([V.str "var", .int (f : Nat)] : List V).length : Nat) = V.int 3 from fun z => by cases z)]
      refine iteF ⟨_, rfl, _, .V f, "fun", rfl, hv, _, rfl, ?_⟩
      rw [kb_vf]
      refine iteT ⟨_, rfl, _, .V f, "var", rfl, hv, _, rfl, ?_⟩
      rw [kb_vv]
      refine iteF ⟨_, rfl, a0, _, (1 : Int), _, rfl, rfl, hs, atI_nat (j := 1) rfl, _, rfl, b0, us, rfl, .inr hsu, V.int (f : Nat), .int (f : Nat), ((us.length : Nat) : Int), rfl, .int _, _, rfl, ?_⟩
      rw [below f hlt]
      refine iteF ⟨_, rfl, a0, _, (0 : Int), _, rfl, rfl, hs, atI_nat (j := 0) rfl, rfl, _, rfl, ?_⟩
      rw [str_dec, decide_eq_false (by decide +kernel)]
      refine iteF ⟨_, rfl, _, rfl, a0, _, (1 : Int), _, rfl, rfl, hs, atI_nat (j := 1) rfl, b0, us, (f : Int), yf, rfl, rfl, hsu, atI_nat hyf, _, ns[f], "fun", rfl, ryf, ?_⟩
      rw [kb_isF, ← eb]
      exact q H (Same.refl _)
def arB (ns : List GN) : Bool := ns.all (ndB ns) && decide (own ns).Nodup
theorem fm_own (ns : List GN) : (ns.map fun g => (g.own).map fun f => V.int (f : Nat)).filterMap id = (own ns).map fun f => V.int (f : Nat) := by
  unfold own
  induction ns with
  | nil => rfl
  | cons g ns ih =>
    rw [List.map_cons, List.filterMap_cons, List.filterMap_cons]
    cases g with
    | W x cs => exact ih
    | F c => exact ih
    | V f =>
      show V.int (f : Nat) :: _ = _ :: _
      rw [ih]
theorem all_ids {α : Type} (l : List α) (p : α → Bool) : (l.map p).all id = l.all p := by
  rw [List.all_map]
  rfl
theorem own_le (ns : List GN) : (own ns).length ≤ ns.length := List.length_filterMap_le ..
theorem nd_ints (l : List Nat) : (l.map fun f => ((f : Nat) : Int)).Nodup ↔ l.Nodup := by
  induction l with
  | nil => exact ⟨fun _ => List.nodup_nil, fun _ => List.nodup_nil⟩
  | cons a l ih =>
    rw [List.map_cons, List.nodup_cons, List.nodup_cons, ih]
    refine and_congr (not_congr ⟨fun h => ?_, fun h => List.mem_map.mpr ⟨a, h, rfl⟩⟩) Iff.rfl
    obtain ⟨b, hb, e⟩ := List.mem_map.mp h
    have : b = a := Int.ofNat.inj e
    rw [← this]
    exact hb
def spAreN (K : PySem.W.Frag) : Sp := fun vs H Q _ => ∃ (u : V) (ns : List GN), vs = [u] ∧ Rdd K H u (.tup (ns.map ndD)) ∧ 0 < ns.length ∧ (∀ g ∈ ns, Rng ns.length g) ∧ ns.length ≤ 4000 ∧ ∀ H', Same H H' → Q (.bl (arB ns)) H'
theorem ok_areN (N : Gn K mg fWh fBe fNm fKd fWk fRw fPo fNd fAn dWh dBe dNm dKd dWk dRw dPo dNd dAn) (U : Tops K mg) (Bi' : Bi mg) (B : Bt mg) : FnOk P w K mg base CX0 5 fAn dAn ["values"] (spAreN K) := by
  have GI : FnOk P w K mg base CX0 4 fNd dNd ["value", "nodes"] (spIsNd K) := ok_isNd N U Bi' B
  refine N.FAn.ok scAreN (fun vs H Q E h => ?_) (fun cdv A outer s H vs Q E hr h => ?_)
  · obtain ⟨u, ns, rfl, _⟩ := h
    rfl
  · obtain ⟨u, ns, rfl, hu, hp0, hg, hn, q⟩ := h
    --DA
    refine ⟨_, (pss_cons (ps_if (PW.pt (pw_or (pt_cmpR op_eq (pe_callB call_len_seq (by rfl) B.len PySem.boot_len (pa_cons (pv 0) pa_nil)) pe_int (nomark _)) (pw_or1 (pt_not (pt_val (pe_callB (cr_all rfl) (by rfl) B.all (by decide +kernel) (pa_cons (pe_lc (own := [("value", 2)]) (g := gName 2) (tt := tYes) (te := tCall (spIsNd K) [] E0 (tCons (tVar 2) (tCons (tVar 0) tNil))) rfl scAreN.nd (pi_tup (pv 0)) (blkOk_by (own := [("value", 2)]) (N := ["values", "owners", "value", "node"]) (sc := defScope sAreN) (by decide +kernel)) (fun _ _ _ _ _ => pg_name (i := 2) scAreN.nd rfl (Or.inl rfl)) (fun _ _ _ _ _ => pts_nil) (fun _ _ _ _ _ => by exact (pe_call GI hr (by rfl) N.gNd N.FNd.kp N.bNd .nil pass0 (pa_cons (pv 2) (pa_cons (pv 0) pa_nil))))) pa_nil)))))))
          (pss_one (ps_ret pe_bl)) pss_nil)
        (pss_cons (ps_setLc (i := 1) (own := [("node", 3)]) (g := gName 3) (tt := tTest (tOp rEq (tOp (rIxT K) (tVar 3) (tC (.int 0))) (tC (.str "var")))) (te := tOp (rIxT K) (tVar 3) (tC (.int 1))) rfl scAreN.nd rfl rfl (sw_true rfl rfl rfl (by decide +kernel)) (pi_tup (pv 0)) (blkOk_by (own := [("node", 3)]) (N := ["values", "owners", "value", "node"]) (sc := defScope sAreN) (by decide +kernel)) (fun _ _ _ _ _ => pg_name (i := 3) scAreN.nd rfl (Or.inl rfl)) (fun _ _ _ _ _ => pts_one (by exact (pt_cmpR op_eq (pe_ix ix_tup (pv 3) pe_int (fun _ _ => rfl)) pe_str (nomark _)))) (fun _ _ _ _ _ => by exact (pe_ix ix_tup (pv 3) pe_int (fun _ _ => rfl))))
        (pss_one (ps_ret (pe_cmpR op_eq (pe_lenSetA (by rfl) B.len (by rfl) B.set (pv 1)) (pe_callB call_len_seq (by rfl) B.len PySem.boot_len (pa_cons (pv 1) pa_nil)) (nomark _)))))), ?_⟩
    --EA
    have hu' := hu
    obtain ⟨b0, us, rfl, hsu, hxu, _⟩ := hu'.tupd'
    have lu : us.length = ns.length := by rw [hxu.length, List.length_map]
    refine ⟨_, rfl, b0, us, rfl, .inr hsu, rfl, _, rfl, ?_⟩
    rw [int_dec, decide_eq_false (by omega)]
    refine iteF ⟨_, rfl, b0, rfl, ⟨_, hsu⟩, fun D0 nD => ?_⟩
    refine lcT (ns.map fun g => some (V.bl (ndB ns g))) (by rw [List.length_map]; omega) (by omega) hsu nD ?_ ?_
    · intro i y H2 Q2 Z2 hy s2 hQ _
      obtain ⟨d, hd, ry⟩ := hxu.get hy
      rw [List.getElem?_map] at hd
      obtain ⟨g, hgi, rfl⟩ := Option.map_eq_some_iff.mp hd
      refine ⟨rfl, ?_⟩
      refine iteT (B := Z2 H2) ⟨_, rfl, _, rfl, y, .ref b0, g, ns, rfl, Rdd.ex (Ex.same s2) _ ry, Rdd.ex (Ex.same s2) _ hu, hg g (List.mem_of_getElem? hgi), by omega, fun H3 s3 => ?_⟩
      exact hQ _ H3 (by rw [List.getElem?_map, hgi]; rfl) s3
    · intro H2 s2 hD2
      rw [fm_al2, show ns.map (fun g => V.bl (ndB ns g)) = (ns.map (ndB ns)).map V.bl by rw [List.map_map]; rfl] at hD2
      refine ⟨D0, _, rfl, SqL.of hD2, _, rfl, ?_⟩
      rw [all_ids]
      cases ha : ns.all (ndB ns) with
      | false =>
        have e : arB ns = false := by
          unfold arB
          rw [ha]
          rfl
        rw [e] at q
        exact iteT (q H2 s2)
      | true =>
        have e : arB ns = decide (own ns).Nodup := by
          unfold arB
          rw [ha]
          rfl
        rw [e] at q
        refine iteF ⟨_, rfl, b0, rfl, ⟨_, (Ex.same s2).tup hsu⟩, fun D1 nD1 => ?_⟩
        refine lcT (ns.map fun g => (g.own).map fun f => V.int (f : Nat)) (by rw [List.length_map]; omega) (by omega) ((Ex.same s2).tup hsu) nD1 ?_ ?_
        · intro i y H3 Q2 Z2 hy s3 hQ hZ
          obtain ⟨d, hd, ry⟩ := hxu.get hy
          rw [List.getElem?_map] at hd
          obtain ⟨g, hgi, rfl⟩ := Option.map_eq_some_iff.mp hd
          have ry3 := Rdd.ex (Ex.same s3) _ (Rdd.ex (Ex.same s2) _ ry)
          refine ⟨rfl, ?_⟩
          cases g with
          | W x cs =>
            obtain ⟨a1, xs, rfl, hs, hx, _⟩ := ry3.tupd'
            obtain ⟨x1, x2, x3, rfl, r1, r2, r3⟩ := hx.trip
            cases r1
            refine ⟨_, rfl, a1, _, (0 : Int), _, rfl, rfl, hs, atI_nat (j := 0) rfl, rfl, _, rfl, ?_⟩
            rw [str_dec, decide_eq_false (by decide +kernel)]
            exact iteF (hZ H3 (by rw [List.getElem?_map, hgi]; rfl) (Same.refl _))
          | F c =>
            obtain ⟨a1, xs, rfl, hs, hx, _⟩ := ry3.tupd'
            obtain ⟨x1, x2, rfl, r1, r2⟩ := hx.pair
            cases r1
            refine ⟨_, rfl, a1, _, (0 : Int), _, rfl, rfl, hs, atI_nat (j := 0) rfl, rfl, _, rfl, ?_⟩
            rw [str_dec, decide_eq_false (by decide +kernel)]
            exact iteF (hZ H3 (by rw [List.getElem?_map, hgi]; rfl) (Same.refl _))
          | V f =>
            obtain ⟨a1, xs, rfl, hs, hx, _⟩ := ry3.tupd'
            obtain ⟨x1, x2, rfl, r1, r2⟩ := hx.pair
            cases r1
            cases r2
            refine ⟨_, rfl, a1, _, (0 : Int), _, rfl, rfl, hs, atI_nat (j := 0) rfl, rfl, _, rfl, ?_⟩
            rw [str_dec, decide_eq_true rfl]
            exact iteT (B := Z2 H3) ⟨_, rfl, a1, _, (1 : Int), _, rfl, rfl, hs, atI_nat (j := 1) rfl, hQ _ H3 (by rw [List.getElem?_map, hgi]; rfl) (Same.refl _)⟩
        · intro H3 s3 hD3
          rw [fm_own] at hD3
          have hz := own_le ns
          refine ⟨_, rfl, D1, (own ns).map fun f => ((f : Nat) : Int), rfl, SqL.of (by rw [hD3, List.map_map]; rfl), by rw [List.length_map]; omega, _, rfl, D1, _, rfl, .inl (SqL.of hD3), rfl, ?_⟩
          rw [int_dec, List.length_map]
          have ez : decide (((PySem.W.ossOf ((own ns).map fun f => ((f : Nat) : Int))).length : Int) = ((own ns).length : Nat)) = decide (own ns).Nodup := by
            have e := oss_iff ((own ns).map fun f => ((f : Nat) : Int))
            rw [List.length_map] at e
            have e2 : ((own ns).map fun f => ((f : Nat) : Int)).Nodup ↔ (own ns).Nodup := nd_ints (own ns)
            by_cases h : (own ns).Nodup
            · rw [decide_eq_true h, decide_eq_true (by rw [e.mpr (e2.mpr h)])]
            · rw [decide_eq_false h]
              exact decide_eq_false fun z => h (e2.mp (e.mp (Int.ofNat.inj z)))
          rw [ez]
          exact q H3 (s2.trans s3)
end
end Sl

set_option Elab.async false
set_option linter.all false
set_option maxRecDepth 100000
set_option maxHeartbeats 400000
/-! ### y = {k: v for ..} -/
namespace Sl
open PySem PySem.Spec PyProof.Rows L2
section
variable {X : Cx}
theorem ps_setDc {i : Nat} {y : Str} {py : Pos} {kx vx tg iter : Expr} {ifs : List Expr} {scope : Scope} {own : List (Str × Nat)} {pos spos : Pos} {wi : TI} {g : TG} {tt : TT} {tk tv : TE} (hc : X.calm = true) (hN : X.N.Nodup) (hy : X.N[i]? = some y) (hyl : X.env.scope.names.lookup y = some .local)
    (hsw : swapsWith (.DictComp kx vx [⟨tg, iter, ifs, 0⟩] scope pos) (some (.Name y py)) spos.line X.env = pure true) (hi : PI X tg iter wi) (ok : BlkOk X.N X.env.scope scope own)
    (hg : ∀ (s : Shared) (H : Hp) (C : Addr) (cl : List (Str × Addr)) (fp : List Addr), PG (X.blk s H scope (compEnvC scope cl C X.env) fp) tg g) (ht : ∀ (s : Shared) (H : Hp) (C : Addr) (cl : List (Str × Addr)) (fp : List Addr), PTs (X.blk s H scope (compEnvC scope cl C X.env) fp) ifs tt)
    (hk : ∀ (s : Shared) (H : Hp) (C : Addr) (cl : List (Str × Addr)) (fp : List Addr), PE (X.blk s H scope (compEnvC scope cl C X.env) fp) kx tk)
    (he : ∀ (s : Shared) (H : Hp) (C : Addr) (cl : List (Str × Addr)) (fp : List Addr), PE (X.blk s H scope (compEnvC scope cl C X.env) fp) vx tv) (hs : ∀ x, foldedSetIterable iter X.env x = pure x := by intro _; rfl) :
    PS X (.Assign [.Name y py] (.DictComp kx vx [⟨tg, iter, ifs, 0⟩] scope pos) spos) (tAsg (tDc wi g tt tk tv (own.map (·.2))) (gName i)) := by
  refine ⟨fun pins s σ H D I h => ?_⟩
  rw [exec_Assign_Name_used _ _ _ _ hsw]
  refine wpAny_bind (wpAny_standAt (wpAny_bind ?_))
  show wpAny _ X.A (do let _ ← comprehension (.DictComp kx vx [⟨tg, iter, ifs, 0⟩] scope pos) scope X.env (firstIterPos [⟨tg, iter, ifs, 0⟩] pos) newDict false (eval iter X.env) (some (assign (.Name y py) X.env))) _ _ s
  have h : tDc wi g tt tk tv (own.map (·.2)) σ H (fun x H1 => gName i x σ H1 D.nx) := h
  refine wpAny_bind (thn (dc_core (Qf := fun _ s' => SP X pins D .next s') hc hN I hi ok hg ht hk he hs h fun L C s' m H' I' q hn f => ?_) fun _ s' hq => wpAny_pure (wpAny_pure hq))
  show wpAny _ _ (assign (.Name y py) X.env (.ref L)) _ _ _
  refine wpAny_assign_Name (store_ok2 (v := V.ref L) I' hN hy (.inl hyl) rfl (fun s2 I2 ⟨a, sb, ha⟩ => ?_) (.inr hyl))
  obtain ⟨f0, f1, f2, f3, f4, f5⟩ := f
  have haC : C ≠ a := by
    rcases ha with z | z
    · rw [z]; exact f1
    · exact fun e => f4 y a z e.symm
  refine ⟨m, hn.sameBut sb haC, fun h3 sb3 => ?_⟩
  exact ⟨_, H', I2.turned (t' := s2.toks) (fun b o hb e => (sb3.2 b hb).trans e) f0 f1 f3 f4 f5, q⟩
theorem sw_trueD {kx vx : Expr} {gs : List Comprehension} {scope : Scope} {pos py : Pos} {y : Str} {l : Nat} {env : PySem.Env} (hk : env.scope.kind = .function) (hy : env.scope.names.lookup y = some .local) (hl : (py.line == pos.line) = true)
    (ha : (scope.names.any fun (n, k) => n == y && (k == .local || k == .cell)) = false) : swapsWith (.DictComp kx vx gs scope pos) (some (.Name y py)) l env = pure true := by
  have ky : env.kindOf y = some .local := hy
  have hb : env.blockKind = .function := by unfold Env.blockKind; rw [hk]; rfl
  unfold swapsWith
  simp only [hb, ky, ha, Expr.pos, hl]
  rfl
end
end Sl

set_option Elab.async false
set_option linter.all false
set_option maxRecDepth 100000
set_option maxHeartbeats 400000
/-! ## pointed -/
namespace Sl
open PySem PySem.Spec PyProof.Rows L2
abbrev sPointed : Stmt := topT 27
theorem scPointed : FnScope ["node", "numbers", "passed", "one"] ["node", "numbers"] (defScope sPointed) := ⟨rfl, rfl, rfl, by decide +kernel, rfl, by decide +kernel, by decide +kernel⟩
theorem pi_or {X : Cx} {tg e : Expr} {w1 w2 : TI} (h1 : PI X tg e w1) (h2 : PI X tg e w2) : PI X tg e (fun σ H R => w1 σ H R ∨ w2 σ H R) :=
  ⟨fun pins s σ H R I h => h.elim (h1.run pins s σ H R I) (h2.run pins s σ H R I)⟩
theorem fm_somes {α β : Type} (l : List α) (f : α → β) : (l.map fun x => some (f x)).filterMap id = l.map f := by
  induction l with
  | nil => rfl
  | cons a l ih =>
    rw [List.map_cons, List.map_cons, ← ih]
    rfl
section
variable {P : Program} {w : World} {K : PySem.W.Frag} {mg : Str → Option Value} {base : Heap} {fWh fBe fNm fKd fWk fRw fPo fNd fAn : Addr} {dWh dBe dNm dKd dWk dRw dPo dNd dAn : FuncData}
def spPointed (K : PySem.W.Frag) : Sp := fun vs H Q _ => ∃ (v : V) (g : GN) (d : Addr) (kvs : List (Key × V)) (ν : Nat → Nat), vs = [v, .ref d] ∧ Rdd K H v (ndD g) ∧ H d = some (.dK kvs) ∧ (nums g).length ≤ 3 ∧ (∀ i ∈ nums g, valV kvs (Sum.inl ((i : Nat) : Int)) = some (.int (ν i : Nat))) ∧
  ∀ r H', Same H H' → Rdd K H' r (ndD (rl ν g)) → Q r H'
theorem ok_pointed (N : Gn K mg fWh fBe fNm fKd fWk fRw fPo fNd fAn dWh dBe dNm dKd dWk dRw dPo dNd dAn) {f : Addr} {fd : FuncData} (F : Fun K "pointed" "pointed" sPointed f fd) (B : Bt mg) : FnOk P w K mg base CX0 2 f fd ["node", "numbers"] (spPointed K) := by
  have GK : FnOk P w K mg base CX0 1 fKd dKd ["node"] (spKids K) := ok_kids N
  have GW : FnOk P w K mg base CX0 1 fWk dWk ["node", "children"] (spWithK K) := ok_withK N B
  refine F.ok scPointed (fun vs H Q E h => ?_) (fun cdv A outer s H vs Q E hr h => ?_)
  · obtain ⟨v, g, d, kvs, ν, rfl, _⟩ := h
    rfl
  · obtain ⟨v, g, d, kvs, ν, rfl, hv, hd, h3, hk, q⟩ := h
    have hu := hu_of hr
    have sl := sizeLine_eq
    --D
    refine ⟨_, (C8.pss_cut (ps_set (i := 2) scPointed.nd rfl (Or.inl rfl) (pe_ifExp (pt_cmpR op_eq (pe_ix ix_tup (pv 0) pe_int (fun _ _ => rfl)) pe_str (nomark _)) (pe_lst (pa_cons (pe_ix ix_tup (pv 0) pe_int (fun _ _ => rfl)) pa_nil)) (pe_call GK hr (by rfl) N.gKd N.FKd.kp N.bKd .nil pass0 (pa_cons (pv 0) pa_nil))))
        (pss_one (ps_ret (pe_call GW hr (by rfl) N.gWk N.FWk.kp N.bWk .nil pass0 (pa_cons (pv 0) (pa_cons (pe_lc (own := [("one", 3)]) (g := gName 3) (tt := tYes) (te := tDGet (tVar 1) (tVar 3)) rfl scPointed.nd (pi_or (pi_list (pv 2)) (pi_tup (pv 2))) (blkOk_by (own := [("one", 3)]) (N := ["node", "numbers", "passed", "one"]) (sc := defScope sPointed) (by decide +kernel)) (fun _ _ _ _ _ => pg_name (i := 3) scPointed.nd rfl (Or.inl rfl)) (fun _ _ _ _ _ => pts_nil) (fun _ _ _ _ _ => by exact (pe_dget hu (pv 1) (pv 3) (fun _ _ => rfl)))) pa_nil)))))), ?_⟩
    --E
    refine ⟨fun σ2 G => ∃ y, σ2 = [some v, some (.ref d), some y, none] ∧ Same H G ∧ ((∃ a, y = V.ref a ∧ SqL K G a (iL (nums g))) ∨ ∃ a, y = V.ref a ∧ SqT K G a (iL (nums g))), ?_, ?_⟩
    · cases g with
      | W x cs =>
        obtain ⟨a0, xs, rfl, hs, hx, _⟩ := id hv.tupd'
        obtain ⟨x1, x2, x3, rfl, r1, r2, r3⟩ := hx.trip
        cases r1
        refine ⟨_, rfl, a0, _, (0 : Int), _, rfl, rfl, hs, atI_nat (j := 0) rfl, rfl, _, rfl, ?_⟩
        rw [str_dec, decide_eq_false (by decide +kernel)]
        refine iteF ⟨_, rfl, _, _, rfl, hv, h3, fun r G s1 hrr => ⟨r, rfl, s1, .inr ?_⟩⟩
        obtain ⟨b, ys, rfl, hb, hy, _⟩ := hrr.tupd'
        rw [iD_ints hy] at hb
        exact ⟨b, rfl, hb⟩
      | F c =>
        obtain ⟨a0, xs, rfl, hs, hx, _⟩ := id hv.tupd'
        obtain ⟨x1, x2, rfl, r1, r2⟩ := hx.pair
        cases r1
        refine ⟨_, rfl, a0, _, (0 : Int), _, rfl, rfl, hs, atI_nat (j := 0) rfl, rfl, _, rfl, ?_⟩
        rw [str_dec, decide_eq_false (by decide +kernel)]
        refine iteF ⟨_, rfl, _, _, rfl, hv, h3, fun r G s1 hrr => ⟨r, rfl, s1, .inr ?_⟩⟩
        obtain ⟨b, ys, rfl, hb, hy, _⟩ := hrr.tupd'
        rw [iD_ints hy] at hb
        exact ⟨b, rfl, hb⟩
      | V f =>
        obtain ⟨a0, xs, rfl, hs, hx, _⟩ := id hv.tupd'
        obtain ⟨x1, x2, rfl, r1, r2⟩ := hx.pair
        cases r1
        cases r2
        refine ⟨_, rfl, a0, _, (0 : Int), _, rfl, rfl, hs, atI_nat (j := 0) rfl, rfl, _, rfl, ?_⟩
        rw [str_dec, decide_eq_true rfl]
        refine iteT ⟨_, rfl, a0, _, (1 : Int), _, rfl, rfl, hs, atI_nat (j := 1) rfl, (by show 1 ≤ sizeLine; omega), fun p np => ?_⟩
        exact ⟨_, rfl, Same.new np, .inl ⟨p, rfl, SqL.of upd_same⟩⟩
    · rintro σ2 G ⟨y, rfl, s1, hy⟩
      have hv1 := Rdd.ex (Ex.same s1) _ hv
      have hk1 := s1 _ _ hd
      have ln : (iL (nums g)).length = (nums g).length := List.length_map ..
      have step : ∀ (i : Nat) (x : V) (H2 : Hp) (Q2 : VK) (Z2 : Hp → Prop), (iL (nums g))[i]? = some x → Same G H2 → (∀ y H', ((nums g).map fun i => some (V.int (ν i : Nat)))[i]? = some (some y) → Same H2 H' → Q2 y H') →
          tDGet (tVar 1) (tVar 3) [some v, some (.ref d), some y, some x] H2 Q2 := fun i x H2 Q2 Z2 hx s2 hQ => by
        unfold iL at hx
        rw [List.getElem?_map] at hx
        obtain ⟨j, hj, rfl⟩ := Option.map_eq_some_iff.mp hx
        exact ⟨_, rfl, _, rfl, d, _, rfl, by rw [← hk j (List.mem_of_getElem? hj)]; exact DGet.k (k := Sum.inl ((j : Nat) : Int)) (s2 _ _ hk1), hQ _ H2 (by rw [List.getElem?_map, hj]; rfl) (Same.refl _)⟩
      have done : ∀ (D0 : Addr) (H2 : Hp), Same G H2 → H2 D0 = some (.lst (((nums g).map fun i => some (V.int (ν i : Nat))).filterMap id)) → spWithK K [v, .ref D0] H2 Q E0 := fun D0 H2 s2 hD => by
        rw [fm_somes] at hD
        exact ⟨v, g, D0, ν, rfl, Rdd.ex (Ex.same s2) _ hv1, SqL.of hD, h3, fun r H' s3 hr' => q r H' ((s1.trans s2).trans s3) hr'⟩
      rcases hy with ⟨a, rfl, ha⟩ | ⟨a, rfl, ha⟩
      · refine ⟨_, rfl, .inl ⟨_, rfl, a, rfl, ⟨_, ha⟩, fun D0 nD => ?_⟩⟩
        refine lcL ((nums g).map fun i => some (V.int (ν i : Nat))) (by rw [List.length_map, ln]) (by rw [ln]; omega) ha nD ?_ ?_
        · intro i x H2 Q2 Z2 hx s2 hQ _
          refine ⟨rfl, ?_⟩
          exact step i x H2 Q2 Z2 hx s2 hQ
        · intro H2 s2 hD
          exact done D0 H2 s2 hD
      · refine ⟨_, rfl, .inr ⟨_, rfl, a, rfl, ⟨_, ha⟩, fun D0 nD => ?_⟩⟩
        refine lcT ((nums g).map fun i => some (V.int (ν i : Nat))) (by rw [List.length_map, ln]) (by rw [ln]; omega) ha nD ?_ ?_
        · intro i x H2 Q2 Z2 hx s2 hQ _
          refine ⟨rfl, ?_⟩
          exact step i x H2 Q2 Z2 hx s2 hQ
        · intro H2 s2 hD
          exact done D0 H2 s2 hD
end
end Sl

set_option Elab.async false
set_option linter.all false
set_option maxRecDepth 100000
set_option maxHeartbeats 400000
/-! ## numbered -/
namespace Sl
open PySem PySem.Spec PyProof.Rows L2
abbrev sNumbered : Stmt := topT 28
theorem scNumbered : FnScope ["nodes", "root", "order", "numbers", "node", "new", "old"] ["nodes", "root"] (defScope sNumbered) := ⟨rfl, rfl, rfl, by decide +kernel, rfl, by decide +kernel, by decide +kernel⟩
section
variable {K : PySem.W.Frag} {a D : Addr} {xs : List V} {g : TG} {tt : TT} {tk tv : TE} {vs : List Nat} {σ : L2.St} {H1 : Hp} {Qd : Hp → Prop}
/-- a dict comprehension over enumerate(list) -/
theorem dcEL (Pv : Nat → Hp → Prop) (h0 : Pv 0 (upd H1 D (.dK []))) (hl : ∀ i H, Pv i H → SqL K H a xs) (hn : ∀ i H T x, Pv i H → H T = none → Pv i (upd H T (.tup [.int (i : Nat), x])))
    (hs : ∀ (i : Nat) (x : V) (T : Addr) (H : Hp), xs[i]? = some x → Pv i H → H T = some (.tup [.int (i : Nat), x]) → g (.ref T) (wipe σ vs) H fun σ2 H2 => wipe σ2 vs = wipe σ vs ∧ tt σ2 H2 fun b H3 =>
      if b = true then tk σ2 H3 fun y H4 => tv σ2 H4 fun z H5 => ∃ kvs k, y = kV k ∧ H5 D = some (.dK kvs) ∧ kvs.length < sizeLine ∧ Pv (i + 1) (upd H5 D (.dK (putK kvs k z))) else Pv (i + 1) H3) (hd : ∀ H, Pv xs.length H → Qd H) :
    ∃ W : Nat → Nat → Hp → Prop, (∃ m, W 0 m (upd H1 D (.dK []))) ∧ ∀ i m H, W i m H →
      ((Ite K a).stop i H ∧ Qd H) ∨ ((Ite K a).go i H ∧ ∃ Nx : Hp → Prop, (∀ H', Nx H' → ∃ m', m' < m ∧ W (i + 1) m' H') ∧ ∀ x H', (Ite K a).yld i H x H' → g x (wipe σ vs) H' fun σ2 H2 => wipe σ2 vs = wipe σ vs ∧ tt σ2 H2 fun b H3 =>
        if b = true then tk σ2 H3 fun y H4 => tv σ2 H4 fun z H5 => ∃ kvs k, y = kV k ∧ H5 D = some (.dK kvs) ∧ kvs.length < sizeLine ∧ Nx (upd H5 D (.dK (putK kvs k z))) else Nx H3) := by
  refine ⟨fun i m H => m = xs.length - i ∧ i ≤ xs.length ∧ Pv i H, ⟨xs.length, by simp, Nat.zero_le _, h0⟩, ?_⟩
  rintro i m H ⟨rfl, hi, p⟩
  have q := hl i H p
  by_cases hlt : i < xs.length
  · refine .inr ⟨⟨xs, xs[i], q, List.getElem?_eq_getElem hlt⟩, Pv (i + 1), fun H' p' => ⟨xs.length - (i + 1), by omega, rfl, hlt, p'⟩, fun x H' y => ?_⟩
    obtain ⟨T, x, rfl, n0, rfl, hx⟩ := y
    exact hs i x T _ (hx xs q) (hn i H T x p n0) upd_same
  · have e : i = xs.length := by omega
    subst e
    exact .inl ⟨⟨xs, q, Nat.le_refl _⟩, hd H p⟩
end
def nAt (ns : List GN) (i : Nat) : GN := ns.getD i (.F 0)
theorem nAt_get {ns : List GN} {i : Nat} (h : i < ns.length) : ns[i]? = some (nAt ns i) := by
  unfold nAt
  rw [List.getD_eq_getElem?_getD, List.getElem?_eq_getElem h]
  rfl
/-- the nodes that a walk meets, with the numbers of its order -/
def ren (ns : List GN) (o : List Nat) : List GN := o.map fun i => rl (fun j => o.idxOf j) (nAt ns i)
theorem ksF_kd (ns : List GN) : ksF (ns.map gk) = kd ns := funext fun i => by
  unfold ksF kd
  rw [List.getD_eq_getElem?_getD, List.getElem?_map]
  cases ns[i]? <;> rfl
theorem gk_rng {n : Nat} {g : GN} (h : Rng n g) : (gk g).length ≤ 3 ∧ ∀ a ∈ gk g, a < n := by
  cases g with
  | W x cs => exact h.2
  | F c => exact ⟨by simp [gk], fun a ha => by rw [List.mem_singleton.mp ha]; exact h⟩
  | V f => exact ⟨Nat.zero_le _, fun a ha => by cases ha⟩
theorem nums_rng {n : Nat} {g : GN} (h : Rng n g) : (nums g).length ≤ 3 ∧ ∀ a ∈ nums g, a < n := by
  cases g with
  | W x cs => exact h.2
  | F c => exact ⟨by simp [nums], fun a ha => by rw [List.mem_singleton.mp ha]; exact h⟩
  | V f => exact ⟨by simp [nums], fun a ha => by rw [List.mem_singleton.mp ha]; exact h⟩
theorem ksOk_of {ns : List GN} (h : ∀ g ∈ ns, Rng ns.length g) : KsOk (ns.map gk) := fun c hc => by
  obtain ⟨g, hg, rfl⟩ := List.mem_map.mp hc
  rw [List.length_map]
  exact gk_rng (h g hg)
theorem idxOf_at {o : List Nat} (nd : o.Nodup) {i : Nat} (h : i < o.length) : o.idxOf o[i] = i := List.Nodup.idxOf_getElem nd i h
section
variable {P : Program} {w : World} {K : PySem.W.Frag} {mg : Str → Option Value} {base : Heap} {fWh fBe fNm fKd fWk fRw fPo fNd fAn : Addr} {dWh dBe dNm dKd dWk dRw dPo dNd dAn : FuncData}
/-- a list of what children_of gives -/
def spNumbered (K : PySem.W.Frag) : Sp := fun vs H Q _ => ∃ (u : V) (ns : List GN) (r : Nat), vs = [u, .int (r : Nat)] ∧ Rdd K H u (.tup (ns.map ndD)) ∧ (∀ g ∈ ns, Rng ns.length g) ∧ r < ns.length ∧ ns.length ≤ 4000 ∧
  (∀ o, FW (kd ns) [] [r] o → ∀ i ∈ o, ∀ j ∈ nums (nAt ns i), j ∈ o) ∧
  ∀ o v H', FW (kd ns) [] [r] o → o.Nodup → (∀ i ∈ o, i < ns.length) → Same H H' → Rdd K H' v (.tup ((ren ns o).map ndD)) → Q v H'
theorem ok_numbered (N : Gn K mg fWh fBe fNm fKd fWk fRw fPo fNd fAn dWh dBe dNm dKd dWk dRw dPo dNd dAn) {f fWa fPt : Addr} {fd fdWa fdPt : FuncData} (F : Fun K "numbered" "numbered" sNumbered f fd)
    (FWa : Fun K "first_walk" "first_walk" sWalk fWa fdWa) (bWa : Binds K fdWa ["inner", "root"] []) (gWa : mg "first_walk" = some (.ref fWa)) (FPt : Fun K "pointed" "pointed" sPointed fPt fdPt) (bPt : Binds K fdPt ["node", "numbers"] []) (gPt : mg "pointed" = some (.ref fPt))
    (B : Bt mg) : FnOk P w K mg base CX0 3 f fd ["nodes", "root"] (spNumbered K) := by
  have GK : FnOk P w K mg base CX0 1 fKd dKd ["node"] (spKids K) := ok_kids N
  have GW : FnOk P w K mg base CX0 1 fWa fdWa ["inner", "root"] (spWalk K) := ok_walk FWa B
  have GP : FnOk P w K mg base CX0 2 fPt fdPt ["node", "numbers"] (spPointed K) := ok_pointed N FPt B
  refine F.ok scNumbered (fun vs H Q E h => ?_) (fun cdv A outer s H vs Q E hr h => ?_)
  · obtain ⟨u, ns, r, rfl, _⟩ := h
    rfl
  · obtain ⟨u, ns, r, rfl, hu, hg, hlt, hn, hcl, q⟩ := h
    have h1 := hr.mono (by decide : 1 ≤ 2)
    have sl := sizeLine_eq
    --D
    refine ⟨_, (pss_cons (ps_set (i := 2) scNumbered.nd rfl (Or.inl rfl) (pe_call GW h1 (by rfl) gWa FWa.kp bWa .nil pass0 (pa_cons (pe_lc (own := [("node", 4)]) (g := gName 4) (tt := tYes) (te := tCall (spKids K) [] E0 (tCons (tVar 4) tNil)) rfl scNumbered.nd (pi_tup (pv 0)) (blkOk_by (own := [("node", 4)]) (N := ["nodes", "root", "order", "numbers", "node", "new", "old"]) (sc := defScope sNumbered) (by decide +kernel)) (fun _ _ _ _ _ => pg_name (i := 4) scNumbered.nd rfl (Or.inl rfl)) (fun _ _ _ _ _ => pts_nil) (fun _ _ _ _ _ => by exact (pe_call GK h1 (by rfl) N.gKd N.FKd.kp N.bKd .nil pass0 (pa_cons (pv 4) pa_nil)))) (pa_cons (pv 1) pa_nil))))
        (pss_cons (ps_set (i := 3) scNumbered.nd rfl (Or.inr rfl) (pe_dc (own := [("new", 5), ("old", 6)]) (g := gTup K 2 (gCons (gName 5) (gCons (gName 6) gNil))) (tt := tYes) (tk := tVar 6) (tv := tVar 5) rfl scNumbered.nd (pi_enum (by rfl) B.enum (pa_cons (pv 2) pa_nil)) (blkOk_by (own := [("new", 5), ("old", 6)]) (N := ["nodes", "root", "order", "numbers", "node", "new", "old"]) (sc := defScope sNumbered) (by decide +kernel)) (fun _ _ _ _ _ => pg_tup rfl (pgs_cons (pg_name (i := 5) scNumbered.nd rfl (Or.inl rfl)) (pgs_cons (pg_name (i := 6) scNumbered.nd rfl (Or.inl rfl)) pgs_nil))) (fun _ _ _ _ _ => pts_nil) (fun _ _ _ _ _ => pv 6) (fun _ _ _ _ _ => pv 5)))
        (pss_one (ps_ret (pe_callTy call_tuple_of (by rfl) B.tuple (by decide +kernel) (pa_cons (pe_lc (own := [("old", 6)]) (g := gName 6) (tt := tYes) (te := tCall (spPointed K) [] E0 (tCons (tOp (rIxT K) (tVar 0) (tVar 6)) (tCons (tVar 3) tNil))) rfl scNumbered.nd (pi_list (pv 2)) (blkOk_by (own := [("old", 6)]) (N := ["nodes", "root", "order", "numbers", "node", "new", "old"]) (sc := defScope sNumbered) (by decide +kernel)) (fun _ _ _ _ _ => pg_name (i := 6) scNumbered.nd rfl (Or.inl rfl)) (fun _ _ _ _ _ => pts_nil) (fun _ _ _ _ _ => by exact (pe_call GP hr (by rfl) gPt FPt.kp bPt .nil pass0 (pa_cons (pe_ix ix_tup (pv 0) (pv 6) (fun _ _ => rfl)) (pa_cons (pv 3) pa_nil))))) pa_nil)))))), ?_⟩
    --E
    have hu' := hu
    obtain ⟨b0, us, rfl, hsu, hxu, _⟩ := hu'.tupd'
    have lu : us.length = ns.length := by rw [hxu.length, List.length_map]
    have hnone : ∀ {G : Hp} {b : Addr}, Same H G → G b = none → H b = none := fun {G b} s n => by
      cases e : H b with
      | none => rfl
      | some o =>
        rw [s _ _ e] at n
        cases n
    refine ⟨_, rfl, b0, rfl, ⟨_, hsu⟩, fun D0 nD => ?_⟩
    refine lcJT (Pd := fun i d => ∃ g, ns[i]? = some g ∧ d = .tup (iD (gk g))) jr_same (Same.refl _) (by omega) hsu nD ?_ ?_
    · intro i x H2 Q2 Z2 hx s2 hQ
      obtain ⟨d, hd, rx⟩ := hxu.get hx
      rw [List.getElem?_map] at hd
      obtain ⟨g, hgi, rfl⟩ := Option.map_eq_some_iff.mp hd
      refine ⟨rfl, ?_⟩
      exact iteT (B := Z2 H2) ⟨_, rfl, x, g, rfl, Rdd.ex (Ex.same s2) _ rx, (gk_rng (hg g (List.mem_of_getElem? hgi))).1, fun r0 H3 s3 hr0 => hQ r0 H3 _ s3 hr0 ⟨g, hgi, rfl⟩⟩
    · intro H2 ys ds s2 hD ry ld pd
      have ed : ds = (ns.map gk).map fun c => .tup (iD c) := by
        apply List.ext_getElem?
        intro i
        rw [List.getElem?_map, List.getElem?_map]
        by_cases hi : i < ds.length
        · obtain ⟨g, h1, h2⟩ := pd i _ (List.getElem?_eq_getElem hi)
          rw [List.getElem?_eq_getElem hi, h1, h2]
          rfl
        · rw [List.getElem?_eq_none (by omega), List.getElem?_eq_none (by omega)]
          rfl
      rw [ed] at ry
      refine ⟨_, rfl, D0, ys, ns.map gk, r, rfl, SqL.of hD, ry, ksOk_of hg, by rw [List.length_map]; exact hlt, by rw [List.length_map]; exact hn, fun o p H3 fw nd lt s3 np hp => ?_⟩
      rw [ksF_kd] at fw
      have lt' : ∀ i ∈ o, i < ns.length := fun i hi => by
        have := lt i hi
        rwa [List.length_map] at this
      have lo := nd_len' nd lt'
      have s03 : Same H H3 := s2.trans s3
      -- numbers
      refine ⟨_, rfl, p, iL o, rfl, SqL.of hp, fun D1 nD1 => ?_⟩
      have nD1' := hnone s03 nD1
      refine dcEL (K := K) (xs := iL o) (fun i G => Same H3 G ∧ ∃ kvs, G D1 = some (.dK kvs) ∧ kvs.length ≤ i ∧ ∀ (j : Nat) (x : Nat), j < i → o[j]? = some x → valV kvs (Sum.inl ((x : Nat) : Int)) = some (.int (j : Nat))) ?_ ?_ ?_ ?_ ?_
      · exact ⟨jr_same.put (Same.refl _) nD1, [], upd_same, Nat.le_refl _, fun j x h => by omega⟩
      · rintro i G ⟨sG, _⟩
        exact Same.seq sG (SqL.of hp)
      · rintro i G T x ⟨sG, kvs, h1, h2, h3⟩ nT
        have sT := Same.new (o := .tup [V.int (i : Nat), x]) nT
        exact ⟨sG.trans sT, kvs, sT _ _ h1, h2, h3⟩
      · rintro i x T G hx ⟨sG, kvs, h1, h2, h3⟩ hT
        unfold iL at hx
        rw [List.getElem?_map] at hx
        obtain ⟨y, hy, rfl⟩ := Option.map_eq_some_iff.mp hx
        have hi := (List.getElem?_eq_some_iff.mp hy).1
        refine ⟨T, _, rfl, SqT.of hT, rfl, _, _, rfl, _, _, rfl, rfl, rfl, ?_⟩
        unfold tYes
        dsimp only
        rw [if_pos rfl]
        refine ⟨_, rfl, _, rfl, kvs, Sum.inl ((y : Nat) : Int), rfl, h1, by omega, ?_⟩
        refine ⟨jr_same.put sG nD1, _, upd_same, ?_, fun j x hj hxo => ?_⟩
        · have := length_putK kvs (Sum.inl ((y : Nat) : Int)) (.int (i : Nat))
          omega
        · rw [valV_put]
          by_cases e : j = i
          · subst e
            have exy : x = y := Option.some.inj (hxo.symm.trans hy)
            rw [exy]
            exact if_pos rfl
          · have ne : ¬ (Sum.inl ((x : Nat) : Int) : Key) = Sum.inl ((y : Nat) : Int) := fun z => by
              have exy : x = y := Int.ofNat.inj (Sum.inl.inj z)
              subst exy
              obtain ⟨a1, a2⟩ := List.getElem?_eq_some_iff.mp hxo
              obtain ⟨b1, b2⟩ := List.getElem?_eq_some_iff.mp hy
              exact e ((List.getElem_inj nd).mp (a2.trans b2.symm))
            rw [if_neg ne]
            exact h3 j x (by omega) hxo
      · rintro G ⟨sG, kvs, h1, h2, h3⟩
        have lio : (iL o).length = o.length := List.length_map ..
        rw [lio] at h2 h3
        have s0G : Same H G := s03.trans sG
        -- the nodes in the walk's order
        refine ⟨_, rfl, p, rfl, ⟨_, SqL.of (sG _ _ hp)⟩, fun D2 nD2 => ?_⟩
        refine lcJL (Pd := fun i d => ∃ x, o[i]? = some x ∧ d = ndD (rl (fun j => o.idxOf j) (nAt ns x))) jr_same (Same.refl _) (by rw [lio]; omega) (fun G2 s2 => Same.seq s2 (SqL.of (sG _ _ hp))) nD2 ?_ ?_
        · intro i x G2 Q2 Z2 hx s2 hQ
          unfold iL at hx
          rw [List.getElem?_map] at hx
          obtain ⟨y, hy, rfl⟩ := Option.map_eq_some_iff.mp hx
          have hym := List.mem_of_getElem? hy
          have hyl := lt' y hym
          have hat := nAt_get hyl
          obtain ⟨z, hz, rz⟩ := hxu.at (i := y) (d := ndD (nAt ns y)) (by rw [List.getElem?_map, hat]; rfl)
          have sG2 := s0G.trans s2
          refine ⟨rfl, ?_⟩
          refine iteT (B := Z2 G2) ⟨_, rfl, _, rfl, b0, us, ((y : Nat) : Int), z, rfl, rfl, (Ex.same sG2).tup hsu, atI_nat hz, _, rfl, z, nAt ns y, D1, kvs, fun j => o.idxOf j, rfl, Rdd.ex (Ex.same sG2) _ rz, s2 _ _ h1, (nums_rng (hg _ (List.mem_of_getElem? hat))).1, fun j hj => ?_, fun r0 G3 s3 hr0 => hQ r0 G3 _ s3 hr0 ⟨y, hy, rfl⟩⟩
          have jo := hcl o fw y hym j hj
          obtain ⟨k, hk, ek⟩ := List.getElem_of_mem jo
          have e1 : o.idxOf j = k := by rw [← ek]; exact idxOf_at nd hk
          show valV kvs (Sum.inl ((j : Nat) : Int)) = some (.int (o.idxOf j : Nat))
          rw [e1]
          exact h3 k j hk (by rw [List.getElem?_eq_getElem hk, ek])
        · intro G2 zs es s2 hD2 rz le pe
          have ee : es = (ren ns o).map ndD := by
            apply List.ext_getElem?
            intro i
            unfold ren
            rw [List.getElem?_map, List.getElem?_map]
            rw [lio] at le
            by_cases hi : i < es.length
            · obtain ⟨x, h4, h5⟩ := pe i _ (List.getElem?_eq_getElem hi)
              rw [List.getElem?_eq_getElem hi, h4, h5]
              rfl
            · rw [List.getElem?_eq_none (by omega), List.getElem?_eq_none (by omega)]
              rfl
          rw [ee] at rz
          refine ⟨D2, zs, rfl, .inl ⟨SqL.of hD2, fun p2 np2 => ?_⟩⟩
          have s4 := Same.new (o := .tup zs) np2
          refine q o _ _ fw nd lt' ((s0G.trans s2).trans s4) (tup_val upd_same (RddAll.ex (Ex.same s4) _ rz) ?_)
          rw [List.length_map]
          unfold ren
          rw [List.length_map]
          omega
end
end Sl

set_option Elab.async false
set_option linter.all false
set_option maxRecDepth 100000
set_option maxHeartbeats 400000
/-! ## parents_of -/
namespace Sl
open PySem PySem.Spec PyProof.Rows L2
abbrev sParents : Stmt := topT 22
theorem scParents : FnScope ["nodes", "parents", "number", "node", "place", "child", "_"] ["nodes"] (defScope sParents) := ⟨rfl, rfl, rfl, by decide +kernel, rfl, by decide +kernel, by decide +kernel⟩
def pD (p : Nat × Nat) : D := .tup [.int (p.1 : Nat), .int (p.2 : Nat)]
def rowP (j c : Nat) (l : List Nat) (t : Nat) : List (Nat × Nat) := (List.range t).filterMap fun k => if l[k]? = some c then some (j, k) else none
def parP (ns : List GN) (c i : Nat) : List (Nat × Nat) := (List.range i).flatMap fun j => rowP j c (kd ns j) (kd ns j).length
theorem rowP_succ (j c : Nat) (l : List Nat) (t : Nat) : rowP j c l (t + 1) = rowP j c l t ++ if l[t]? = some c then [(j, t)] else [] := by
  unfold rowP
  rw [List.range_succ, List.filterMap_append]
  congr 1
  by_cases h : l[t]? = some c
  · simp [h]
  · simp [h]
theorem parP_succ (ns : List GN) (c i : Nat) : parP ns c (i + 1) = parP ns c i ++ rowP i c (kd ns i) (kd ns i).length := by
  unfold parP
  rw [List.range_succ, List.flatMap_append]
  simp
theorem mem_rowP {j c : Nat} {l : List Nat} {t : Nat} {p : Nat × Nat} : p ∈ rowP j c l t ↔ p.1 = j ∧ p.2 < t ∧ l[p.2]? = some c := by
  unfold rowP
  rw [List.mem_filterMap]
  constructor
  · rintro ⟨k, hk, h⟩
    by_cases e : l[k]? = some c
    · rw [if_pos e] at h
      cases h
      exact ⟨rfl, List.mem_range.mp hk, e⟩
    · rw [if_neg e] at h
      cases h
  · rintro ⟨h1, h2, h3⟩
    exact ⟨p.2, List.mem_range.mpr h2, by rw [if_pos h3, ← h1]⟩
theorem mem_parP {ns : List GN} {c i : Nat} {p : Nat × Nat} : p ∈ parP ns c i ↔ p.1 < i ∧ (kd ns p.1)[p.2]? = some c := by
  unfold parP
  rw [List.mem_flatMap]
  constructor
  · rintro ⟨j, hj, h⟩
    obtain ⟨h1, h2, h3⟩ := mem_rowP.mp h
    exact ⟨by rw [h1]; exact List.mem_range.mp hj, by rw [h1]; exact h3⟩
  · rintro ⟨h1, h2⟩
    exact ⟨p.1, List.mem_range.mpr h1, mem_rowP.mpr ⟨rfl, (List.getElem?_eq_some_iff.mp h2).1, h2⟩⟩
theorem rowP_len (j c : Nat) (l : List Nat) (t : Nat) : (rowP j c l t).length ≤ t := by
  unfold rowP
  exact Nat.le_trans (List.length_filterMap_le _ _) (by rw [List.length_range]; exact Nat.le_refl _)
theorem parP_len {ns : List GN} (hg : ∀ g ∈ ns, Rng ns.length g) (c i : Nat) : (parP ns c i).length ≤ 3 * i := by
  induction i with
  | zero => exact Nat.le_refl _
  | succ i ih =>
    rw [parP_succ, List.length_append]
    have h := rowP_len i c (kd ns i) (kd ns i).length
    have k3 : (kd ns i).length ≤ 3 := by
      cases hgi : ns[i]? with
      | none => rw [show kd ns i = [] by unfold kd; rw [hgi]]; exact Nat.zero_le _
      | some g => rw [kd_at hgi]; exact (gk_rng (hg g (List.mem_of_getElem? hgi))).1
    omega
/-- the lists of parents, when the first i nodes are through and of the next one t children -/
structure Par (K : PySem.W.Frag) (ns : List GN) (i t : Nat) (G : Hp) (L : LsN) : Prop where
  len : L.length = ns.length
  exa : ∀ (c : Nat) (z : Addr × List V), L[c]? = some z → RddAll K G z.2 ((parP ns c i ++ rowP i c (kd ns i) t).map pD)
theorem Par.ex {K : PySem.W.Frag} {ns : List GN} {i t : Nat} {G G' : Hp} {L : LsN} (x : Ex G G') (h : Par K ns i t G L) : Par K ns i t G' L :=
  ⟨h.len, fun c z hz => RddAll.ex x _ (h.exa c z hz)⟩
theorem Par.rd {K : PySem.W.Frag} {ns : List GN} {i t : Nat} {G : Hp} {L : LsN} (h : Par K ns i t G L) (hg : ∀ g ∈ ns, Rng ns.length g) (c : Nat) (z : Addr × List V) (hz : L[c]? = some z) : ∃ ps : List (Nat × Nat), RddAll K G z.2 (ps.map pD) ∧ ps.length ≤ 3 * i + t ∧ (∀ p ∈ ps, c ∈ kd ns p.1) ∧ (∀ j, j < i → c ∈ kd ns j → ∃ k, (j, k) ∈ ps) ∧ ∀ k, k < t → (kd ns i)[k]? = some c → ∃ k', (i, k') ∈ ps := by
  refine ⟨_, h.exa c z hz, ?_, fun p hp => ?_, fun j hj hc => ?_, fun k hk hc => ⟨k, List.mem_append_right _ (mem_rowP.mpr ⟨rfl, hk, hc⟩)⟩⟩
  · rw [List.length_append]
    have h1 := parP_len hg c i
    have h2 := rowP_len i c (kd ns i) t
    omega
  · rcases List.mem_append.mp hp with hp | hp
    · exact List.mem_of_getElem? (mem_parP.mp hp).2
    · obtain ⟨h1, _, h3⟩ := mem_rowP.mp hp
      rw [h1]
      exact List.mem_of_getElem? h3
  · obtain ⟨k, hk, e⟩ := List.getElem_of_mem hc
    exact ⟨k, List.mem_append_left _ (mem_parP.mpr ⟨hj, by show (kd ns j)[k]? = some c; rw [List.getElem?_eq_getElem hk, e]⟩)⟩
section
variable {P : Program} {w : World} {K : PySem.W.Frag} {mg : Str → Option Value} {base : Heap} {fWh fBe fNm fKd fWk fRw fPo fNd fAn : Addr} {dWh dBe dNm dKd dWk dRw dPo dNd dAn : FuncData}
def spParents (K : PySem.W.Frag) : Sp := fun vs H Q _ => ∃ (u : V) (ns : List GN), vs = [u] ∧ Rdd K H u (.tup (ns.map ndD)) ∧ (∀ g ∈ ns, Rng ns.length g) ∧ ns.length ≤ 4000 ∧
  ∀ p H' L, TrN H H' ((p, L.map fun z => V.ref z.1) :: L) → Par K ns ns.length 0 H' L → Q (.ref p) H'
theorem ok_parents (N : Gn K mg fWh fBe fNm fKd fWk fRw fPo fNd fAn dWh dBe dNm dKd dWk dRw dPo dNd dAn) {f : Addr} {fd : FuncData} (F : Fun K "parents_of" "parents_of" sParents f fd) (B : Bt mg) : FnOk P w K mg base CX0 2 f fd ["nodes"] (spParents K) := by
  have GK : FnOk P w K mg base CX0 1 fKd dKd ["node"] (spKids K) := ok_kids N
  refine F.ok scParents (fun vs H Q E h => ?_) (fun cdv A outer s H vs Q E hr h => ?_)
  · obtain ⟨u, ns, rfl, _⟩ := h
    rfl
  · obtain ⟨u, ns, rfl, hu, hg, hn, q⟩ := h
    have sl := sizeLine_eq
    --D
    refine ⟨_, (pss_cons (ps_setLc (i := 1) (own := [("_", 6)]) (g := gName 6) (tt := tYes) (te := tLst tNil) rfl scParents.nd rfl rfl (sw_true rfl rfl rfl (by decide +kernel)) (pi_tup (pv 0)) (blkOk_by (own := [("_", 6)]) (N := ["nodes", "parents", "number", "node", "place", "child", "_"]) (sc := defScope sParents) (by decide +kernel)) (fun _ _ _ _ _ => pg_name (i := 6) scParents.nd rfl (Or.inl rfl)) (fun _ _ _ _ _ => pts_nil) (fun _ _ _ _ _ => by exact pe_lst pa_nil))
        (pss_cons (ps_for PassesOwn.never rfl (pi_enumT (by rfl) B.enum (pa_cons (pv 0) pa_nil)) (pg_tup rfl (pgs_cons (pg_name (i := 2) scParents.nd rfl (Or.inl rfl)) (pgs_cons (pg_name (i := 3) scParents.nd rfl (Or.inl rfl)) pgs_nil)))
          (pss_one (ps_for PassesOwn.never rfl (pi_enumT (by rfl) B.enum (pa_cons (pe_call GK hr (by rfl) N.gKd N.FKd.kp N.bKd .nil pass0 (pa_cons (pv 3) pa_nil)) pa_nil)) (pg_tup rfl (pgs_cons (pg_name (i := 4) scParents.nd rfl (Or.inl rfl)) (pgs_cons (pg_name (i := 5) scParents.nd rfl (Or.inl rfl)) pgs_nil)))
          (pss_one (ps_expr (pe_bm PySem.F.plainAttrs_list PySem.F.slot_list_append PySem.F.type_list_append mt_append (pe_ix ix_list (pv 1) (pv 5) (fun _ _ => rfl)) (pa_cons (pe_tup (pa_cons (pv 2) (pa_cons (pv 4) pa_nil))) pa_nil)))))))
        (pss_one (ps_ret (pv 1))))), ?_⟩
    --E
    have hu' := hu
    obtain ⟨b0, us, rfl, hsu, hxu, _⟩ := hu'.tupd'
    have lu : us.length = ns.length := by rw [hxu.length, List.length_map]
    refine ⟨_, rfl, b0, rfl, ⟨_, hsu⟩, fun D0 nD => ?_⟩
    refine lcNew (by omega) hsu nD ?_ ?_
    · intro x G Q2 Z2 hQ
      refine ⟨rfl, ?_⟩
      exact iteT (B := Z2 G) ⟨(by show 0 ≤ sizeLine; omega), fun p np => hQ p np⟩
    · intro H1 as la t1
      refine ⟨_, rfl, b0, us, rfl, (Ex.same t1.same).tup hsu, ?_⟩
      refine for_ET (xs := us) (fun i σ G => ∃ (g2 g3 g4 g5 : Option V) (L : LsN), σ = [some (.ref b0), some (.ref D0), g2, g3, g4, g5, none] ∧ TrN H G ((D0, as.map V.ref) :: L) ∧ L.map (·.1) = as ∧ Par K ns i 0 G L) ?_ ?_ ?_ ?_ ?_
      · refine ⟨none, none, none, none, _, rfl, t1, ?_, ?_, fun c z hz => ?_⟩
        · rw [List.map_map]
          exact List.map_id _
        · rw [List.length_map, la, lu]
        · rw [List.getElem?_map] at hz
          obtain ⟨p, _, rfl⟩ := Option.map_eq_some_iff.mp hz
          exact .nil
      · rintro i σ G ⟨g2, g3, g4, g5, L, rfl, t, _, _⟩
        exact (Ex.same t.same).tup hsu
      · rintro i σ G T x ⟨g2, g3, g4, g5, L, rfl, t, e, pr⟩ nT
        have s := Same.new (o := .tup [V.int (i : Nat), x]) nT
        exact ⟨g2, g3, g4, g5, L, rfl, t.go s, e, pr.ex (.same s)⟩
      · rintro i x T σ G hx ⟨g2, g3, g4, g5, L, rfl, t, e, pr⟩ hT
        obtain ⟨d, hd, rx⟩ := hxu.get hx
        rw [List.getElem?_map] at hd
        obtain ⟨g, hgi, rfl⟩ := Option.map_eq_some_iff.mp hd
        have hi := (List.getElem?_eq_some_iff.mp hgi).1
        have gr := hg g (List.mem_of_getElem? hgi)
        have ek : kd ns i = gk g := kd_at hgi
        refine ⟨T, _, rfl, SqT.of hT, rfl, _, _, rfl, _, _, rfl, rfl, ?_⟩
        refine ⟨_, rfl, x, g, rfl, Rdd.ex (Ex.same t.same) _ rx, (gk_rng gr).1, fun r0 G1 s1 hr0 => ?_⟩
        obtain ⟨c0, cs, rfl, hc0, hcs, _⟩ := hr0.tupd'
        have ecs := iD_ints hcs
        have lcs : cs.length = (gk g).length := by rw [ecs, List.length_map]
        have t1' := t.go s1
        refine ⟨c0, cs, rfl, hc0, ?_⟩
        refine for_ET (xs := cs) (fun k σ G2 => ∃ (g4 g5 : Option V) (L : LsN), σ = [some (.ref b0), some (.ref D0), some (.int (i : Nat)), some x, g4, g5, none] ∧ Ex G1 G2 ∧ TrN H G2 ((D0, as.map V.ref) :: L) ∧ L.map (·.1) = as ∧ Par K ns i k G2 L) ?_ ?_ ?_ ?_ ?_
        · exact ⟨g4, g5, L, rfl, .same (Same.refl _), t1', e, pr.ex (.same s1)⟩
        · rintro k σ G2 ⟨g4, g5, L, rfl, x2, t2, e2, pr2⟩
          exact x2.tup hc0
        · rintro k σ G2 T2 y ⟨g4, g5, L, rfl, x2, t2, e2, pr2⟩ nT2
          have s := Same.new (o := .tup [V.int (k : Nat), y]) nT2
          exact ⟨g4, g5, L, rfl, x2.trans (.same s), t2.go s, e2, pr2.ex (.same s)⟩
        · rintro k y T2 σ G2 hy ⟨g4, g5, L, rfl, x2, t2, e2, pr2⟩ hT2
          rw [ecs, List.getElem?_map] at hy
          obtain ⟨c, hck, rfl⟩ := Option.map_eq_some_iff.mp hy
          have hkk := (List.getElem?_eq_some_iff.mp hck).1
          have k3 := (gk_rng gr).1
          have hc := (gk_rng gr).2 c (List.mem_of_getElem? hck)
          have hLc : L[c]? = some (L[c]'(by rw [pr2.len]; exact hc)) := List.getElem?_eq_getElem _
          generalize L[c]'(by rw [pr2.len]; exact hc) = z at hLc
          have rps := pr2.exa c z hLc
          have lz : z.2.length ≤ 3 * i + k := by
            rw [rps.length, List.length_map, List.length_append]
            have h1 := parP_len hg c i
            have h2 := rowP_len i c (kd ns i) k
            omega
          refine ⟨T2, _, rfl, SqT.of hT2, rfl, _, _, rfl, _, _, rfl, rfl, ?_⟩
          have hD0 := t2.at (i := 0) (a := D0) (l := as.map V.ref) rfl
          have hz2 := t2.hold z (List.mem_cons_of_mem _ (List.mem_of_getElem? hLc))
          refine ⟨_, rfl, _, rfl, D0, _, ((c : Nat) : Int), V.ref z.1, rfl, rfl, SqL.of hD0, atI_nat (j := c) (by rw [List.getElem?_map, ← e2, List.getElem?_map, hLc]; rfl), .inl ⟨rfl, _, SqL.of hz2⟩, _, rfl, _, rfl, (by show 2 ≤ sizeLine; omega), fun p np => ?_⟩
          have s3 := Same.new (o := .tup [V.int (i : Nat), .int (k : Nat)]) np
          have hp3 : (upd G2 p (.tup [V.int (i : Nat), .int (k : Nat)])) p = some (.tup [V.int (i : Nat), .int (k : Nat)]) := upd_same
          have t3 := t2.go s3
          have pr3 := pr2.ex (.same s3)
          have x3 := x2.trans (.same s3)
          generalize upd G2 p (.tup [V.int (i : Nat), .int (k : Nat)]) = G3 at s3 hp3 t3 pr3 x3 ⊢
          have hz3 := t3.hold z (List.mem_cons_of_mem _ (List.mem_of_getElem? hLc))
          refine ⟨z.1, _, _, rfl, rfl, hz3, by omega, ?_⟩
          have t4 := t3.set (i := c + 1) (a := z.1) (l := z.2) (l' := z.2 ++ [V.ref p]) hLc
          have x4 : Ex G3 (upd G3 z.1 (.lst (z.2 ++ [V.ref p]))) := (Off.put (a := z.1)).ex hz3 upd_same
          refine ⟨_, _, L.set c (z.1, z.2 ++ [V.ref p]), rfl, x3.trans x4, t4, by rw [lsn_fst hLc]; exact e2, by rw [List.length_set]; exact pr3.len, fun c' z' hz' => ?_⟩
          rw [rowP_succ, ek]
          by_cases ec : c = c'
          · subst ec
            rw [List.getElem?_set_self (List.getElem?_eq_some_iff.mp hLc).1] at hz'
            cases hz'
            rw [if_pos hck, ← List.append_assoc, List.map_append]
            rw [ek] at rps
            exact (RddAll.ex x4 _ (RddAll.ex (.same s3) _ rps)).snoc (tup_val (by rw [upd_ne (fun w => by rw [w, hz3] at hp3; cases hp3)]; exact hp3) (.cons (.int _) (.cons (.int _) .nil)) (by simp))
          · rw [List.getElem?_set_ne ec] at hz'
            have r1 := pr3.exa c' z' hz'
            rw [ek] at r1
            rw [if_neg (fun w => ec (by rw [hck] at w; exact Option.some.inj w)), List.append_nil]
            exact RddAll.ex x4 _ r1
        · rintro σ G2 ⟨g4, g5, L, rfl, x2, t2, e2, pr2⟩
          refine ⟨_, _, g4, g5, L, rfl, t2, e2, pr2.len, fun c z hz => ?_⟩
          have r1 := pr2.exa c z hz
          rw [lcs, ← ek, ← parP_succ] at r1
          rw [show rowP (i + 1) c (kd ns (i + 1)) 0 = [] from rfl, List.append_nil]
          exact r1
      · rintro σ G ⟨g2, g3, g4, g5, L, rfl, t, e, pr⟩
        rw [lu] at pr
        refine ⟨_, rfl, q D0 G L ?_ pr⟩
        rw [show (L.map fun z => V.ref z.1) = as.map V.ref by rw [← e, List.map_map]; rfl]
        exact t
end
end Sl

set_option Elab.async false
set_option linter.all false
set_option maxRecDepth 100000
set_option maxHeartbeats 400000
/-! ## _in_need -/
namespace Sl
open PySem PySem.Spec PyProof.Rows L2
abbrev sInNeed : Stmt := topT 23
theorem scInNeed : FnScope ["parents", "variable", "function", "found", "waiting", "number", "parent", "_"] ["parents", "variable", "function"] (defScope sInNeed) := ⟨rfl, rfl, rfl, by decide +kernel, rfl, by decide +kernel, by decide +kernel⟩
section
variable {P : Program} {w : World} {K : PySem.W.Frag} {mg : Str → Option Value} {base : Heap}
/-- who needs f because of v, so far -/
structure Nds (ns : List GN) (f v : Nat) (m st : List Nat) : Prop where
  nd : m.Nodup
  lt : ∀ i ∈ m, i < ns.length
  sub : ∀ i ∈ st, i ∈ m
  has : v ∈ m
  sound : ∀ i ∈ m, Nd ns f v i
  full : ∀ i ∈ m, i ∉ st → ∀ j, i ∈ kd ns j → j ≠ f → j ∈ m
theorem Nds.all {ns : List GN} {f v : Nat} {m : List Nat} (h : Nds ns f v m []) (i : Nat) : i ∈ m ↔ Nd ns f v i := by
  refine ⟨h.sound i, fun n => ?_⟩
  induction n with
  | var => exact h.has
  | @up i c _ hc hne ih => exact h.full c ih (by simp) i hc hne
def spInNeed (K : PySem.W.Frag) : Sp := fun vs H Q _ => ∃ (p : Addr) (L : LsN) (ns : List GN) (v f : Nat), vs = [.ref p, .int (v : Nat), .int (f : Nat)] ∧ H p = some (.lst (L.map fun z => V.ref z.1)) ∧ (∀ z ∈ L, H z.1 = some (.lst z.2)) ∧ Par K ns ns.length 0 H L ∧ (∀ g ∈ ns, Rng ns.length g) ∧ v < ns.length ∧ ns.length ≤ 4000 ∧
  ∀ m r H', Nds ns f v m [] → Same H H' → H r = none → H' r = some (.lst (iL m)) → Q (.ref r) H'
theorem ok_inNeed {f : Addr} {fd : FuncData} (F : Fun K "_in_need" "_in_need" sInNeed f fd) (B : Bt mg) : FnOk P w K mg base CX0 1 f fd ["parents", "variable", "function"] (spInNeed K) := by
  refine F.ok scInNeed (fun vs H Q E h => ?_) (fun cdv A outer s H vs Q E hr h => ?_)
  · obtain ⟨p, L, ns, v, f, rfl, _⟩ := h
    rfl
  · obtain ⟨p, L, ns, v, f, rfl, hp, hL, pr, hg, hv, hn, q⟩ := h
    have hu := hu_of hr
    have sl := sizeLine_eq
    --D
    refine ⟨_, (pss_cons (ps_set (i := 3) scInNeed.nd rfl (Or.inl rfl) (pe_disp (pps_cons (pv 1) pe_bl pps_nil) rfl rfl (by simp) (by decide)))
        (pss_cons (ps_set (i := 4) scInNeed.nd rfl (Or.inl rfl) (pe_lst (pa_cons (pv 1) pa_nil)))
        (pss_cons (ps_while PassesOwn.never (pt_truth (pv 4) (by intro _; rfl))
        (pss_cons (ps_set (i := 5) scInNeed.nd rfl (Or.inl rfl) (pe_bm0 PySem.F.plainAttrs_list PySem.F.slot_list_pop PySem.F.type_list_pop mt_pop (pv 4)))
        (pss_one (ps_for PassesOwn.never rfl (pi_list (pe_ix ix_list (pv 0) (pv 5) (fun _ _ => rfl))) (pg_tup rfl (pgs_cons (pg_name (i := 6) scInNeed.nd rfl (Or.inl rfl)) (pgs_cons (pg_name (i := 7) scInNeed.nd rfl (Or.inl rfl)) pgs_nil)))
          (pss_one (ps_if (PW.pt (pw_and (pt_cmpR op_ne (pv 6) (pv 2) (nomark _)) (pw_and1 (pt_cmp (pc_dnotin hu (pv 6) (pv 3))))))
          (pss_cons (ps_asg pe_bl (pg_sub (pv 3) (pv 6) (set_dict hu)))
        (pss_one (ps_expr (pe_bm PySem.F.plainAttrs_list PySem.F.slot_list_append PySem.F.type_list_append mt_append (pv 4) (pa_cons (pv 6) pa_nil))))) pss_nil))))))
        (pss_one (ps_ret (pe_callTy (call_list_dK rfl) (by rfl) B.list (by decide +kernel) (pa_cons (pv 3) pa_nil))))))), ?_⟩
    --E
    refine fun dt ndt => ⟨_, rfl, upd_same, [(Sum.inl ((v : Nat) : Int), .bl true)], rfl, (by show 1 ≤ 15; decide), ?_⟩
    have hd1 : (upd (upd H dt (.dK [])) dt (.dK (mergeK [] [(Sum.inl ((v : Nat) : Int), V.bl true)]))) dt = some (.dK (kvI [v])) := upd_same
    have s1 : Same H (upd (upd H dt (.dK [])) dt (.dK (mergeK [] [(Sum.inl ((v : Nat) : Int), V.bl true)]))) := jr_same.put (Same.new ndt) ndt
    generalize upd (upd H dt (.dK [])) dt (.dK (mergeK [] [(Sum.inl ((v : Nat) : Int), V.bl true)])) = H1 at s1 hd1 ⊢
    refine ⟨_, rfl, (by show 1 ≤ sizeLine; omega), fun w0 nw => ?_⟩
    have dw : dt ≠ w0 := ne_of_none hd1 nw
    have nw0 := none_of s1 nw
    have s2 := Same.new (o := .lst [V.int (v : Nat)]) nw
    have hw2 : (upd H1 w0 (.lst [V.int (v : Nat)])) w0 = some (.lst (iL [v].reverse)) := upd_same
    have hd2 := s2 _ _ hd1
    have s12 := s1.trans s2
    generalize upd H1 w0 (.lst [V.int (v : Nat)]) = H2 at s12 hd2 hw2 ⊢
    refine ⟨fun μ σ' G => ∃ (m st : List Nat) (g5 g6 g7 : Option V), μ = 2 * (ns.length - m.length) + st.length ∧ σ' = [some (.ref p), some (.int (v : Nat)), some (.int (f : Nat)), some (.ref dt), some (.ref w0), g5, g6, g7] ∧ Same H G ∧ G dt = some (.dK (kvI m)) ∧ G w0 = some (.lst (iL st.reverse)) ∧ Nds ns f v m st ∧ st.length ≤ m.length,
      ⟨_, [v], [v], none, none, none, rfl, rfl, s12, hd2, hw2, ⟨by simp, fun i hi => by rw [List.mem_singleton.mp hi]; exact hv, fun i hi => hi, List.mem_singleton.mpr rfl, fun i hi => by rw [List.mem_singleton.mp hi]; exact .var, fun i hi hn => absurd hi hn⟩, Nat.le_refl _⟩, ?_⟩
    rintro μ σ' G ⟨m, st, g5, g6, g7, rfl, rfl, sG, hd, hw, nds, l3⟩
    have lm := nd_len' nds.nd nds.lt
    refine ⟨.ref w0, rfl, !(iL st.reverse).isEmpty, .inl ⟨_, SqL.of hw, rfl⟩, ?_⟩
    cases st with
    | nil =>
      refine iteF ⟨_, rfl, dt, _, rfl, hd, fun r nr => ?_⟩
      refine q m r _ nds (sG.trans (Same.new nr)) (none_of sG nr) ?_
      have e : (kvI m).map (fun kv => kV kv.1) = iL m := by
        unfold kvI iL
        rw [List.map_map]
        rfl
      rw [e]
      exact upd_same
    | cons x st =>
      have es : ∀ (y : Nat) (l : List Nat), iL (y :: l).reverse = iL l.reverse ++ [V.int (y : Nat)] := fun y l => by
        unfold iL
        rw [List.reverse_cons, List.map_append]
        rfl
      rw [es] at hw ⊢
      have hx := nds.lt x (nds.sub x List.mem_cons_self)
      rw [show (!(iL st.reverse ++ [V.int (x : Nat)]).isEmpty) = true by simp]
      refine iteT ⟨fun σ2 G2 => ∃ (m2 st2 : List Nat), 2 * (ns.length - m2.length) + st2.length < 2 * (ns.length - m.length) + (x :: st).length ∧ ∃ g5 g6 g7 : Option V, σ2 = [some (.ref p), some (.int (v : Nat)), some (.int (f : Nat)), some (.ref dt), some (.ref w0), g5, g6, g7] ∧ Same H G2 ∧ G2 dt = some (.dK (kvI m2)) ∧ G2 w0 = some (.lst (iL st2.reverse)) ∧ Nds ns f v m2 st2 ∧ st2.length ≤ m2.length, ?_, ?_⟩
      · rintro σ2 G2 ⟨m2, st2, l2, g5, g6, g7, rest⟩
        exact ⟨_, l2, m2, st2, g5, g6, g7, rfl, rest⟩
      refine ⟨.ref w0, rfl, .inl ⟨rfl, _, SqL.of hw⟩, w0, _, .int (x : Nat), rfl, rfl, hw, by simp, ?_⟩
      rw [List.dropLast_concat]
      have sG1 : Same H (upd G w0 (.lst (iL st.reverse))) := jr_same.put sG nw0
      have hd1' : (upd G w0 (.lst (iL st.reverse))) dt = some (.dK (kvI m)) := by rw [upd_ne dw]; exact hd
      have hw1 : (upd G w0 (.lst (iL st.reverse))) w0 = some (.lst (iL st.reverse)) := upd_same
      generalize upd G w0 (.lst (iL st.reverse)) = G1 at sG1 hd1' hw1 ⊢
      have hLx : L[x]? = some (L[x]'(by rw [pr.len]; exact hx)) := List.getElem?_eq_getElem _
      generalize L[x]'(by rw [pr.len]; exact hx) = z at hLx
      obtain ⟨ps, rps, lps, q1, q2, _⟩ := pr.rd hg x z hLx
      have lz : z.2.length = ps.length := by rw [rps.length, List.length_map]
      have hz := hL z (List.mem_of_getElem? hLx)
      refine ⟨_, rfl, _, rfl, p, _, ((x : Nat) : Int), V.ref z.1, rfl, rfl, SqL.of (sG1 _ _ hp), atI_nat (j := x) (by rw [List.getElem?_map, hLx]; rfl), z.1, rfl, ⟨_, SqL.of (sG1 _ _ hz)⟩, ?_⟩
      refine for_list (xs := z.2) (fun t σ G2 => ∃ (m2 st2 : List Nat) (g6 g7 : Option V), 2 * (ns.length - m2.length) + st2.length < 2 * (ns.length - m.length) + (x :: st).length ∧ σ = [some (.ref p), some (.int (v : Nat)), some (.int (f : Nat)), some (.ref dt), some (.ref w0), some (.int (x : Nat)), g6, g7] ∧ Same H G2 ∧ G2 dt = some (.dK (kvI m2)) ∧ G2 w0 = some (.lst (iL st2.reverse)) ∧ Nds ns f v m2 (x :: st2) ∧ st2.length ≤ m2.length ∧ ∀ t' a, t' < t → ps[t']? = some a → a.1 = f ∨ a.1 ∈ m2) ?_ ?_ ?_ ?_
      · exact ⟨m, st, g6, g7, by rw [List.length_cons]; omega, rfl, sG1, hd1', hw1, nds, by rw [List.length_cons] at l3; omega, fun t' a h => by omega⟩
      · rintro t σ G2 _ ⟨m2, st2, g6, g7, _, rfl, s, _⟩
        exact SqL.of (s _ _ hz)
      · rintro t y σ G2 hy ⟨m2, st2, g6, g7, lμ, rfl, sG2, hd2', hw2', nds2, l4, hd4⟩
        obtain ⟨d, hdd, ry⟩ := rps.get hy
        rw [List.getElem?_map] at hdd
        obtain ⟨a, hat, rfl⟩ := Option.map_eq_some_iff.mp hdd
        obtain ⟨t0, xs, rfl, ht0, hxs, _⟩ := (Rdd.ex (Ex.same sG2) _ ry).tupd'
        obtain ⟨x1, x2, rfl, r1, r2⟩ := hxs.pair
        cases r1
        have hka := q1 a (List.mem_of_getElem? hat)
        have ha : a.1 < ns.length := by
          unfold kd at hka
          split at hka
          · rename_i e
            exact (List.getElem?_eq_some_iff.mp e).1
          · cases hka
        have lm2 := nd_len' nds2.nd nds2.lt
        refine ⟨t0, _, rfl, ht0, rfl, _, _, rfl, _, _, rfl, rfl, ?_⟩
        refine ⟨_, rfl, _, rfl, rfl, _, rfl, ?_⟩
        dsimp only
        rw [int_dec]
        have keepD : ∀ b : List Nat, (∀ t' a', t' < t → ps[t']? = some a' → a'.1 = f ∨ a'.1 ∈ m2) → (a.1 = f ∨ a.1 ∈ b) → (∀ i ∈ m2, i ∈ b) → ∀ t' a', t' < t + 1 → ps[t']? = some a' → a'.1 = f ∨ a'.1 ∈ b := fun b h0 h1 h2 t' a' ht' ha' => by
          by_cases e : t' = t
          · subst e
            rw [hat] at ha'
            rw [← Option.some.inj ha']
            exact h1
          · exact (h0 t' a' (by omega) ha').imp_right (h2 _)
        by_cases ef : a.1 = f
        · rw [decide_eq_true (by rw [ef])]
          exact iteF (iteF ⟨m2, st2, _, _, lμ, rfl, sG2, hd2', hw2', nds2, l4, keepD m2 hd4 (.inl ef) fun i h => h⟩)
        rw [decide_eq_false (p := ((a.1 : Nat) : Int) = ((f : Nat) : Int)) (fun z => ef (Int.ofNat.inj z))]
        obtain ⟨o, hgo, ho⟩ := kvI_get a.1 hd2'
        refine iteT ⟨_, rfl, _, rfl, dt, o, rfl, hgo, _, rfl, ?_⟩
        rw [ho]
        by_cases sm : a.1 ∈ m2
        · rw [decide_eq_true sm]
          exact iteF ⟨m2, st2, _, _, lμ, rfl, sG2, hd2', hw2', nds2, l4, keepD m2 hd4 (.inr sm) fun i h => h⟩
        rw [decide_eq_false sm]
        have nd2 : (m2 ++ [a.1]).Nodup := List.nodup_append.mpr ⟨nds2.nd, by simp, fun x hx y hy => by
          rw [List.mem_singleton.mp hy]
          exact fun z => sm (z ▸ hx)⟩
        have lt2 : ∀ i ∈ m2 ++ [a.1], i < ns.length := fun i hi => by
          rcases List.mem_append.mp hi with hi | hi
          · exact nds2.lt i hi
          · rw [List.mem_singleton.mp hi]
            exact ha
        have lmn := nd_len' nd2 lt2
        rw [List.length_append, List.length_singleton] at lmn
        refine iteT ⟨_, rfl, _, rfl, dt, _, rfl, DPut.k (k := Sum.inl ((a.1 : Nat) : Int)) hd2' (by rw [kvI_len]; omega), ?_⟩
        rw [kvI_put sm]
        have sG3 : Same H (upd G2 dt (.dK (kvI (m2 ++ [a.1])))) := jr_same.put sG2 ndt
        have hd3 : (upd G2 dt (.dK (kvI (m2 ++ [a.1])))) dt = some (.dK (kvI (m2 ++ [a.1]))) := upd_same
        have hw3 : (upd G2 dt (.dK (kvI (m2 ++ [a.1])))) w0 = some (.lst (iL st2.reverse)) := by rw [upd_ne (Ne.symm dw)]; exact hw2'
        generalize upd G2 dt (.dK (kvI (m2 ++ [a.1]))) = G3 at sG3 hd3 hw3 ⊢
        have lst' : (iL st2.reverse).length = st2.length := by
          unfold iL
          rw [List.length_map, List.length_reverse]
        refine ⟨_, rfl, .inl ⟨rfl, _, SqL.of hw3⟩, _, rfl, w0, _, _, rfl, rfl, hw3, by omega, ?_⟩
        rw [← es]
        rw [List.length_cons] at lμ l3
        refine ⟨m2 ++ [a.1], a.1 :: st2, _, _, by simp only [List.length_append, List.length_cons, List.length_nil]; omega, rfl, jr_same.put sG3 nw0, by rw [upd_ne dw]; exact hd3, upd_same, ⟨nd2, lt2, fun i hi => ?_, List.mem_append_left _ nds2.has, fun i hi => ?_, fun i hi hni j hij hjf => ?_⟩, by simp only [List.length_append, List.length_cons, List.length_nil]; omega, keepD _ hd4 (.inr (List.mem_append_right _ (List.mem_singleton.mpr rfl))) fun i h => List.mem_append_left _ h⟩
        · rcases List.mem_cons.mp hi with rfl | hi
          · exact List.mem_append_left _ (nds2.sub _ List.mem_cons_self)
          · rcases List.mem_cons.mp hi with rfl | hi
            · exact List.mem_append_right _ (List.mem_singleton.mpr rfl)
            · exact List.mem_append_left _ (nds2.sub _ (List.mem_cons_of_mem _ hi))
        · rcases List.mem_append.mp hi with hi | hi
          · exact nds2.sound i hi
          · rw [List.mem_singleton.mp hi]
            exact .up (nds2.sound x (nds2.sub x List.mem_cons_self)) hka ef
        · rcases List.mem_append.mp hi with hi | hi
          · refine List.mem_append_left _ (nds2.full i hi (fun z => hni ?_) j hij hjf)
            rcases List.mem_cons.mp z with z | z
            · exact z ▸ List.mem_cons_self
            · exact List.mem_cons_of_mem _ (List.mem_cons_of_mem _ z)
          · exact absurd (by rw [List.mem_singleton.mp hi]; exact List.mem_cons_of_mem _ List.mem_cons_self) hni
      · rintro σ G2 ⟨m2, st2, g6, g7, lμ, rfl, sG2, hd2', hw2', nds2, l4, hd4⟩
        refine ⟨m2, st2, lμ, _, g6, g7, rfl, sG2, hd2', hw2', ⟨nds2.nd, nds2.lt, fun i hi => nds2.sub i (List.mem_cons_of_mem _ hi), nds2.has, nds2.sound, fun i hi hni j hij hjf => ?_⟩, l4⟩
        by_cases ex : i = x
        · subst ex
          have hj : j < ns.length := by
            unfold kd at hij
            split at hij
            · rename_i e
              exact (List.getElem?_eq_some_iff.mp e).1
            · cases hij
          obtain ⟨k, hk⟩ := q2 j hj hij
          obtain ⟨t', ht', e⟩ := List.getElem_of_mem hk
          rcases hd4 t' (j, k) (by omega) (by rw [List.getElem?_eq_getElem ht', e]) with h | h
          · exact absurd h hjf
          · exact h
        · exact nds2.full i hi (fun z => by
            rcases List.mem_cons.mp z with z | z
            · exact ex z
            · exact hni z) j hij hjf
end
end Sl

set_option Elab.async false
set_option linter.all false
set_option maxRecDepth 100000
set_option maxHeartbeats 400000
/-! ## needs_of -/
namespace Sl
open PySem PySem.Spec PyProof.Rows L2
abbrev sNeeds : Stmt := topT 24
theorem scNeeds : FnScope ["nodes", "parents", "needs", "number", "variables", "function", "variable", "_", "node", "row"] ["nodes"] (defScope sNeeds) := ⟨rfl, rfl, rfl, by decide +kernel, rfl, by decide +kernel, by decide +kernel⟩
open Classical in
/-- of these (function, variable) the functions that i needs -/
noncomputable def nrow (ns : List GN) (l : List (Nat × Nat)) (i : Nat) : List Nat := (l.filter fun p => decide (Nd ns p.1 p.2 i)).map (·.1)
open Classical in
theorem nrow_mem {ns : List GN} {l : List (Nat × Nat)} {i f : Nat} : f ∈ nrow ns l i ↔ ∃ v, (f, v) ∈ l ∧ Nd ns f v i := by
  unfold nrow
  rw [List.mem_map]
  constructor
  · rintro ⟨p, hp, rfl⟩
    obtain ⟨h1, h2⟩ := List.mem_filter.mp hp
    exact ⟨p.2, h1, of_decide_eq_true h2⟩
  · rintro ⟨v, h1, h2⟩
    exact ⟨(f, v), List.mem_filter.mpr ⟨h1, decide_eq_true h2⟩, rfl⟩
open Classical in
theorem nrow_snoc {ns : List GN} {l : List (Nat × Nat)} {p : Nat × Nat} {i : Nat} : (Nd ns p.1 p.2 i → nrow ns (l ++ [p]) i = nrow ns l i ++ [p.1]) ∧ (¬ Nd ns p.1 p.2 i → nrow ns (l ++ [p]) i = nrow ns l i) := by
  unfold nrow
  rw [List.filter_append, List.map_append]
  constructor
  · intro h
    rw [List.filter_cons_of_pos (by exact decide_eq_true h)]
    rfl
  · intro h
    rw [List.filter_cons_of_neg (by simp only [decide_eq_true_eq]; exact h)]
    simp
open Classical in
theorem nrow_le (ns : List GN) (l : List (Nat × Nat)) (i : Nat) : (nrow ns l i).length ≤ l.length := by
  unfold nrow
  rw [List.length_map]
  exact List.length_filter_le ..
abbrev rTupOf (K : PySem.W.Frag) : List V → Hp → VK → Prop := fun xs H Q => ∃ p ys, xs = [.ref p] ∧ ((SqL K H p ys ∧ ∀ l, H l = none → Q (.ref l) (upd H l (.tup ys))) ∨ (SqT K H p ys ∧ Q (.ref p) H))
/-- the functions that i needs, ascending -/
structure Row (ns : List GN) (i : Nat) (r : List Nat) : Prop where
  asc : r.Pairwise (· < ·)
  mem : ∀ f, f ∈ r ↔ ∃ v, ns[v]? = some (.V f) ∧ Nd ns f v i
theorem asc_one : ∀ {a b : List Nat}, a.Pairwise (· < ·) → b.Pairwise (· < ·) → (∀ x, x ∈ a ↔ x ∈ b) → a = b
  | [], [], _, _, _ => rfl
  | [], y :: b, _, _, h => by
    have := (h y).mpr List.mem_cons_self
    cases this
  | x :: a, [], _, _, h => by
    have := (h x).mp List.mem_cons_self
    cases this
  | x :: a, y :: b, ha, hb, h => by
    have ⟨a1, a2⟩ := List.pairwise_cons.mp ha
    have ⟨b1, b2⟩ := List.pairwise_cons.mp hb
    have e : x = y := by
      rcases List.mem_cons.mp ((h x).mp List.mem_cons_self) with e | e
      · exact e
      · rcases List.mem_cons.mp ((h y).mpr List.mem_cons_self) with e2 | e2
        · exact e2.symm
        · have := a1 y e2
          have := b1 x e
          omega
    subst e
    refine congrArg (x :: ·) (asc_one a2 b2 fun z => ⟨fun hz => ?_, fun hz => ?_⟩)
    · rcases List.mem_cons.mp ((h z).mp (List.mem_cons_of_mem _ hz)) with e | e
      · have := a1 z hz
        omega
      · exact e
    · rcases List.mem_cons.mp ((h z).mpr (List.mem_cons_of_mem _ hz)) with e | e
      · have := b1 z hz
        omega
      · exact e
theorem Row.one {ns : List GN} {i : Nat} {a b : List Nat} (h : Row ns i a) (h' : Row ns i b) : a = b := asc_one h.asc h'.asc fun x => by rw [h.mem, h'.mem]
def vl (ns : List GN) (i : Nat) : List (Nat × Nat) := (List.range i).filterMap fun j => (nAt ns j).own.map fun f => (f, j)
theorem vl_succ (ns : List GN) (i : Nat) : vl ns (i + 1) = vl ns i ++ ((nAt ns i).own.map fun f => (f, i)).toList := by
  unfold vl
  rw [List.range_succ, List.filterMap_append]
  congr 1
theorem vl_at {ns : List GN} {f v : Nat} : (f, v) ∈ vl ns ns.length ↔ ns[v]? = some (.V f) := by
  unfold vl
  rw [List.mem_filterMap]
  constructor
  · rintro ⟨j, hj, e⟩
    have hlt := List.mem_range.mp hj
    cases hg : nAt ns j with
    | V f2 =>
      rw [hg] at e
      have e' : some (f2, j) = some (f, v) := e
      cases e'
      rw [nAt_get hlt, hg]
    | W x cs => rw [hg] at e; cases e
    | F c => rw [hg] at e; cases e
  · intro h
    have hlt := (List.getElem?_eq_some_iff.mp h).1
    have e : nAt ns v = .V f := Option.some.inj ((nAt_get hlt).symm.trans h)
    exact ⟨v, List.mem_range.mpr hlt, by rw [e]; rfl⟩
theorem vl_asc (ns : List GN) (i : Nat) : (vl ns i).Pairwise fun p q => p.2 < q.2 := by
  unfold vl
  refine List.Pairwise.filterMap _ (fun a b hab p hp q hq => ?_) List.pairwise_lt_range
  cases ha : (nAt ns a).own with
  | none => rw [ha] at hp; cases hp
  | some f =>
    cases hb : (nAt ns b).own with
    | none => rw [hb] at hq; cases hq
    | some g =>
      rw [ha] at hp
      rw [hb] at hq
      cases hp
      cases hq
      exact hab
theorem vl_len (ns : List GN) (i : Nat) : (vl ns i).length ≤ i := by
  unfold vl
  have := List.length_filterMap_le (fun j => (nAt ns j).own.map fun f => (f, j)) (List.range i)
  rwa [List.length_range] at this
/-- sorted pairs, each function once -/
structure Srt (ns : List GN) (ws : List (Nat × Nat)) : Prop where
  asc : ws.Pairwise fun p q => p.1 < q.1
  mem : ∀ f v, (f, v) ∈ ws ↔ ns[v]? = some (.V f)
theorem srt_of {ns : List GN} {ws : List (Nat × Nat)} (ho : (own ns).Nodup) (p : ws.Perm (vl ns ns.length)) (h : ws.Pairwise fun p q => p.1 ≤ q.1) : Srt ns ws := by
  have hm : ∀ f v, (f, v) ∈ ws ↔ ns[v]? = some (.V f) := fun f v => by rw [p.mem_iff, vl_at]
  have nd : ws.Nodup := p.nodup_iff.mpr ((vl_asc ns ns.length).imp fun h z => by rw [z] at h; omega)
  refine ⟨?_, hm⟩
  refine (h.and nd).imp_of_mem fun {a b} ha hb z => ?_
  rcases Nat.lt_or_ge a.1 b.1 with l | l
  · exact l
  · have e : a.1 = b.1 := by omega
    have h1 := (hm a.1 a.2).mp ha
    have h2 := (hm b.1 b.2).mp hb
    rw [← e] at h2
    exact absurd (Prod.ext e (own_inj ho h1 h2)) z.2
theorem Srt.row {ns : List GN} {ws : List (Nat × Nat)} (h : Srt ns ws) (i : Nat) : Row ns i (nrow ns ws i) := by
  refine ⟨?_, fun f => ?_⟩
  · unfold nrow
    exact List.pairwise_map.mpr (h.asc.filter _)
  · rw [nrow_mem]
    exact exists_congr fun v => by rw [h.mem]
section
variable {P : Program} {w : World} {K : PySem.W.Frag} {mg : Str → Option Value} {base : Heap} {fWh fBe fNm fKd fWk fRw fPo fNd fAn : Addr} {dWh dBe dNm dKd dWk dRw dPo dNd dAn : FuncData}
def RowsAt (K : PySem.W.Frag) (H : Hp) (p : Addr) (R : List (List Nat)) : Prop := ∃ ys, H p = some (.lst ys) ∧ RddAll K H ys (R.map fun r => .tup (iD r))
structure RowsOk (ns : List GN) (R : List (List Nat)) : Prop where
  len : R.length = ns.length
  row : ∀ i r, R[i]? = some r → Row ns i r
def spNeeds (K : PySem.W.Frag) : Sp := fun vs H Q _ => ∃ (u : V) (ns : List GN), vs = [u] ∧ Rdd K H u (.tup (ns.map ndD)) ∧ (∀ g ∈ ns, Rng ns.length g) ∧ (own ns).Nodup ∧ ns.length ≤ 4000 ∧
  ∀ p H' R, Same H H' → H p = none → RowsAt K H' p R → RowsOk ns R → Q (.ref p) H'
theorem ok_needs (N : Gn K mg fWh fBe fNm fKd fWk fRw fPo fNd fAn dWh dBe dNm dKd dWk dRw dPo dNd dAn) {f fPa fIn : Addr} {fd fdPa fdIn : FuncData} (F : Fun K "needs_of" "needs_of" sNeeds f fd)
    (FPa : Fun K "parents_of" "parents_of" sParents fPa fdPa) (bPa : Binds K fdPa ["nodes"] []) (gPa : mg "parents_of" = some (.ref fPa)) (FIn : Fun K "_in_need" "_in_need" sInNeed fIn fdIn) (bIn : Binds K fdIn ["parents", "variable", "function"] []) (gIn : mg "_in_need" = some (.ref fIn)) (B : Bt mg) :
    FnOk P w K mg base CX0 3 f fd ["nodes"] (spNeeds K) := by
  have GP : FnOk P w K mg base CX0 2 fPa fdPa ["nodes"] (spParents K) := ok_parents N FPa B
  have GI : FnOk P w K mg base CX0 1 fIn fdIn ["parents", "variable", "function"] (spInNeed K) := ok_inNeed FIn B
  refine F.ok scNeeds (fun vs H Q E h => ?_) (fun cdv A outer s H vs Q E hr h => ?_)
  · obtain ⟨u, ns, rfl, _⟩ := h
    rfl
  · obtain ⟨u, ns, rfl, hu, hg, ho, hn, q⟩ := h
    have h1 := hr.mono (by decide : 1 ≤ 2)
    have sl := sizeLine_eq
    --D
    refine ⟨_, (pss_cons (ps_set (i := 1) scNeeds.nd rfl (Or.inl rfl) (pe_call GP hr (by rfl) gPa FPa.kp bPa .nil pass0 (pa_cons (pv 0) pa_nil)))
        (pss_cons (ps_setLc (i := 2) (own := [("_", 7)]) (g := gName 7) (tt := tYes) (te := tLst tNil) rfl scNeeds.nd rfl rfl (sw_true rfl rfl rfl (by decide +kernel)) (pi_tup (pv 0)) (blkOk_by (own := [("_", 7)]) (N := ["nodes", "parents", "needs", "number", "variables", "function", "variable", "_", "node", "row"]) (sc := defScope sNeeds) (by decide +kernel)) (fun _ _ _ _ _ => pg_name (i := 7) scNeeds.nd rfl (Or.inl rfl)) (fun _ _ _ _ _ => pts_nil) (fun _ _ _ _ _ => by exact pe_lst pa_nil))
        (pss_cons (ps_setLc (i := 4) (own := [("number", 3), ("node", 8)]) (g := (gTup K 2 (gCons (gName 3) (gCons (gName 8) gNil)))) (tt := tTest (tOp rEq (tOp (rIxT K) (tVar 8) (tC (.int 0))) (tC (.str "var")))) (te := tTup (tCons (tOp (rIxT K) (tVar 8) (tC (.int 1))) (tCons (tVar 3) tNil))) rfl scNeeds.nd rfl rfl (sw_true rfl rfl rfl (by decide +kernel)) (pi_enumT (by rfl) B.enum (pa_cons (pv 0) pa_nil)) (blkOk_by (own := [("number", 3), ("node", 8)]) (N := ["nodes", "parents", "needs", "number", "variables", "function", "variable", "_", "node", "row"]) (sc := defScope sNeeds) (by decide +kernel)) (fun _ _ _ _ _ => (pg_tup rfl (pgs_cons (pg_name (i := 3) scNeeds.nd rfl (Or.inl rfl)) (pgs_cons (pg_name (i := 8) scNeeds.nd rfl (Or.inl rfl)) pgs_nil)))) (fun _ _ _ _ _ => pts_one (by exact (pt_cmpR op_eq (pe_ix ix_tup (pv 8) pe_int (fun _ _ => rfl)) pe_str (nomark _)))) (fun _ _ _ _ _ => by exact (pe_tup (pa_cons (pe_ix ix_tup (pv 8) pe_int (fun _ _ => rfl)) (pa_cons (pv 3) pa_nil)))))
        (pss_cons (ps_for PassesOwn.never rfl (pi_list (pe_callB cr_sortedPO (by rfl) B.sorted (by decide +kernel) (pa_cons (pv 4) pa_nil))) (pg_tup rfl (pgs_cons (pg_name (i := 5) scNeeds.nd rfl (Or.inl rfl)) (pgs_cons (pg_name (i := 6) scNeeds.nd rfl (Or.inl rfl)) pgs_nil)))
          (pss_one (ps_for PassesOwn.never rfl (pi_list (pe_call GI h1 (by rfl) gIn FIn.kp bIn .nil pass0 (pa_cons (pv 1) (pa_cons (pv 6) (pa_cons (pv 5) pa_nil))))) (pg_name (i := 3) scNeeds.nd rfl (Or.inl rfl))
          (pss_one (ps_expr (pe_bm PySem.F.plainAttrs_list PySem.F.slot_list_append PySem.F.type_list_append mt_append (pe_ix ix_list (pv 2) (pv 3) (fun _ _ => rfl)) (pa_cons (pv 5) pa_nil)))))))
        (pss_one (ps_ret (pe_lc (own := [("row", 9)]) (g := gName 9) (tt := tYes) (te := tCB (rTupOf K) (tCons (tVar 9) tNil)) rfl scNeeds.nd (pi_list (pv 2)) (blkOk_by (own := [("row", 9)]) (N := ["nodes", "parents", "needs", "number", "variables", "function", "variable", "_", "node", "row"]) (sc := defScope sNeeds) (by decide +kernel)) (fun _ _ _ _ _ => pg_name (i := 9) scNeeds.nd rfl (Or.inl rfl)) (fun _ _ _ _ _ => pts_nil) (fun _ _ _ _ _ => by exact (pe_callTy call_tuple_of (by rfl) B.tuple (by decide +kernel) (pa_cons (pv 9) pa_nil)))))))))), ?_⟩
    --E
    have hu' := hu
    obtain ⟨b0, us, rfl, hsu, hxu, _⟩ := hu'.tupd'
    have lu : us.length = ns.length := by rw [hxu.length, List.length_map]
    refine ⟨_, rfl, .ref b0, ns, rfl, hu, hg, hn, fun p1 H1 L t1 pr => ?_⟩
    have s1 := t1.same
    have hp1 := t1.at (i := 0) (a := p1) (l := L.map fun z => V.ref z.1) rfl
    refine ⟨_, rfl, b0, rfl, ⟨_, (Ex.same s1).tup hsu⟩, fun D0 nD => ?_⟩
    refine lcNew (by omega) ((Ex.same s1).tup hsu) nD ?_ ?_
    · intro x G Q2 Z2 hQ
      refine ⟨rfl, ?_⟩
      exact iteT (B := Z2 G) ⟨(by show 0 ≤ sizeLine; omega), fun p np => hQ p np⟩
    intro H2 as la t2
    have s2 := t2.same
    have s02 := s1.trans s2
    -- variables
    refine ⟨_, rfl, b0, us, rfl, (Ex.same s02).tup hsu, fun D1 nD1 => ?_⟩
    refine lcET (xs := us) (fun i G => Same H2 G ∧ ∃ ts : List Addr, G D1 = some (.lst (ts.map V.ref)) ∧ ts.length = (vl ns i).length ∧ ∀ (j : Nat) t p, ts[j]? = some t → (vl ns i)[j]? = some p → G t = some (.tup [.int (p.1 : Nat), .int (p.2 : Nat)])) ?_ ?_ ?_ ?_ ?_
    · exact ⟨jr_same.put (Same.refl _) nD1, [], upd_same, rfl, fun j t p h => by simp at h⟩
    · rintro i G ⟨sG, _⟩
      exact (Ex.same (s02.trans sG)).tup hsu
    · rintro i G T x ⟨sG, ts, h2, h3, h4⟩ nT
      have sT := Same.new (o := .tup [V.int (i : Nat), x]) nT
      exact ⟨sG.trans sT, ts, sT _ _ h2, h3, fun j t p a b => sT _ _ (h4 j t p a b)⟩
    · rintro i x T G hx ⟨sG, ts, h2, h3, h4⟩ hT
      obtain ⟨d, hd, rx⟩ := hxu.get hx
      rw [List.getElem?_map] at hd
      obtain ⟨g, hgi, rfl⟩ := Option.map_eq_some_iff.mp hd
      have hi := (List.getElem?_eq_some_iff.mp hgi).1
      have eg : nAt ns i = g := Option.some.inj ((nAt_get hi).symm.trans hgi)
      have rx := Rdd.ex (Ex.same (s02.trans sG)) _ rx
      have lvl := vl_len ns i
      refine ⟨T, _, rfl, SqT.of hT, rfl, _, _, rfl, _, _, rfl, rfl, rfl, ?_⟩
      have skip : g.own = none → vl ns (i + 1) = vl ns i := fun e => by
        rw [vl_succ, eg, e]
        exact List.append_nil _
      cases g with
      | W y cs =>
        obtain ⟨a0, xs, rfl, hs, hx, _⟩ := rx.tupd'
        obtain ⟨x1, x2, x3, rfl, r1, r2, r3⟩ := hx.trip
        cases r1
        refine ⟨_, rfl, a0, _, (0 : Int), _, rfl, rfl, hs, atI_nat (j := 0) rfl, rfl, _, rfl, ?_⟩
        rw [str_dec, decide_eq_false (by decide +kernel)]
        refine iteF ⟨sG, ts, h2, ?_⟩
        rw [skip rfl]
        exact ⟨h3, h4⟩
      | F c =>
        obtain ⟨a0, xs, rfl, hs, hx, _⟩ := rx.tupd'
        obtain ⟨x1, x2, rfl, r1, r2⟩ := hx.pair
        cases r1
        refine ⟨_, rfl, a0, _, (0 : Int), _, rfl, rfl, hs, atI_nat (j := 0) rfl, rfl, _, rfl, ?_⟩
        rw [str_dec, decide_eq_false (by decide +kernel)]
        refine iteF ⟨sG, ts, h2, ?_⟩
        rw [skip rfl]
        exact ⟨h3, h4⟩
      | V f2 =>
        obtain ⟨a0, xs, rfl, hs, hx, _⟩ := rx.tupd'
        obtain ⟨x1, x2, rfl, r1, r2⟩ := hx.pair
        cases r1
        cases r2
        refine ⟨_, rfl, a0, _, (0 : Int), _, rfl, rfl, hs, atI_nat (j := 0) rfl, rfl, _, rfl, ?_⟩
        rw [str_dec, decide_eq_true rfl]
        have es : vl ns (i + 1) = vl ns i ++ [(f2, i)] := by
          rw [vl_succ, eg]
          rfl
        refine iteT ⟨_, rfl, a0, _, (1 : Int), _, rfl, rfl, hs, atI_nat (j := 1) rfl, _, rfl, (by show 2 ≤ sizeLine; omega), fun p np => ?_⟩
        have s3 := Same.new (o := .tup [V.int (f2 : Nat), .int (i : Nat)]) np
        have hp3 : (upd G p (.tup [V.int (f2 : Nat), .int (i : Nat)])) p = some (.tup [V.int (f2 : Nat), .int (i : Nat)]) := upd_same
        generalize upd G p (.tup [V.int (f2 : Nat), .int (i : Nat)]) = G3 at s3 hp3 ⊢
        refine ⟨_, s3 _ _ h2, by rw [List.length_map]; omega, jr_same.put (sG.trans s3) nD1, ts ++ [p], by rw [List.map_append]; exact upd_same, by rw [es, List.length_append, List.length_append, h3]; rfl, fun j t q hj hq => ?_⟩
        have keep : ∀ t0 a b, G3 t0 = some (.tup [a, b]) → (upd G3 D1 (.lst (ts.map V.ref ++ [V.ref p]))) t0 = some (.tup [a, b]) := fun t0 a b e => by
          rw [upd_ne (fun z => by rw [z, s3 _ _ h2] at e; cases e)]
          exact e
        rw [es] at hq
        by_cases hjl : j < ts.length
        · rw [List.getElem?_append_left hjl] at hj
          rw [List.getElem?_append_left (by omega)] at hq
          exact keep _ _ _ (s3 _ _ (h4 j t q hj hq))
        · have ej : j = ts.length := by
            have := (List.getElem?_eq_some_iff.mp hj).1
            rw [List.length_append, List.length_singleton] at this
            omega
          subst ej
          rw [List.getElem?_append_right (Nat.le_refl _), Nat.sub_self] at hj
          rw [h3, List.getElem?_append_right (Nat.le_refl _), Nat.sub_self] at hq
          cases hj
          cases hq
          exact keep _ _ _ hp3
    rintro H3 ⟨s3, ts, hD1, lts, hts⟩
    rw [lu] at lts hts
    have lvl := vl_len ns ns.length
    -- sorted(variables)
    let kk : V → Int × Int := fun x => match x with
      | .ref t => match H3 t with
        | some (.tup [.int a, .int b]) => (a, b)
        | _ => (0, 0)
      | _ => (0, 0)
    have hkk : ∀ (j : Nat) t p, ts[j]? = some t → (vl ns ns.length)[j]? = some p → kk (.ref t) = (((p.1 : Nat) : Int), ((p.2 : Nat) : Int)) := fun j t p a b => by
      show (match H3 t with | some (.tup [.int a, .int b]) => (a, b) | _ => (0, 0)) = _
      rw [hts j t p a b]
    have pk : (ts.map V.ref).map (fun x => ((kk x).1.toNat, (kk x).2.toNat)) = vl ns ns.length := by
      apply List.ext_getElem?
      intro j
      rw [List.getElem?_map, List.getElem?_map]
      by_cases hj : j < ts.length
      · rw [List.getElem?_eq_getElem hj, List.getElem?_eq_getElem (by omega)]
        show some ((kk (V.ref ts[j])).1.toNat, (kk (V.ref ts[j])).2.toNat) = _
        rw [hkk j _ _ (List.getElem?_eq_getElem hj) (List.getElem?_eq_getElem (by omega))]
        rfl
      · rw [List.getElem?_eq_none (by omega), List.getElem?_eq_none (by omega)]
        rfl
    have each : ∀ x ∈ ts.map V.ref, ∃ (t : Addr) (p : Nat × Nat), x = V.ref t ∧ H3 t = some (.tup [.int (p.1 : Nat), .int (p.2 : Nat)]) ∧ kk x = (((p.1 : Nat) : Int), ((p.2 : Nat) : Int)) := fun x hx => by
      obtain ⟨t, ht, rfl⟩ := List.mem_map.mp hx
      obtain ⟨j, hj, e⟩ := List.getElem_of_mem ht
      have a := List.getElem?_eq_getElem hj
      rw [e] at a
      have b : (vl ns ns.length)[j]? = some ((vl ns ns.length)[j]'(by omega)) := List.getElem?_eq_getElem _
      exact ⟨t, _, rfl, hts j t _ a b, hkk j t _ a b⟩
    refine ⟨_, rfl, D1, ts.map V.ref, kk, rfl, SqL.of hD1, fun x hx => ?_, fun ys p2 srt stb np2 => ?_⟩
    · obtain ⟨t, p, e1, e2, e3⟩ := each x hx
      exact ⟨t, e1, by rw [e3]; exact e2⟩
    have s4 := Same.new (o := .lst ys) np2
    have t4 : TrN H1 (upd H3 p2 (.lst ys)) ((p2, ys) :: (D0, as.map V.ref) :: as.map fun p => (p, [])) := (t2.go s3).cons np2
    have each4 : ∀ y ∈ ys, ∃ (t : Addr) (p : Nat × Nat), y = V.ref t ∧ (upd H3 p2 (.lst ys)) t = some (.tup [.int (p.1 : Nat), .int (p.2 : Nat)]) ∧ kk y = (((p.1 : Nat) : Int), ((p.2 : Nat) : Int)) := fun y hy => by
      obtain ⟨t, p, e1, e2, e3⟩ := each y (stb.perm.mem_iff.mp hy)
      exact ⟨t, p, e1, s4 _ _ e2, e3⟩
    have pw : (ys.map fun x => ((kk x).1.toNat, (kk x).2.toNat)).Perm (vl ns ns.length) := by
      rw [← pk]
      exact stb.perm.map _
    have sw : Srt ns (ys.map fun x => ((kk x).1.toNat, (kk x).2.toNat)) := by
      refine srt_of ho pw (List.pairwise_map.mpr (srt.imp fun {a b} h => ?_))
      show (kk a).1.toNat ≤ (kk b).1.toNat
      have h' : SrtO.lexB (kk b) (kk a) = false := h
      rcases Int.lt_or_le (kk b).1 (kk a).1 with l | l
      · rw [SrtO.lexB_iff.mpr (.inl l)] at h'
        cases h'
      · omega
    have wat : ∀ t y, ys[t]? = some y → (ys.map fun x => ((kk x).1.toNat, (kk x).2.toNat))[t]? = some ((kk y).1.toNat, (kk y).2.toNat) := fun t y h => by rw [List.getElem?_map, h]; rfl
    have lws : (ys.map fun x => ((kk x).1.toNat, (kk x).2.toNat)).length = ys.length := List.length_map ..
    have lyn : ys.length ≤ ns.length := by rw [← lws, pw.length_eq]; exact lvl
    generalize ys.map (fun x => ((kk x).1.toNat, (kk x).2.toNat)) = ws at pw sw wat lws
    generalize upd H3 p2 (.lst ys) = H4 at s4 t4 each4 ⊢
    have p4 := t4.at (i := 0) (a := p2) (l := ys) rfl
    refine ⟨p2, rfl, ⟨_, SqL.of p4⟩, ?_⟩
    have lnr : ∀ t i, (nrow ns (ws.take t) i).length ≤ ns.length := fun t i => by
      have h1 := nrow_le ns (ws.take t) i
      have h2 : (ws.take t).length ≤ ws.length := by rw [List.length_take]; omega
      omega
    refine for_list (xs := ys) (fun t σ G => ∃ (g3 g5 g6 : Option V) (M : LsN), σ = [some (.ref b0), some (.ref p1), some (.ref D0), g3, some (.ref D1), g5, g6, none, none, none] ∧ Ex H4 G ∧ TrN H1 G ((p2, ys) :: (D0, as.map V.ref) :: M) ∧ M.map (·.1) = as ∧ ∀ i z, M[i]? = some z → z.2 = iL (nrow ns (ws.take t) i)) ?_ ?_ ?_ ?_
    · refine ⟨_, none, none, _, rfl, Ex.refl _, t4, ?_, fun i z hz => ?_⟩
      · rw [List.map_map]
        exact List.map_id _
      · rw [List.getElem?_map] at hz
        obtain ⟨p, _, rfl⟩ := Option.map_eq_some_iff.mp hz
        rfl
    · rintro t σ G _ ⟨g3, g5, g6, M, rfl, x, tr, _⟩
      exact SqL.of (tr.at (i := 0) (a := p2) (l := ys) rfl)
    · rintro t y σ G hy ⟨g3, g5, g6, M, rfl, xG, tr, eM, hM⟩
      obtain ⟨tt, p, rfl, htt, ekk⟩ := each4 y (List.mem_of_getElem? hy)
      have hwt := wat t _ hy
      rw [ekk] at hwt
      have hwt : ws[t]? = some p := hwt
      have hv : ns[p.2]? = some (.V p.1) := (sw.mem p.1 p.2).mp (List.mem_of_getElem? hwt)
      have hvl := (List.getElem?_eq_some_iff.mp hv).1
      refine ⟨tt, _, rfl, xG.tup (SqT.of htt), rfl, _, _, rfl, _, _, rfl, rfl, ?_⟩
      have sG := tr.same
      refine ⟨_, rfl, _, rfl, _, rfl, p1, L, ns, p.2, p.1, rfl, sG _ _ hp1, fun z hz => sG _ _ (t1.hold z (List.mem_cons_of_mem _ hz)), pr.ex (.same sG), hg, hvl, hn, fun m r G1 nds sG1 nr hr1 => ?_⟩
      have tr1 : TrN H1 G1 ((r, iL m) :: (p2, ys) :: (D0, as.map V.ref) :: M) := (tr.go sG1).known (none_of sG nr) hr1 fun x hx z => by
        have := tr.hold x hx
        rw [z, nr] at this
        cases this
      refine ⟨r, rfl, ⟨_, SqL.of hr1⟩, ?_⟩
      have lim : (iL m).length = m.length := List.length_map ..
      refine for_list (xs := iL m) (fun k σ G2 => ∃ (g3 : Option V) (M2 : LsN), σ = [some (.ref b0), some (.ref p1), some (.ref D0), g3, some (.ref D1), some (.int (p.1 : Nat)), some (.int (p.2 : Nat)), none, none, none] ∧ Ex G1 G2 ∧ TrN H1 G2 ((r, iL m) :: (p2, ys) :: (D0, as.map V.ref) :: M2) ∧ M2.map (·.1) = as ∧ ∀ i z, M2[i]? = some z → z.2 = iL (nrow ns (ws.take t) i ++ if i ∈ m.take k then [p.1] else [])) ?_ ?_ ?_ ?_
      · refine ⟨g3, M, rfl, Ex.refl _, tr1, eM, fun i z hz => ?_⟩
        rw [List.take_zero, if_neg (by simp), List.append_nil]
        exact hM i z hz
      · rintro k σ G2 _ ⟨g3, M2, rfl, x2, tr2, _⟩
        exact SqL.of (tr2.at (i := 0) (a := r) (l := iL m) rfl)
      · rintro k y σ G2 hyk ⟨g3, M2, rfl, x2, tr2, eM2, hM2⟩
        unfold iL at hyk
        rw [List.getElem?_map] at hyk
        obtain ⟨i, hik, rfl⟩ := Option.map_eq_some_iff.mp hyk
        have hi := nds.lt i (List.mem_of_getElem? hik)
        have lM2 : M2.length = ns.length := by
          have := congrArg List.length eM2
          rw [List.length_map, la, lu] at this
          exact this
        have hMi : M2[i]? = some (M2[i]'(by omega)) := List.getElem?_eq_getElem _
        generalize M2[i]'(by omega) = z at hMi
        have hz2 := tr2.at (i := i + 3) (a := z.1) (l := z.2) hMi
        have ez := hM2 i z hMi
        have nik : i ∉ m.take k := fun hm => by
          obtain ⟨j, hj, e⟩ := List.getElem_of_mem hm
          rw [List.length_take] at hj
          rw [List.getElem_take] at e
          obtain ⟨h1, h2⟩ := List.getElem?_eq_some_iff.mp hik
          have := (List.getElem_inj nds.nd).mp (e.trans h2.symm)
          omega
        rw [if_neg nik, List.append_nil] at ez
        have lz : z.2.length ≤ ns.length := by
          rw [ez]
          unfold iL
          rw [List.length_map]
          exact lnr t i
        refine ⟨_, rfl, _, rfl, D0, _, ((i : Nat) : Int), V.ref z.1, rfl, rfl, SqL.of (tr2.at (i := 2) (a := D0) (l := as.map V.ref) rfl), atI_nat (j := i) (by rw [List.getElem?_map, ← eM2, List.getElem?_map, hMi]; rfl), .inl ⟨rfl, _, SqL.of hz2⟩, _, rfl, z.1, _, _, rfl, rfl, hz2, by omega, ?_⟩
        have tr3 := tr2.set (i := i + 3) (a := z.1) (l := z.2) (l' := z.2 ++ [V.int (p.1 : Nat)]) hMi
        have x3 : Ex G2 (upd G2 z.1 (.lst (z.2 ++ [V.int (p.1 : Nat)]))) := (Off.put (a := z.1)).ex hz2 upd_same
        refine ⟨_, M2.set i (z.1, z.2 ++ [V.int (p.1 : Nat)]), rfl, x2.trans x3, tr3, by rw [lsn_fst hMi]; exact eM2, fun j z' hz' => ?_⟩
        rw [List.take_add_one, hik]
        by_cases eji : i = j
        · subst eji
          rw [List.getElem?_set_self (by omega)] at hz'
          cases hz'
          rw [if_pos (by simp), ez]
          unfold iL
          rw [List.map_append]
          rfl
        · rw [List.getElem?_set_ne eji] at hz'
          rw [hM2 j z' hz']
          have : (j ∈ m.take k ++ (some i).toList) ↔ j ∈ m.take k := by
            simp only [List.mem_append, Option.toList_some, List.mem_singleton]
            exact ⟨fun h => h.resolve_right fun z => eji z.symm, .inl⟩
          simp only [this]
      · rintro σ G2 ⟨g3, M2, rfl, x2, tr2, eM2, hM2⟩
        refine ⟨_, _, _, M2, rfl, (xG.trans (.same sG1)).trans x2, tr2.tail, eM2, fun i z hz => ?_⟩
        rw [hM2 i z hz, lim, List.take_length, List.take_add_one, hwt]
        have sn := nrow_snoc (ns := ns) (l := ws.take t) (p := p) (i := i)
        by_cases hm : i ∈ m
        · rw [if_pos hm]
          exact congrArg iL (sn.1 ((nds.all i).mp hm)).symm
        · rw [if_neg hm, List.append_nil]
          exact congrArg iL (sn.2 fun z => hm ((nds.all i).mpr z)).symm
    · rintro σ G ⟨g3, g5, g6, M, rfl, xG, tr, eM, hM⟩
      rw [show ws.take ys.length = ws by rw [← lws]; exact List.take_length] at hM
      have sG := tr.same
      have lM : M.length = ns.length := by
        have := congrArg List.length eM
        rw [List.length_map, la, lu] at this
        exact this
      have hD0 := tr.at (i := 1) (a := D0) (l := as.map V.ref) rfl
      refine ⟨_, rfl, D0, rfl, ⟨_, SqL.of hD0⟩, fun D2 nD2 => ?_⟩
      refine lcJL (Pd := fun i d => d = .tup (iD (nrow ns ws i))) jr_same (Same.refl _) (by rw [List.length_map]; omega) (fun G2 s2 => Same.seq s2 (SqL.of hD0)) nD2 ?_ ?_
      · intro i x G2 Q2 Z2 hx s2 hQ
        rw [← eM, List.map_map, List.getElem?_map] at hx
        obtain ⟨z, hz, rfl⟩ := Option.map_eq_some_iff.mp hx
        have hz2 := s2 _ _ (tr.hold z (List.mem_cons_of_mem _ (List.mem_cons_of_mem _ (List.mem_of_getElem? hz))))
        have ez := hM i z hz
        refine ⟨rfl, ?_⟩
        refine iteT (B := Z2 G2) ⟨_, rfl, z.1, z.2, rfl, .inl ⟨SqL.of hz2, fun l nl => ?_⟩⟩
        refine hQ _ _ (.tup (iD (nrow ns ws i))) (Same.new nl) (tup_val upd_same ?_ ?_) rfl
        · rw [ez]
          exact ints_iD _
        · have h1 := lnr ws.length i
          rw [List.take_length] at h1
          unfold iD
          rw [List.length_map]
          omega
      · intro G2 zs es s2 hD2 rz le pe
        have ee : es = ((List.range ns.length).map (nrow ns ws)).map fun r => .tup (iD r) := by
          apply List.ext_getElem?
          intro i
          rw [List.getElem?_map, List.getElem?_map]
          rw [List.length_map, la, lu] at le
          by_cases hi : i < es.length
          · rw [List.getElem?_eq_getElem hi, pe i _ (List.getElem?_eq_getElem hi), List.getElem?_range (by omega)]
            rfl
          · rw [List.getElem?_eq_none (by omega), List.getElem?_eq_none (by rw [List.length_range]; omega)]
            rfl
        rw [ee] at rz
        refine q D2 G2 _ ((s1.trans sG).trans s2) (none_of (s1.trans sG) nD2) ⟨zs, hD2, rz⟩ ⟨by rw [List.length_map, List.length_range], fun i r hr => ?_⟩
        rw [List.getElem?_map] at hr
        obtain ⟨j, hj, rfl⟩ := Option.map_eq_some_iff.mp hr
        have hjl := (List.getElem?_eq_some_iff.mp hj).1
        rw [List.length_range] at hjl
        have eij : j = i := by
          obtain ⟨h1, h2⟩ := List.getElem?_eq_some_iff.mp hj
          rw [List.getElem_range] at h2
          omega
        rw [← eij]
        exact sw.row j
end
end Sl

set_option Elab.async false
set_option linter.all false
set_option maxRecDepth 100000
set_option maxHeartbeats 400000
/-! ## Walk-ordered graphs: who needs whom -/
namespace Sl
open PySem PySem.Spec PyProof.Rows L2
/-- each but the root has a parent that stands ahead of it -/
def Ahead (k : Nat → List Nat) (r : Nat) (l : List Nat) : Prop := ∀ (j a : Nat), l[j]? = some a → a = r ∨ ∃ i p : Nat, i < j ∧ l[i]? = some p ∧ a ∈ k p
theorem FW.ahead {k : Nat → List Nat} {r : Nat} {m st o : List Nat} (h : FW k m st o) (hm : Ahead k r m) (hs : ∀ s ∈ st, s = r ∨ ∃ p ∈ m, s ∈ k p) : Ahead k r o := by
  induction h with
  | nil => exact hm
  | old _ _ ih => exact ih hm fun s h => hs s (List.mem_cons_of_mem _ h)
  | @new m st o s hn _ ih =>
    refine ih (fun j a hj => ?_) (fun c hc => ?_)
    · by_cases hl : j < m.length
      · rw [List.getElem?_append_left hl] at hj
        rcases hm j a hj with e | ⟨i, p, h1, h2, h3⟩
        · exact .inl e
        · exact .inr ⟨i, p, h1, by rw [List.getElem?_append_left (by omega)]; exact h2, h3⟩
      · have e : j = m.length := by
          have := (List.getElem?_eq_some_iff.mp hj).1
          rw [List.length_append, List.length_singleton] at this
          omega
        subst e
        rw [List.getElem?_append_right (Nat.le_refl _), Nat.sub_self] at hj
        cases hj
        rcases hs s List.mem_cons_self with e | ⟨p, hp, hk⟩
        · exact .inl e
        · obtain ⟨i, hi, e⟩ := List.getElem_of_mem hp
          exact .inr ⟨i, p, hi, by rw [List.getElem?_append_left hi, List.getElem?_eq_getElem hi, e], hk⟩
    · rcases List.mem_append.mp hc with hc | hc
      · exact .inr ⟨s, List.mem_append_right _ (List.mem_singleton.mpr rfl), hc⟩
      · rcases hs c (List.mem_cons_of_mem _ hc) with e | ⟨p, hp, hk⟩
        · exact .inl e
        · exact .inr ⟨p, List.mem_append_left _ hp, hk⟩
theorem FW.lt {k : Nat → List Nat} {n : Nat} {m st o : List Nat} (h : FW k m st o) (hk : ∀ i, ∀ c ∈ k i, c < n) (hm : ∀ i ∈ m, i < n) (hs : ∀ i ∈ st, i < n) : ∀ i ∈ o, i < n := by
  induction h with
  | nil => exact hm
  | old _ _ ih => exact ih hm fun i h => hs i (List.mem_cons_of_mem _ h)
  | @new m st o s _ _ ih =>
    refine ih (fun i hi => ?_) (fun i hi => ?_)
    · rcases List.mem_append.mp hi with hi | hi
      · exact hm i hi
      · rw [List.mem_singleton.mp hi]
        exact hs s List.mem_cons_self
    · rcases List.mem_append.mp hi with hi | hi
      · exact hk s i hi
      · exact hs i (List.mem_cons_of_mem _ hi)
theorem kd_rng {ns : List GN} (hg : ∀ g ∈ ns, Rng ns.length g) (i : Nat) : ∀ c ∈ kd ns i, c < ns.length := fun c hc => by
  unfold kd at hc
  split at hc
  · rename_i g e
    exact (gk_rng (hg g (List.mem_of_getElem? e))).2 c hc
  · cases hc
theorem fw_ahead {k : Nat → List Nat} {r : Nat} {o : List Nat} (h : FW k [] [r] o) : Ahead k r o :=
  h.ahead (fun j a hj => by simp at hj) fun s hs => .inl (List.mem_singleton.mp hs)
theorem fw_head {k : Nat → List Nat} {r : Nat} {o : List Nat} (h : FW k [] [r] o) : o[0]? = some r := by
  have gen : ∀ {m st o : List Nat}, FW k m st o → ∀ a, m[0]? = some a → o[0]? = some a := fun {m st o} h => by
    induction h with
    | nil => exact fun a h => h
    | old _ _ ih => exact ih
    | @new m st o s _ _ ih =>
      intro a ha
      refine ih a ?_
      rw [List.getElem?_append_left (List.getElem?_eq_some_iff.mp ha).1]
      exact ha
  cases h with
  | old h _ => cases h
  | new _ h => exact gen h r rfl
/-- the root needs nothing -/
def Free (ns : List GN) : Prop := ∀ f v, ns[v]? = some (.V f) → ¬ Nd ns f v 0
theorem free_row {ns : List GN} {r : List Nat} (h : Row ns 0 r) : r = [] ↔ Free ns := by
  constructor
  · intro e f v hv hn
    have := (h.mem f).mpr ⟨v, hv, hn⟩
    rw [e] at this
    cases this
  · intro hf
    cases r with
    | nil => rfl
    | cons x r =>
      obtain ⟨v, hv, hn⟩ := (h.mem x).mp List.mem_cons_self
      exact absurd hn (hf x v hv)
/-- a walk from a root that needs nothing meets the functions of the variables that it meets -/
theorem owner_met {ns : List GN} {o : List Nat} (fr : Free ns) (h : FW (kd ns) [] [0] o) {v f : Nat} (hv : v ∈ o) (e : ns[v]? = some (.V f)) : f ∈ o := by
  by_cases hf : f ∈ o
  · exact hf
  refine absurd ?_ (fr f v e)
  have ah := fw_ahead h
  have up : ∀ (n j a : Nat), j ≤ n → o[j]? = some a → Nd ns f v a → Nd ns f v 0 := fun n => by
    induction n with
    | zero =>
      intro j a hj ha hn
      have e0 := fw_head h
      rw [show j = 0 by omega, e0] at ha
      rw [Option.some.inj ha]
      exact hn
    | succ n ih =>
      intro j a hj ha hn
      rcases ah j a ha with e0 | ⟨i, p, h1, h2, h3⟩
      · rw [← e0]
        exact hn
      · exact ih i p (by omega) h2 (.up hn h3 fun z => hf (z ▸ List.mem_of_getElem? h2))
  obtain ⟨j, hj, e2⟩ := List.getElem_of_mem hv
  exact up j j v (Nat.le_refl _) (by rw [List.getElem?_eq_getElem hj, e2]) .var
theorem walk_closed {ns : List GN} {o : List Nat} (fr : Free ns) (h : FW (kd ns) [] [0] o) (lt : ∀ i ∈ o, i < ns.length) : ∀ i ∈ o, ∀ j ∈ nums (nAt ns i), j ∈ o := fun i hi j hj => by
  have hat := nAt_get (lt i hi)
  have cl := h.closed (fun a ha => by cases ha) i hi
  rw [kd_at hat] at cl
  cases hg : nAt ns i with
  | W x cs =>
    rw [hg] at cl hj
    exact cl j hj
  | F c =>
    rw [hg] at cl hj
    exact cl j hj
  | V f =>
    rw [hg] at hj hat
    rw [List.mem_singleton.mp hj]
    exact owner_met fr h hi hat
/-! ### renumbered -/
theorem gk_rl (ν : Nat → Nat) (g : GN) : gk (rl ν g) = (gk g).map ν := by
  cases g <;> rfl
theorem ren_at {ns : List GN} {o : List Nat} {i a : Nat} (h : o[i]? = some a) : (ren ns o)[i]? = some (rl (fun j => o.idxOf j) (nAt ns a)) := by
  unfold ren
  rw [List.getElem?_map, h]
  rfl
theorem ren_len (ns : List GN) (o : List Nat) : (ren ns o).length = o.length := List.length_map ..
theorem idx_back {o : List Nat} {j : Nat} (h : j ∈ o) : o[o.idxOf j]? = some j := by
  have := List.idxOf_lt_length_of_mem h
  rw [List.getElem?_eq_getElem this, List.getElem_idxOf this]
section
variable {ns : List GN} {o : List Nat} (nd : o.Nodup) (lt : ∀ i ∈ o, i < ns.length) (cl : ∀ i ∈ o, ∀ j ∈ nums (nAt ns i), j ∈ o)
theorem gk_nums {g : GN} {j : Nat} (h : j ∈ gk g) : j ∈ nums g := by
  cases g with
  | W x cs => exact h
  | F c => exact h
  | V f => cases h
include lt cl in
theorem ren_rng (hg : ∀ g ∈ ns, Rng ns.length g) : ∀ g ∈ ren ns o, Rng (ren ns o).length g := fun g hgm => by
  unfold ren at hgm
  obtain ⟨i, hi, rfl⟩ := List.mem_map.mp hgm
  have hr := hg _ (List.mem_of_getElem? (nAt_get (lt i hi)))
  have hc := cl i hi
  rw [ren_len]
  cases hn : nAt ns i with
  | W x cs =>
    rw [hn] at hr hc
    refine ⟨hr.1, by rw [List.length_map]; exact hr.2.1, fun c hcm => ?_⟩
    obtain ⟨j, hj, rfl⟩ := List.mem_map.mp hcm
    exact List.idxOf_lt_length_of_mem (hc j hj)
  | F c =>
    rw [hn] at hc
    exact List.idxOf_lt_length_of_mem (hc c (List.mem_singleton.mpr rfl))
  | V f =>
    rw [hn] at hc
    exact List.idxOf_lt_length_of_mem (hc f (List.mem_singleton.mpr rfl))
include cl in
/-- what a renumbered node's child was -/
theorem ren_kid {i c a : Nat} (ha : o[i]? = some a) (h : c ∈ kd (ren ns o) i) : ∃ b, o[c]? = some b ∧ b ∈ gk (nAt ns a) := by
  rw [kd_at (ren_at ha), gk_rl] at h
  obtain ⟨b, hb, rfl⟩ := List.mem_map.mp h
  exact ⟨b, idx_back (cl a (List.mem_of_getElem? ha) b (gk_nums hb)), hb⟩
include cl in
theorem ren_var {v f a : Nat} (ha : o[v]? = some a) (h : (ren ns o)[v]? = some (.V f)) : ∃ b, o[f]? = some b ∧ nAt ns a = .V b := by
  rw [ren_at ha] at h
  have e := Option.some.inj h
  cases hn : nAt ns a with
  | W x cs => rw [hn] at e; cases e
  | F c => rw [hn] at e; cases e
  | V b =>
    rw [hn] at e
    have e' : GN.V (o.idxOf b) = .V f := e
    cases e'
    refine ⟨b, idx_back (cl a (List.mem_of_getElem? ha) b ?_), rfl⟩
    rw [hn]
    exact List.mem_singleton.mpr rfl
include nd lt cl in
theorem ren_nd {f v i : Nat} (h : Nd (ren ns o) f v i) : ∀ a b c, o[f]? = some a → o[v]? = some b → o[i]? = some c → Nd ns a b c := by
  induction h with
  | var =>
    intro a b c ha hb hc
    rw [hb] at hc
    cases hc
    exact .var
  | @up i c _ hk hne ih =>
    intro a b e ha hb he
    obtain ⟨c2, h1, h2⟩ := ren_kid cl he hk
    refine .up (ih a b c2 ha hb h1) ?_ fun z => hne ?_
    · rw [kd_at (nAt_get (lt e (List.mem_of_getElem? he)))]
      exact h2
    · subst z
      obtain ⟨x1, x2⟩ := List.getElem?_eq_some_iff.mp he
      obtain ⟨y1, y2⟩ := List.getElem?_eq_some_iff.mp ha
      exact (List.getElem_inj nd).mp (x2.trans y2.symm)
end
/-- each but the root has a parent with a smaller number; the root needs nothing -/
structure Wo (ns : List GN) : Prop where
  par : ∀ i, 0 < i → i < ns.length → ∃ p, p < i ∧ i ∈ kd ns p
  free : Free ns
theorem ren_wo {ns : List GN} {o : List Nat} (fr : Free ns) (h : FW (kd ns) [] [0] o) (nd : o.Nodup) (lt : ∀ i ∈ o, i < ns.length) : Wo (ren ns o) := by
  have cl := walk_closed fr h lt
  refine ⟨fun i h0 hi => ?_, fun f v hv hn => ?_⟩
  · rw [ren_len] at hi
    have hat := List.getElem?_eq_getElem hi
    rcases fw_ahead h i _ hat with e | ⟨j, p, h1, h2, h3⟩
    · have e0 := fw_head h
      obtain ⟨x1, x2⟩ := List.getElem?_eq_some_iff.mp e0
      have := (List.getElem_inj nd).mp (x2.trans e.symm)
      omega
    · refine ⟨j, h1, ?_⟩
      rw [kd_at (ren_at h2), gk_rl]
      rw [kd_at (nAt_get (lt p (List.mem_of_getElem? h2)))] at h3
      refine List.mem_map.mpr ⟨_, h3, idxOf_at nd hi⟩
  · have hvl := (List.getElem?_eq_some_iff.mp hv).1
    rw [ren_len] at hvl
    have ha := List.getElem?_eq_getElem hvl
    obtain ⟨b, hb, e⟩ := ren_var cl ha hv
    have hat := nAt_get (lt _ (List.mem_of_getElem? ha))
    rw [e] at hat
    exact fr b _ hat (ren_nd nd lt cl hn b _ 0 hb ha (fw_head h))
theorem Wo.lt {ns : List GN} (W : Wo ns) {f v : Nat} (hv : ns[v]? = some (.V f)) : ∀ {i : Nat}, i < ns.length → Nd ns f v i → f < i := fun {i} => by
  induction i using Nat.strongRecOn with
  | ind i ih =>
    intro hi hn
    by_cases h0 : i = 0
    · subst h0
      exact absurd hn (W.free f v hv)
    · obtain ⟨p, h1, h2⟩ := W.par i (by omega) hi
      by_cases e : p = f
      · omega
      · have := ih p h1 (by omega) (.up hn h2 e)
        omega
/-- of two functions that a node needs the later one needs the earlier one -/
theorem Wo.inner {ns : List GN} (W : Wo ns) {f v g u : Nat} (hv : ns[v]? = some (.V f)) (hu : ns[u]? = some (.V g)) (hgf : g < f) : ∀ {i : Nat}, i < ns.length → Nd ns f v i → Nd ns g u i → Nd ns g u f := fun {i} => by
  induction i using Nat.strongRecOn with
  | ind i ih =>
    intro hi hf hg
    have hfi := W.lt hv hi hf
    obtain ⟨p, h1, h2⟩ := W.par i (by omega) hi
    by_cases e : p = f
    · subst e
      exact .up hg h2 (by omega)
    · by_cases e2 : p = g
      · subst e2
        have := W.lt hv (by omega) (.up hf h2 e)
        omega
      · exact ih p h1 (by omega) (.up hf h2 e) (.up hg h2 e2)
/-- the chain of functions around a node -/
theorem rows_back {ns : List GN} (W : Wo ns) {R : List (List Nat)} (ok : RowsOk ns R) (hz : ns.length ≤ 4000) : ∀ (i : Nat) (r : List Nat), R[i]? = some r → r.length ≤ 4000 ∧ ∀ x, r.getLast? = some x → x < i := fun i r hr => by
  have row := ok.row i r hr
  have hi : i < ns.length := by rw [← ok.len]; exact (List.getElem?_eq_some_iff.mp hr).1
  have lt : ∀ x ∈ r, x < i := fun x hx => by
    obtain ⟨v, hv, hn⟩ := (row.mem x).mp hx
    exact W.lt hv hi hn
  refine ⟨?_, fun x hx => lt x (List.mem_of_getLast? hx)⟩
  have := nd_len' (row.asc.imp fun h => Nat.ne_of_lt h) lt
  omega
/-- whose owners are functions; one variable each -/
theorem ren_own {ns : List GN} {o : List Nat} (nd : o.Nodup) (lt : ∀ i ∈ o, i < ns.length) (cl : ∀ i ∈ o, ∀ j ∈ nums (nAt ns i), j ∈ o) (ho : (own ns).Nodup) : (own (ren ns o)).Nodup := by
  unfold own ren
  rw [List.filterMap_map]
  refine List.Pairwise.filterMap _ (fun a b hab p hp q hq => ?_) (List.Pairwise.imp_of_mem (fun {a b} ha hb h => (⟨ha, hb, h⟩ : a ∈ o ∧ b ∈ o ∧ a ≠ b)) nd)
  obtain ⟨ha, hb, hne⟩ := hab
  intro e
  subst e
  have get : ∀ x, x ∈ o → ((GN.own ∘ fun i => rl (fun j => o.idxOf j) (nAt ns i)) x = some p) → ∃ f, nAt ns x = .V f ∧ o.idxOf f = p ∧ f ∈ o := fun x hx h => by
    cases hn : nAt ns x with
    | W y cs =>
      have h' : (rl (fun j => o.idxOf j) (nAt ns x)).own = some p := h
      rw [hn] at h'
      cases h'
    | F c =>
      have h' : (rl (fun j => o.idxOf j) (nAt ns x)).own = some p := h
      rw [hn] at h'
      cases h'
    | V f =>
      have h' : (rl (fun j => o.idxOf j) (nAt ns x)).own = some p := h
      rw [hn] at h'
      refine ⟨f, rfl, Option.some.inj h', cl x hx f ?_⟩
      rw [hn]
      exact List.mem_singleton.mpr rfl
  obtain ⟨f, e1, e2, e3⟩ := get a ha hp
  obtain ⟨g, e4, e5, e6⟩ := get b hb hq
  have ef : f = g := by
    have h1 := idx_back e3
    have h2 := idx_back e6
    rw [e2] at h1
    rw [e5] at h2
    rw [h1] at h2
    exact Option.some.inj h2
  subst ef
  have h1 := nAt_get (lt a ha)
  have h2 := nAt_get (lt b hb)
  rw [e1] at h1
  rw [e4] at h2
  exact hne (own_inj ho h1 h2)
end Sl

set_option Elab.async false
set_option linter.all false
set_option maxRecDepth 100000
set_option maxHeartbeats 400000
/-! ## scopes_of -/
namespace Sl
open PySem PySem.Spec PyProof.Rows L2
abbrev sScopes : Stmt := topT 25
theorem scScopes : FnScope ["needs", "scopes", "row"] ["needs"] (defScope sScopes) := ⟨rfl, rfl, rfl, by decide +kernel, rfl, by decide +kernel, by decide +kernel⟩
/-- the last of each row lies before the row -/
def Back (R : List (List Nat)) : Prop := ∀ (i : Nat) (r : List Nat), R[i]? = some r → r.length ≤ 4000 ∧ ∀ x, r.getLast? = some x → x < i
structure Sc (R S : List (List Nat)) : Prop where
  len : S.length = R.length
  nil : ∀ i : Nat, R[i]? = some [] → S[i]? = some []
  one : ∀ (i : Nat) (r : List Nat) (x : Nat), R[i]? = some r → r.getLast? = some x → ∃ s, S[x]? = some s ∧ S[i]? = some (s ++ [x])
section
variable {P : Program} {w : World} {K : PySem.W.Frag} {mg : Str → Option Value} {base : Heap}
def spScopes (K : PySem.W.Frag) : Sp := fun vs H Q _ => ∃ (p : Addr) (R : List (List Nat)), vs = [.ref p] ∧ RowsAt K H p R ∧ Back R ∧ R.length ≤ 4000 ∧ ∀ q H' S, Same H H' → H q = none → RowsAt K H' q S → Sc R S → Q (.ref q) H'
theorem ok_scopes {f : Addr} {fd : FuncData} (F : Fun K "scopes_of" "scopes_of" sScopes f fd) (B : Bt mg) : FnOk P w K mg base CX0 1 f fd ["needs"] (spScopes K) := by
  refine F.ok scScopes (fun vs H Q E h => ?_) (fun cdv A outer s H vs Q E hr h => ?_)
  · obtain ⟨p, R, rfl, _⟩ := h
    rfl
  · obtain ⟨p, R, rfl, ⟨ys, hp, hys⟩, bk, hn, q⟩ := h
    have sl := sizeLine_eq
    --D
    refine ⟨_, (pss_cons (ps_set (i := 1) scScopes.nd rfl (Or.inl rfl) (pe_lst pa_nil))
        (pss_cons (ps_for PassesOwn.never rfl (pi_list (pv 0)) (pg_name (i := 2) scScopes.nd rfl (Or.inl rfl))
          (pss_one (ps_expr (pe_bm PySem.F.plainAttrs_list PySem.F.slot_list_append PySem.F.type_list_append mt_append (pv 1) (pa_cons (pe_ifExp (pt_cmpR op_gt (pe_callB call_len_seq (by rfl) B.len PySem.boot_len (pa_cons (pv 2) pa_nil)) pe_int (nomark _)) (pe_op op_catA (pe_ix ix_list (pv 1) (pe_ix ix_tup (pv 2) (pe_un un_neg pe_int) (fun _ _ => rfl)) (fun _ _ => rfl)) (pe_tup (pa_cons (pe_ix ix_tup (pv 2) (pe_un un_neg pe_int) (fun _ _ => rfl)) pa_nil))) (pe_tup pa_nil)) pa_nil)))))
        (pss_one (ps_ret (pv 1))))), ?_⟩
    --E
    refine ⟨(by show 0 ≤ sizeLine; omega), fun l nl => ?_⟩
    have s1 := Same.new (o := .lst []) nl
    have hl1 : (upd H l (.lst [])) l = some (.lst []) := upd_same
    generalize upd H l (.lst []) = H1 at s1 hl1 ⊢
    have ly : ys.length = R.length := by rw [hys.length, List.length_map]
    refine ⟨_, rfl, p, rfl, ⟨_, SqL.of (s1 _ _ hp)⟩, ?_⟩
    refine for_list (xs := ys) (fun i σ G => ∃ (g2 : Option V) (zs : List V) (S : List (List Nat)), σ = [some (.ref p), some (.ref l), g2] ∧ Same H G ∧ G l = some (.lst zs) ∧ RddAll K G zs (S.map fun r => .tup (iD r)) ∧ S.length = i ∧ (∀ (j : Nat) (s : List Nat), S[j]? = some s → s.length ≤ j) ∧
      (∀ j : Nat, j < i → R[j]? = some [] → S[j]? = some []) ∧ ∀ (j : Nat) (r : List Nat) (x : Nat), j < i → R[j]? = some r → r.getLast? = some x → ∃ s, S[x]? = some s ∧ S[j]? = some (s ++ [x])) ?_ ?_ ?_ ?_
    · exact ⟨none, [], [], rfl, s1, hl1, .nil, rfl, (fun j s h => by simp at h), (fun j h => by omega), (fun j r x h => by omega)⟩
    · rintro i σ G _ ⟨g2, zs, S, rfl, sG, _⟩
      exact SqL.of (sG _ _ hp)
    · rintro i y σ G hy ⟨g2, zs, S, rfl, sG, hl, rS, lS, cS, nS, oS⟩
      obtain ⟨d, hd, ry⟩ := hys.get hy
      rw [List.getElem?_map] at hd
      obtain ⟨r, hr', rfl⟩ := Option.map_eq_some_iff.mp hd
      have hi := (List.getElem?_eq_some_iff.mp hr').1
      obtain ⟨b1, b2⟩ := bk i r hr'
      obtain ⟨a0, xs, rfl, hs, hx, _⟩ := (Rdd.ex (Ex.same sG) _ ry).tupd'
      have ex := iD_ints hx
      have lx : xs.length = r.length := by rw [ex, List.length_map]
      have lzs : zs.length = i := by rw [rS.length, List.length_map, lS]
      have push : ∀ (v : V) (s : List Nat) (G2 : Hp), Same G G2 → Rdd K G2 v (.tup (iD s)) → s.length ≤ i → (r = [] → s = []) → (∀ x, r.getLast? = some x → ∃ s', S[x]? = some s' ∧ s = s' ++ [x]) →
          ∃ (g2 : Option V) (zs2 : List V) (S2 : List (List Nat)), [some (.ref p), some (.ref l), some (.ref a0)] = [some (.ref p), some (.ref l), g2] ∧ Same H (upd G2 l (.lst (zs ++ [v]))) ∧ (upd G2 l (.lst (zs ++ [v]))) l = some (.lst zs2) ∧ RddAll K (upd G2 l (.lst (zs ++ [v]))) zs2 (S2.map fun r => .tup (iD r)) ∧ S2.length = i + 1 ∧ (∀ (j : Nat) (s : List Nat), S2[j]? = some s → s.length ≤ j) ∧
            (∀ j : Nat, j < i + 1 → R[j]? = some [] → S2[j]? = some []) ∧ ∀ (j : Nat) (r : List Nat) (x : Nat), j < i + 1 → R[j]? = some r → r.getLast? = some x → ∃ s, S2[x]? = some s ∧ S2[j]? = some (s ++ [x]) := fun v s G2 s2 rv ls h0 h1 => by
        have x2 : Ex G2 (upd G2 l (.lst (zs ++ [v]))) := (Off.put (a := l)).ex (s2 _ _ hl) upd_same
        have old : ∀ j, j < i → (S ++ [s])[j]? = S[j]? := fun j hj => List.getElem?_append_left (by omega)
        have new : (S ++ [s])[i]? = some s := by
          rw [List.getElem?_append_right (by omega), lS, Nat.sub_self]
          rfl
        refine ⟨_, _, S ++ [s], rfl, jr_same.put (sG.trans s2) nl, upd_same, ?_, by rw [List.length_append, lS]; rfl, fun j t hj => ?_, fun j hj hR => ?_, fun j r2 x hj hR hx2 => ?_⟩
        · rw [List.map_append]
          exact (RddAll.ex x2 _ (RddAll.ex (Ex.same s2) _ rS)).snoc (Rdd.ex x2 _ rv)
        · by_cases e : j < i
          · rw [old j e] at hj
            exact cS j t hj
          · have := (List.getElem?_eq_some_iff.mp hj).1
            rw [List.length_append, List.length_singleton] at this
            have e2 : j = i := by omega
            subst e2
            rw [new] at hj
            cases hj
            exact ls
        · by_cases e : j < i
          · rw [old j e]
            exact nS j e hR
          · have e2 : j = i := by omega
            subst e2
            rw [hr'] at hR
            rw [new, h0 (Option.some.inj hR)]
        · by_cases e : j < i
          · obtain ⟨s', h2, h3⟩ := oS j r2 x e hR hx2
            have hxl := (List.getElem?_eq_some_iff.mp h2).1
            exact ⟨s', by rw [old x (by omega)]; exact h2, by rw [old j e]; exact h3⟩
          · have e2 : j = i := by omega
            subst e2
            rw [hr'] at hR
            cases hR
            obtain ⟨s', h2, h3⟩ := h1 x hx2
            have hxl := (List.getElem?_eq_some_iff.mp h2).1
            exact ⟨s', by rw [old x (by omega)]; exact h2, by rw [new, h3]⟩
      refine ⟨_, rfl, .inl ⟨rfl, _, SqL.of hl⟩, _, rfl, a0, xs, rfl, .inr hs, _, _, rfl, rfl, _, rfl, ?_⟩
      rcases List.eq_nil_or_concat r with rfl | ⟨r1, x, rfl⟩
      · rw [decide_eq_false (by rw [lx]; decide)]
        refine iteF ⟨(by show 0 ≤ sizeLine; omega), fun t nt => ?_⟩
        have s2 := Same.new (o := .tup []) nt
        refine ⟨l, _, _, rfl, rfl, s2 _ _ hl, by omega, ?_⟩
        exact push _ [] _ s2 (tup_val upd_same .nil (by simp [iD])) (Nat.zero_le _) (fun _ => rfl) (fun x h => by cases h)
      · rw [List.concat_eq_append] at ex lx b1 b2 push
        have hlast : (r1 ++ [x]).getLast? = some x := List.getLast?_concat
        have hxi := b2 x hlast
        have exs : xs = iL r1 ++ [V.int (x : Nat)] := by
          rw [ex, List.map_append]
          rfl
        rw [List.length_append, List.length_singleton] at lx
        rw [decide_eq_true (by omega)]
        obtain ⟨zx, hzx, rzx⟩ := rS.at (i := x) (d := .tup (iD (S[x]'(by omega)))) (by rw [List.getElem?_map, List.getElem?_eq_getElem (by omega)]; rfl)
        have hSx : S[x]? = some (S[x]'(by omega)) := List.getElem?_eq_getElem _
        generalize S[x]'(by omega) = sx at hSx rzx
        have lsx := cS x sx hSx
        obtain ⟨c0, cs, rfl, hc, hcs, _⟩ := rzx.tupd'
        have ecs := iD_ints hcs
        have lcs : cs.length = sx.length := by rw [ecs, List.length_map]
        have hat : atI xs (-1) = some (V.int (x : Nat)) := by
          rw [exs]
          exact atI_last _ _
        refine iteT ⟨_, rfl, _, rfl, _, rfl, a0, _, (-1 : Int), _, rfl, rfl, hs, hat, l, zs, ((x : Nat) : Int), .ref c0, rfl, rfl, SqL.of hl, atI_nat hzx, _, rfl, _, rfl, a0, _, (-1 : Int), _, rfl, rfl, hs, hat, (by show 1 ≤ sizeLine; omega), fun t nt => ?_⟩
        have s2 := Same.new (o := .tup [V.int (x : Nat)]) nt
        have ht2 : (upd G t (.tup [V.int (x : Nat)])) t = some (.tup [V.int (x : Nat)]) := upd_same
        generalize upd G t (.tup [V.int (x : Nat)]) = G2 at s2 ht2 ⊢
        have nil : r1 ++ [x] = [] → sx ++ [x] = [] := fun z => by simp at z
        have one : ∀ x', (r1 ++ [x]).getLast? = some x' → ∃ s', S[x']? = some s' ∧ sx ++ [x] = s' ++ [x'] := fun x' h => by
          rw [hlast] at h
          cases h
          exact ⟨sx, hSx, rfl⟩
        have lnew : (sx ++ [x]).length ≤ i := by rw [List.length_append, List.length_singleton]; omega
        refine ⟨c0, t, cs, [V.int (x : Nat)], rfl, rfl, (Ex.same s2).tup hc, SqT.of ht2, by rw [List.length_singleton]; omega, fun e0 => ?_, fun _ e => (by cases e), fun _ _ t3 nt3 => ?_⟩
        · have esx : sx = [] := List.length_eq_zero_iff.mp (by rw [← lcs, e0]; rfl)
          subst esx
          refine ⟨l, _, _, rfl, rfl, s2 _ _ hl, by omega, ?_⟩
          exact push _ [x] _ s2 (tup_val ht2 (.cons (.int _) .nil) (by simp [iD])) lnew nil one
        · have s3 := Same.new (o := .tup (cs ++ [V.int (x : Nat)])) nt3
          refine ⟨l, _, _, rfl, rfl, s3 _ _ (s2 _ _ hl), by omega, ?_⟩
          refine push _ (sx ++ [x]) _ (s2.trans s3) (tup_val upd_same ?_ ?_) lnew nil one
          · rw [show cs ++ [V.int (x : Nat)] = (sx ++ [x]).map fun i => V.int (i : Nat) by rw [List.map_append, ecs]; rfl]
            exact ints_iD _
          · unfold iD
            rw [List.length_map]
            omega
    · rintro σ G ⟨g2, zs, S, rfl, sG, hl, rS, lS, cS, nS, oS⟩
      rw [ly] at lS nS oS
      exact ⟨_, rfl, q l G S sG nl ⟨zs, hl, rS⟩ ⟨lS, fun i hi => nS i (List.getElem?_eq_some_iff.mp hi).1 hi, fun i r x hi hx => oS i r x (List.getElem?_eq_some_iff.mp hi).1 hi hx⟩⟩
end
end Sl

set_option Elab.async false
set_option linter.all false
set_option maxRecDepth 100000
set_option maxHeartbeats 400000
/-! ## cls(*xs), cls a local that holds a class -/
namespace Sl
open PySem PySem.Spec PyProof.Rows L2 StX
section
variable {X : Cx} {CX : CXT} {k i : Nat} {f C : Addr} {sp : Sp} {E : XK} {x : Str} {e : Expr} {te : TE} {p pos sp_ : Pos}
def tMakeSL (K : PySem.W.Frag) (i : Nat) (C : Addr) (sp : Sp) (E : XK) (te : TE) : TE := fun σ H Q => σ[i]? = some (some (.ref C)) ∧ te σ H fun y H1 => ∃ a xs, y = V.ref a ∧ (SqT K H1 a xs ∨ SqL K H1 a xs) ∧
  ∀ x dx, H1 x = Option.none → H1 dx = Option.none → dx ≠ x → sp (V.ref x :: xs) (upd (upd H1 dx (.own x)) x (.ins C dx [])) (fun v H2 => v = .non ∧ Q (.ref x) H2) E
theorem pe_makeSL (M : Mk X.K C f) (F : FnR X.prog X.w X.K X.mg X.base CX k f sp) (hr : Room (k + 1) X.A) (hN : X.N[i]? = some x) (hv : Vis X.env.scope x) (hx : Passes CX X E) (he : PE X e te)
    (hdb : (x == ("__debug__" : Str)) = false := by decide) (hcd : (x == ("__classdict__" : Str)) = false := by decide) (hst : starEach [.Starred e sp_] X.env = [(true, eval e X.env)] := by rfl) :
    PE X (.Call (.Name x p) [.Starred e sp_] [] pos) (tMakeSL X.K i C sp E te) := by
  refine ⟨fun pins s σ H Q I ⟨hs, ht⟩ => ?_⟩
  refine wpAny_Call_Name_kw (thn ((pe_var (pos := p) hN hv hdb hcd).run pins s σ H (fun v H1 => v = .ref C ∧ H1 = H) I ⟨.ref C, hs, rfl, rfl⟩) fun u s1 ⟨v, H1, I1, r1, q1⟩ => ?_)
  obtain ⟨rfl, rfl⟩ := q1
  cases r1
  refine PySem.W.callWith_S (h₀ := X.base) I1.ok.mod.kin M.kp (thn (he.run pins s1 σ _ _ I1 ht) fun v s2 ⟨y, H2, I2, ry, a, xs, ey, hxs, q⟩ => ?_) hst
  subst ey
  obtain rfl : v = Value.ref a := ry
  exact star_any I2 hxs fun us s3 I3 rv => ⟨I3.kIn, run_makeR M F hr hx I3 rv q⟩
end
end Sl

set_option Elab.async false
set_option linter.all false
set_option maxRecDepth 100000
set_option maxHeartbeats 400000
/-! ## Definitions, sorted by their numbers -/
namespace Sl
open PySem PySem.Spec PyProof.Rows L2
theorem asc_srtP : ∀ {l : List (Str × D)}, Asc (l.map (·.1)) → srtP l = l
  | [], _ => rfl
  | p :: r, h => by
    have h' := List.pairwise_cons.mp h
    have e := asc_srtP h'.2
    show insP p (srtP r) = p :: r
    rw [e]
    cases r with
    | nil => rfl
    | cons q r =>
      unfold insP
      rw [if_pos (h'.1 q.1 List.mem_cons_self)]
def sndAt (ps : List (Str × D)) (i : Nat) : D := (ps[i]?.map (·.2)).getD .non
def enP (ps : List (Str × D)) : List (Str × Int) := ps.zipIdx.map fun q => (q.1.1, (q.2 : Int))
theorem enP_at {ps : List (Str × D)} {i : Nat} : (enP ps)[i]? = ps[i]?.map fun p => (p.1, (i : Int)) := by
  unfold enP
  rw [List.getElem?_map, List.getElem?_zipIdx]
  cases ps[i]? with
  | none => rfl
  | some p => simp
theorem rows_srt {ps : List (Str × D)} {f : D → D} {ks : List (Str × Int)} (hn : (ps.map (·.1)).Nodup) (hp : ks.Perm (enP ps)) (hs : ks.Pairwise (fun x y => ltSI y x = false)) :
    ks.map (fun q => (q.1, f (sndAt ps q.2.toNat))) = srtP (ps.map fun p => (p.1, f p.2)) := by
  have e1 : (enP ps).map (fun q => (q.1, f (sndAt ps q.2.toNat))) = ps.map fun p => (p.1, f p.2) := by
    refine List.ext_getElem? fun i => ?_
    rw [List.getElem?_map, List.getElem?_map, enP_at]
    cases h : ps[i]? with
    | none => rfl
    | some p =>
      show some (p.1, f (sndAt ps (Int.toNat (i : Int)))) = some (p.1, f p.2)
      unfold sndAt
      rw [Int.toNat_natCast, h]
      rfl
  have pm : (ks.map (fun q => (q.1, f (sndAt ps q.2.toNat)))).Perm (ps.map fun p => (p.1, f p.2)) := by
    rw [← e1]
    exact hp.map _
  have e2 : (ps.map fun p => (p.1, f p.2)).map (·.1) = ps.map (·.1) := by
    rw [List.map_map]
    rfl
  have e3 : (ks.map (fun q => (q.1, f (sndAt ps q.2.toNat)))).map (·.1) = ks.map (·.1) := by
    rw [List.map_map]
    rfl
  have nk : (ks.map (·.1)).Nodup := by
    have := (pm.map (·.1)).nodup_iff.mpr (by rw [e2]; exact hn)
    rw [e3] at this
    exact this
  have asc : Asc ((ks.map (fun q => (q.1, f (sndAt ps q.2.toNat)))).map (·.1)) := by
    rw [e3]
    refine List.pairwise_map.mpr ?_
    have n2 := List.pairwise_map.mp (List.nodup_iff_pairwise_ne.mp nk)
    refine (hs.and n2).imp fun {x y} q => ?_
    obtain ⟨q1, q2⟩ := q
    unfold ltSI at q1
    rw [if_neg fun z => q2 z.symm] at q1
    cases e : sLt x.1 y.1
    · exact absurd (sLt_tri e q1) q2
    · rfl
  have u := srtP_uniq (l := ks.map (fun q => (q.1, f (sndAt ps q.2.toNat)))) (by rw [e3]; exact nk) pm
  rw [← u]
  exact (asc_srtP asc).symm
end Sl

set_option Elab.async false
set_option linter.all false
set_option maxRecDepth 100000
set_option maxHeartbeats 400000
namespace Sl
open PySem PySem.Spec PyProof.Rows L2
/-! ### a dict emptied beside open terms -/
mutual
def D.pure : D → Bool
  | .tup ds => D.pures ds
  | .lst => false
  | .dct => false
  | _ => true
def D.pures : List D → Bool
  | [] => true
  | d :: ds => d.pure && D.pures ds
end
mutual
theorem Rdd.keep {K : PySem.W.Frag} {G G' : Hp} (k : ∀ b xs, SqT K G b xs → SqT K G' b xs) : ∀ (d : D) {v : V}, d.pure = true → Rdd K G v d → Rdd K G' v d
  | .non, _, _, h => by cases h; exact .non
  | .bl b, _, _, h => by cases h; exact .bl b
  | .int i, _, _, h => by cases h; exact .int i
  | .str x, _, _, h => by cases h; exact .str x
  | .tup ds, _, g, h => by
    simp only [D.pure] at g
    cases h with
    | tup hs ha hl => exact .tup (k _ _ hs) (RddAll.keep k ds g ha) hl
  | .lst, _, g, _ => by simp [D.pure] at g
  | .dct, _, g, _ => by simp [D.pure] at g
theorem RddAll.keep {K : PySem.W.Frag} {G G' : Hp} (k : ∀ b xs, SqT K G b xs → SqT K G' b xs) : ∀ (ds : List D) {vs : List V}, D.pures ds = true → RddAll K G vs ds → RddAll K G' vs ds
  | [], _, _, h => by cases h; exact .nil
  | d :: ds, _, g, h => by
    simp only [D.pures, Bool.and_eq_true] at g
    cases h with
    | cons h1 h2 => exact .cons (Rdd.keep k d g.1 h1) (RddAll.keep k ds g.2 h2)
end
theorem pures_of : ∀ {ds : List D}, (∀ d ∈ ds, d.pure = true) → D.pures ds = true
  | [], _ => by simp [D.pures]
  | d :: ds, h => by
    simp only [D.pures, Bool.and_eq_true]
    exact ⟨h d List.mem_cons_self, pures_of fun x hx => h x (List.mem_cons_of_mem _ hx)⟩
theorem opn_pure : ∀ {n : Nat} {d : D}, OpN n d → d.pure = true
  | 0, _, h => h.elim
  | n + 1, d, h => by
    have om := OpN.s.mp h
    rcases built_cases om.1.1 with ⟨x, rfl, _⟩ | ⟨x, l0, rfl, hx, hl0⟩ | ⟨x, b, rfl, hx⟩ | ⟨ps, b, rfl, hp⟩
    · simp [mkU, D.pure, D.pures]
    · have := om.2
      rw [inn_W] at this
      have e := pures_of fun d hd => opn_pure (this d hd)
      simp [mkW, D.pure, D.pures, e]
    · have := om.2
      rw [inn_F] at this
      have e := opn_pure (this b (List.mem_singleton.mpr rfl))
      simp [mkF, D.pure, D.pures, e]
    · have := om.2
      rw [inn_L] at this
      have e := opn_pure (this b (List.mem_append_right _ (List.mem_singleton.mpr rfl)))
      have e2 : D.pures (mkPs ps) = true := pures_of fun d hd => by
        obtain ⟨p, hp, rfl⟩ := List.mem_map.mp hd
        have := opn_pure (this p.2 (List.mem_append_left _ (List.mem_map.mpr ⟨p, hp, rfl⟩)))
        simp [D.pure, D.pures, this]
      simp [mkL, D.pure, D.pures, e, e2]
theorem sqT_dict {K : PySem.W.Frag} {H : Hp} {p : Addr} {kvs kvs' : List (Key × V)} (hp : H p = some (.dK kvs)) : ∀ b xs, SqT K H b xs → SqT K (upd H p (.dK kvs')) b xs := by
  intro b xs h
  by_cases e : b = p
  · rcases h with (h | ⟨o, h⟩) | h
    · rw [e, hp] at h
      cases h
    · rw [e, hp] at h
      cases h
    · exact .inr h
  · rcases h with (h | ⟨o, h⟩) | h
    · exact .inl (.inl (by rw [upd_ne e]; exact h))
    · exact .inl (.inr ⟨o, by rw [upd_ne e]; exact h⟩)
    · exact .inr h
end Sl

set_option Elab.async false
set_option linter.all false
set_option maxRecDepth 100000
set_option maxHeartbeats 400000
/-! ## Graph(*nodes) -/
namespace Sl
open PySem PySem.Spec PyProof.Rows L2
abbrev sGInit : Stmt := inClass (topT 31) 0
theorem scGInit : FnScope ["self", "nodes"] ([("self" : Str)] ++ [("nodes" : Str)]) (defScope sGInit) := ⟨rfl, rfl, rfl, by decide +kernel, rfl, by decide +kernel, by decide +kernel⟩
theorem fl {fs : List (Str × V)} {f : Str} {v : V} {k : Nat} (h : fs.length ≤ k) : (putF f v fs).length ≤ k + 1 := Nat.le_trans (length_putF f v fs) (by omega)
def grF (vN : V) (pR pS : Addr) : List (Str × V) := putF "_scopes" (.ref pS) (putF "_needs" (.ref pR) (putF "_nodes" vN []))
section
variable {vN : V} {pR pS : Addr}
theorem gr_N : (grF vN pR pS).lookup ("_nodes" : Str) = some vN := by
  unfold grF
  rw [lookup_putF, if_neg (by decide +kernel), lookup_putF, if_neg (by decide +kernel), lookup_putF, if_pos rfl]
theorem gr_R : (grF vN pR pS).lookup ("_needs" : Str) = some (.ref pR) := by
  unfold grF
  rw [lookup_putF, if_neg (by decide +kernel), lookup_putF, if_pos rfl]
theorem gr_S : (grF vN pR pS).lookup ("_scopes" : Str) = some (.ref pS) := by
  unfold grF
  rw [lookup_putF, if_pos rfl]
theorem gr_no {m : Str} (h1 : ¬ m = "_scopes") (h2 : ¬ m = "_needs") (h3 : ¬ m = "_nodes") : (grF vN pR pS).lookup m = none := by
  unfold grF
  rw [lookup_putF, if_neg h1, lookup_putF, if_neg h2, lookup_putF, if_neg h3]
  rfl
end
/-- the class -/
structure Gr (K : PySem.W.Frag) (mg : Str → Option Value) (C : Addr) : Prop where
  cl : Cls K C
  nN : NoAttr K C "_nodes"
  nR : NoAttr K C "_needs"
  nS : NoAttr K C "_scopes"
  mgC : mg "Graph" = some (.ref C)
/-- the graph of these nodes stands at x -/
structure GrAt (K : PySem.W.Frag) (C : Addr) (H : Hp) (x : Addr) (ns : List GN) (R S : List (List Nat)) : Prop where
  ex : ∃ (dx pR pS : Addr) (vN : V), H x = some (.ins C dx (grF vN pR pS)) ∧ Rdd K H vN (.tup (ns.map ndD)) ∧ RowsAt K H pR R ∧ RowsAt K H pS S
  rows : RowsOk ns R
  sc : Sc R S
theorem RowsAt.ex {K : PySem.W.Frag} {H H' : Hp} {p : Addr} {R : List (List Nat)} (h : RowsAt K H p R) (s : Same H H') : RowsAt K H' p R := by
  obtain ⟨ys, h1, h2⟩ := h
  exact ⟨ys, s _ _ h1, RddAll.ex (Ex.same s) _ h2⟩
theorem GrAt.same {K : PySem.W.Frag} {C : Addr} {H H' : Hp} {x : Addr} {ns : List GN} {R S : List (List Nat)} (h : GrAt K C H x ns R S) (s : Same H H') : GrAt K C H' x ns R S := by
  obtain ⟨dx, pR, pS, vN, h1, h2, h3, h4⟩ := h.ex
  exact ⟨⟨dx, pR, pS, vN, s _ _ h1, Rdd.ex (Ex.same s) _ h2, h3.ex s, h4.ex s⟩, h.rows, h.sc⟩
theorem pures_map {α : Type} (f : α → D) : ∀ l : List α, (∀ x ∈ l, (f x).pure = true) → D.pures (l.map f) = true
  | [], _ => by rw [List.map_nil, D.pures]
  | a :: l, h => by
    rw [List.map_cons, D.pures, h a List.mem_cons_self, pures_map f l fun x hx => h x (List.mem_cons_of_mem _ hx)]
    rfl
theorem iD_pure (l : List Nat) : (D.tup (iD l)).pure = true := by
  rw [D.pure]
  exact pures_map _ l fun x _ => by rw [D.pure] <;> simp
theorem ndD_pure (g : GN) : (ndD g).pure = true := by
  have h := iD_pure
  cases g with
  | W x cs =>
    unfold ndD
    rw [D.pure, D.pures, D.pures, D.pures, h cs, D.pures]
    simp [D.pure]
  | F c => simp [ndD, D.pure, D.pures]
  | V f => simp [ndD, D.pure, D.pures]
theorem nodes_pure (ns : List GN) : (D.tup (ns.map ndD)).pure = true := by
  rw [D.pure]
  exact pures_map _ ns fun g _ => ndD_pure g
/-- data stay when an instance's fields are set -/
theorem Rdd.off {K : PySem.W.Frag} {G G' : Hp} {x C dx : Addr} {fs : List (Str × V)} (gx : G x = some (.ins C dx fs)) (o : Off x G G') {v : V} {d : D} (pu : d.pure = true) (r : Rdd K G v d) : Rdd K G' v d := Rdd.keep (fun b xs hb => by
    rcases hb with (hb | ⟨o', hb⟩) | hb
    · exact .inl (.inl (o _ _ (fun z => by rw [z, gx] at hb; cases hb) hb))
    · exact .inl (.inr ⟨o', o _ _ (fun z => by rw [z, gx] at hb; cases hb) hb⟩)
    · exact .inr hb) _ pu r
theorem RddAll.off {K : PySem.W.Frag} {G G' : Hp} {x C dx : Addr} {fs : List (Str × V)} (gx : G x = some (.ins C dx fs)) (o : Off x G G') : ∀ {vs : List V} {ds : List D}, (∀ d ∈ ds, d.pure = true) → RddAll K G vs ds → RddAll K G' vs ds
  | _, _, _, .nil => .nil
  | _, _, h, .cons a b => .cons (Rdd.off gx o (h _ List.mem_cons_self) a) (RddAll.off gx o (fun d hd => h d (List.mem_cons_of_mem _ hd)) b)
theorem RowsAt.off {K : PySem.W.Frag} {G G' : Hp} {x C dx p : Addr} {fs : List (Str × V)} {R : List (List Nat)} (gx : G x = some (.ins C dx fs)) (o : Off x G G') (h : RowsAt K G p R) : RowsAt K G' p R := by
  obtain ⟨ys, h1, h2⟩ := h
  refine ⟨ys, o _ _ (fun z => by rw [z, gx] at h1; cases h1) h1, RddAll.off gx o (fun d hd => ?_) h2⟩
  obtain ⟨r, _, rfl⟩ := List.mem_map.mp hd
  exact iD_pure r
/-- nodes that a graph is made of -/
structure GV (ns : List GN) : Prop where
  pos : 0 < ns.length
  big : ns.length ≤ 100
  rng : ∀ g ∈ ns, Rng ns.length g
  ar : arB ns = true
  free : Free ns
theorem GV.own {ns : List GN} (h : GV ns) : (own ns).Nodup := by
  have := h.ar
  unfold arB at this
  rw [Bool.and_eq_true] at this
  exact of_decide_eq_true this.2
section
variable {P : Program} {w : World} {K : PySem.W.Frag} {mg : Str → Option Value} {base : Heap} {C : Addr} {fWh fBe fNm fKd fWk fRw fPo fNd fAn : Addr} {dWh dBe dNm dKd dWk dRw dPo dNd dAn : FuncData}
/-- the defs of graphs -/
structure Gd (K : PySem.W.Frag) (mg : Str → Option Value) (fPa fIn fNe fSc fWa fPt fNu : Addr) (dPa dIn dNe dSc dWa dPt dNu : FuncData) : Prop where
  FPa : Fun K "parents_of" "parents_of" sParents fPa dPa
  bPa : Binds K dPa ["nodes"] []
  gPa : mg "parents_of" = some (.ref fPa)
  FIn : Fun K "_in_need" "_in_need" sInNeed fIn dIn
  bIn : Binds K dIn ["parents", "variable", "function"] []
  gIn : mg "_in_need" = some (.ref fIn)
  FNe : Fun K "needs_of" "needs_of" sNeeds fNe dNe
  bNe : Binds K dNe ["nodes"] []
  gNe : mg "needs_of" = some (.ref fNe)
  FSc : Fun K "scopes_of" "scopes_of" sScopes fSc dSc
  bSc : Binds K dSc ["needs"] []
  gSc : mg "scopes_of" = some (.ref fSc)
  FWa : Fun K "first_walk" "first_walk" sWalk fWa dWa
  bWa : Binds K dWa ["inner", "root"] []
  gWa : mg "first_walk" = some (.ref fWa)
  FPt : Fun K "pointed" "pointed" sPointed fPt dPt
  bPt : Binds K dPt ["node", "numbers"] []
  gPt : mg "pointed" = some (.ref fPt)
  FNu : Fun K "numbered" "numbered" sNumbered fNu dNu
  bNu : Binds K dNu ["nodes", "root"] []
  gNu : mg "numbered" = some (.ref fNu)
variable {fPa fIn fNe fSc fWa fPt fNu : Addr} {dPa dIn dNe dSc dWa dPt dNu : FuncData}
def spGInit (K : PySem.W.Frag) (C : Addr) : Sp := fun vs H Q _ => ∃ (x dx p : Addr) (us : List V) (ns : List GN), vs = [.ref x, .ref p] ∧ H x = some (.ins C dx []) ∧ H p = some (.tup us) ∧ RddAll K H us (ns.map ndD) ∧ GV ns ∧
  ∀ o R S H', FW (kd ns) [] [0] o → o.Nodup → (∀ i ∈ o, i < ns.length) → Off x H H' → GrAt K C H' x (ren ns o) R S → Q .non H'
theorem run_gInit (N : Gn K mg fWh fBe fNm fKd fWk fRw fPo fNd fAn dWh dBe dNm dKd dWk dRw dPo dNd dAn) (Dg : Gd K mg fPa fIn fNe fSc fWa fPt fNu dPa dIn dNe dSc dWa dPt dNu) (U : Tops K mg) (Bi' : Bi mg) (B : Bt mg) (L : Gr K mg C)
    {cdv : Value} {A : Around} {outer : List Env} {s : Shared} {H : Hp} {vs : List V} {f : Addr} {Q : VK} {E : XK} (hr : Room 5 (A.deeper (envOfC "Graph.__init__" (defScope sGInit) s.heap.objs.size f cdv))) (h : spGInit K C vs H Q E) :
    ∃ t, PSs (cxOf CX0 P w K mg base ["self", "nodes"] "Graph.__init__" (defScope sGInit) f cdv A outer s H E) (defBody sGInit) t ∧ t { nx := fun _ H' => Q .non H', rt := Q } (start ["self", "nodes"] vs) H := by
  have GA : FnOk P w K mg base CX0 5 fAn dAn ["values"] (spAreN K) := ok_areN N U Bi' B
  have GN : FnOk P w K mg base CX0 3 fNe dNe ["nodes"] (spNeeds K) := ok_needs N Dg.FNe Dg.FPa Dg.bPa Dg.gPa Dg.FIn Dg.bIn Dg.gIn B
  have GS : FnOk P w K mg base CX0 1 fSc dSc ["needs"] (spScopes K) := ok_scopes Dg.FSc B
  have GU : FnOk P w K mg base CX0 3 fNu dNu ["nodes", "root"] (spNumbered K) := ok_numbered N Dg.FNu Dg.FWa Dg.bWa Dg.gWa Dg.FPt Dg.bPt Dg.gPt B
  have h1 := hr.mono (by decide : 1 ≤ 5)
  have h3 := hr.mono (by decide : 3 ≤ 5)
  obtain ⟨tM, gM⟩ := U.nodes
  have sl := sizeLine_eq
  obtain ⟨x, dx, p, us, ns, rfl, hx, hp, hus, gv, q⟩ := h
  --D
  refine ⟨_, (pss_cons (ps_if (pt_not (pt_val (pe_call GA hr (by rfl) N.gAn N.FAn.kp N.bAn .nil pass0 (pa_cons (pv 1) pa_nil))))
          (pss_one ps_never) pss_nil)
        (pss_cons (ps_if (pt_cmpR op_gt (pe_callB call_len_seq (by rfl) B.len PySem.boot_len (pa_cons (pe_ix ix_list (pe_call GN h3 (by rfl) Dg.gNe Dg.FNe.kp Dg.bNe .nil pass0 (pa_cons (pv 1) pa_nil)) pe_int (fun _ _ => rfl)) pa_nil)) pe_int (nomark _))
          (pss_one ps_never) pss_nil)
        (pss_cons (ps_fld (pv 0) (pe_call GU h3 (by rfl) Dg.gNu Dg.FNu.kp Dg.bNu .nil pass0 (pa_cons (pv 1) (pa_cons pe_int pa_nil))) rfl)
        (pss_cons (ps_if (pt_cmpR op_gt (pe_callB call_len_seq (by rfl) B.len PySem.boot_len (pa_cons (pe_fld (pv 0) rfl) pa_nil)) (pe_glob (v := .int 100) (by rfl) gM ⟨_, rfl⟩) (nomark _))
          (pss_one ps_never) pss_nil)
        (pss_cons (ps_fld (pv 0) (pe_call GN h3 (by rfl) Dg.gNe Dg.FNe.kp Dg.bNe .nil pass0 (pa_cons (pe_fld (pv 0) rfl) pa_nil)) rfl)
        (pss_one (ps_fld (pv 0) (pe_call GS h1 (by rfl) Dg.gSc Dg.FSc.kp Dg.bSc .nil pass0 (pa_cons (pe_fld (pv 0) rfl) pa_nil)) rfl))))))), ?_⟩
  --E
  have lno : ∀ {o : List Nat}, o.Nodup → (∀ i ∈ o, i < ns.length) → o.length ≤ ns.length := fun nd lt => nd_len' nd lt
  have hb := gv.big
  have ru : Rdd K H (.ref p) (.tup (ns.map ndD)) := tup_val hp hus (by rw [List.length_map]; omega)
  refine ⟨_, rfl, .ref p, ns, rfl, ru, gv.pos, gv.rng, (by omega), fun H1 s1 => ?_⟩
  rw [gv.ar]
  refine ⟨_, rfl, iteF ?_⟩
  -- needs_of(nodes)[0] is empty
  refine ⟨_, rfl, .ref p, ns, rfl, Rdd.ex (Ex.same s1) _ ru, gv.rng, gv.own, (by omega), fun pq H2 R0 s2 _ ⟨ys, hys, rys⟩ ok0 => ?_⟩
  have pos0 : 0 < R0.length := by rw [ok0.len]; exact gv.pos
  have hr0 : R0[0]? = some R0[0] := List.getElem?_eq_getElem pos0
  have e0 : R0[0] = [] := (free_row (ok0.row 0 _ hr0)).mpr gv.free
  rw [e0] at hr0
  obtain ⟨y0, hy0, ry0⟩ := rys.at (i := 0) (d := .tup (iD [])) (by rw [List.getElem?_map, hr0]; rfl)
  obtain ⟨a0, xs0, rfl, ha0, hx0, _⟩ := ry0.tupd'
  cases hx0
  refine ⟨pq, ys, (0 : Int), _, rfl, rfl, SqL.of hys, atI_nat (j := 0) hy0, a0, [], rfl, .inr ha0, _, _, rfl, rfl, _, rfl, ?_⟩
  rw [decide_eq_false (by decide)]
  refine iteF ?_
  -- self._nodes
  have s02 := s1.trans s2
  have fr := gv.free
  refine ⟨_, rfl, .ref p, ns, 0, rfl, Rdd.ex (Ex.same s02) _ ru, gv.rng, gv.pos, (by omega), ?_, fun o v H3 fw nd lt s3 rv => ?_⟩
  · intro o fw
    exact walk_closed fr fw (fw.lt (kd_rng gv.rng) (fun i hi => by cases hi) fun i hi => by rw [List.mem_singleton.mp hi]; exact gv.pos)
  have cl := walk_closed fr fw lt
  have lo := lno nd lt
  have s03 := s02.trans s3
  have hx3 := s03 _ _ hx
  refine ⟨_, rfl, x, C, dx, [], rfl, hx3, L.cl, L.nN, (by show 0 < 1000; decide), ?_⟩
  have o4 : Off x H3 (upd H3 x (.ins C dx (putF "_nodes" v []))) := .put
  have rv4 := Rdd.off hx3 o4 (nodes_pure _) rv
  have hx4 : (upd H3 x (.ins C dx (putF "_nodes" v []))) x = some (.ins C dx (putF "_nodes" v [])) := upd_same
  generalize upd H3 x (.ins C dx (putF "_nodes" v [])) = H4 at o4 rv4 hx4 ⊢
  -- len(self._nodes) > MAX_NODES
  obtain ⟨c0, cs, rfl, hc0, hcs, _⟩ := id rv4.tupd'
  have lcs : cs.length = o.length := by rw [hcs.length, List.length_map, ren_len]
  have lkN : (putF "_nodes" (V.ref c0) []).lookup ("_nodes" : Str) = some (.ref c0) := by rw [lookup_putF, if_pos rfl]
  refine ⟨_, rfl, x, C, dx, _, _, rfl, hx4, L.cl, L.nN, lkN, c0, cs, rfl, .inr hc0, _, _, rfl, rfl, _, rfl, ?_⟩
  rw [decide_eq_false (by omega)]
  refine iteF ?_
  -- self._needs
  have rng2 := ren_rng lt cl gv.rng
  have own2 := ren_own nd lt cl gv.own
  have wo := ren_wo fr fw nd lt
  have l2 : (ren ns o).length ≤ 4000 := by rw [ren_len]; omega
  refine ⟨_, rfl, x, C, dx, _, _, rfl, hx4, L.cl, L.nN, lkN, .ref c0, ren ns o, rfl, rv4, rng2, own2, l2, fun pR H5 R s5 nR aR okR => ?_⟩
  have hx5 := s5 _ _ hx4
  refine ⟨_, rfl, x, C, dx, _, rfl, hx5, L.cl, L.nR, (Nat.lt_of_le_of_lt (fl (Nat.le_refl _)) (by decide)), ?_⟩
  have o6 : Off x H5 (upd H5 x (.ins C dx (putF "_needs" (.ref pR) (putF "_nodes" (.ref c0) [])))) := .put
  have rv6 := Rdd.off hx5 o6 (nodes_pure _) (Rdd.ex (Ex.same s5) _ rv4)
  have aR6 := RowsAt.off hx5 o6 aR
  have hx6 : (upd H5 x (.ins C dx (putF "_needs" (.ref pR) (putF "_nodes" (.ref c0) [])))) x = some (.ins C dx (putF "_needs" (.ref pR) (putF "_nodes" (.ref c0) []))) := upd_same
  generalize upd H5 x (.ins C dx (putF "_needs" (.ref pR) (putF "_nodes" (.ref c0) []))) = H6 at o6 rv6 aR6 hx6 ⊢
  have lkR : (putF "_needs" (V.ref pR) (putF "_nodes" (V.ref c0) [])).lookup ("_needs" : Str) = some (.ref pR) := by rw [lookup_putF, if_pos rfl]
  refine ⟨_, rfl, x, C, dx, _, _, rfl, hx6, L.cl, L.nR, lkR, pR, R, rfl, aR6, rows_back wo okR l2, (by rw [okR.len]; exact l2), fun pS H7 S s7 nS aS sc => ?_⟩
  have hx7 := s7 _ _ hx6
  refine ⟨_, rfl, x, C, dx, _, rfl, hx7, L.cl, L.nS, (Nat.lt_of_le_of_lt (fl (fl (Nat.le_refl _))) (by decide)), ?_⟩
  have o8 : Off x H7 (upd H7 x (.ins C dx (grF (.ref c0) pR pS))) := .put
  refine q o R S _ fw nd lt ?_ ⟨⟨dx, pR, pS, .ref c0, upd_same, Rdd.off hx7 o8 (nodes_pure _) (Rdd.ex (Ex.same s7) _ rv6), RowsAt.off hx7 o8 (aR6.ex s7), RowsAt.off hx7 o8 aS⟩, okR, sc⟩
  exact ((((Off.same s03).trans o4).trans (Off.same s5)).trans o6).trans ((Off.same s7).trans o8)
end
end Sl

set_option Elab.async false
set_option linter.all false
set_option maxRecDepth 100000
set_option maxHeartbeats 400000
/-! ## Graph.of and the readings of a graph -/
namespace Sl
open PySem PySem.Spec PyProof.Rows L2
abbrev sGOf : Stmt := inClass (topT 31) 1
abbrev sGNeeds : Stmt := inClass (topT 31) 4
abbrev sGInner : Stmt := inClass (topT 31) 5
abbrev sGScope : Stmt := inClass (topT 31) 6
abbrev sGCheck : Stmt := inClass (topT 31) 11
theorem scGOf : FnScope ["cls", "nodes"] ["cls", "nodes"] (defScope sGOf) := ⟨rfl, rfl, rfl, by decide +kernel, rfl, by decide +kernel, by decide +kernel⟩
theorem scGNeeds : FnScope ["self", "node"] ["self", "node"] (defScope sGNeeds) := ⟨rfl, rfl, rfl, by decide +kernel, rfl, by decide +kernel, by decide +kernel⟩
theorem scGInner : FnScope ["self", "node", "needs"] ["self", "node"] (defScope sGInner) := ⟨rfl, rfl, rfl, by decide +kernel, rfl, by decide +kernel, by decide +kernel⟩
theorem scGScope : FnScope ["self", "node"] ["self", "node"] (defScope sGScope) := ⟨rfl, rfl, rfl, by decide +kernel, rfl, by decide +kernel, by decide +kernel⟩
theorem scGCheck : FnScope ["self", "node"] ["self", "node"] (defScope sGCheck) := ⟨rfl, rfl, rfl, by decide +kernel, rfl, by decide +kernel, by decide +kernel⟩
/-- a method -/
structure Me (K : PySem.W.Frag) (C : Addr) (nm qual : Str) (st : Stmt) (ps : List Str) (f : Addr) (fd : FuncData) : Prop where
  F : Fun K nm qual st f fd
  M : Meth K C nm f
  b : Binds K fd ps []
section
variable {P : Program} {w : World} {K : PySem.W.Frag} {mg : Str → Option Value} {base : Heap} {C : Addr} {fWh fBe fNm fKd fWk fRw fPo fNd fAn : Addr} {dWh dBe dNm dKd dWk dRw dPo dNd dAn : FuncData}
variable {fPa fIn fNe fSc fWa fPt fNu : Addr} {dPa dIn dNe dSc dWa dPt dNu : FuncData}
/-- what Graph(*nodes) asks -/
def spGMake (K : PySem.W.Frag) (C : Addr) : Sp := fun vs H Q E => ∃ ws rest, vs = ws ++ rest ∧ ws.length = [("self" : Str)].length ∧ rest.length ≤ sizeLine ∧ ∀ p, H p = Option.none → spGInit K C (ws ++ [V.ref p]) (upd H p (.tup rest)) Q E
theorem ok_gMake (N : Gn K mg fWh fBe fNm fKd fWk fRw fPo fNd fAn dWh dBe dNm dKd dWk dRw dPo dNd dAn) (Dg : Gd K mg fPa fIn fNe fSc fWa fPt fNu dPa dIn dNe dSc dWa dPt dNu) (U : Tops K mg) (Bi' : Bi mg) (B : Bt mg) (L : Gr K mg C)
    {f : Addr} {fd : FuncData} (F : Fun K "__init__" "Graph.__init__" sGInit f fd) : FnR P w K mg base CX0 6 f (spGMake K C) := by
  obtain ⟨oc, od, kV, doc, pm, an, cdv, ct, osl, rfl, lk, hcd⟩ := F.ex
  refine StX.fn_star (ps := ["self"]) (pv := "nodes") lk hcd scGInit StX.cxUp_none ?_ ?_
  · exact StX.bind_star1 (B := fun as => bindArgs (PySem.W.fnOf "__init__" "Graph.__init__" (defArgs sGInit) (defBody sGInit) (defScope sGInit) .none kV doc pm an cdv ct) ⟨as, []⟩) (p1 := "self") (pv := "nodes") (fun a => by first | rfl | with_unfolding_all rfl | kernel_rfl) (fun a r rs => by first | rfl | with_unfolding_all rfl | kernel_rfl)
  · intro A outer s H vs Q E hr h
    exact run_gInit N Dg U Bi' B L hr h
theorem same_made {H H' : Hp} {x dx p C : Addr} {rest : List V} (nx : H x = none) (ndx : H dx = none) (np : (upd (upd H dx (.own x)) x (.ins C dx [])) p = none) (o : Off x (upd (upd (upd H dx (.own x)) x (.ins C dx [])) p (.tup rest)) H') : Same H H' := fun b u e => by
  have b1 : b ≠ x := ne_of_none e nx
  have b2 : b ≠ dx := ne_of_none e ndx
  have e1 : (upd (upd H dx (.own x)) x (.ins C dx [])) b = some u := by rw [upd_ne b1, upd_ne b2]; exact e
  exact o b u b1 (by rw [upd_ne (ne_of_none e1 np)]; exact e1)
/-- what a call that makes a graph of these nodes may use -/
theorem g_make {x dx : Addr} {xs : List V} {ns : List GN} {H : Hp} {Q : VK} {E : XK} (gv : GV ns) (nx : H x = none) (ndx : H dx = none) (ne : dx ≠ x) (r : RddAll K H xs (ns.map ndD))
    (q : ∀ o R S H', FW (kd ns) [] [0] o → o.Nodup → (∀ i ∈ o, i < ns.length) → Same H H' → GrAt K C H' x (ren ns o) R S → Q (.ref x) H') :
    spGMake K C (V.ref x :: xs) (upd (upd H dx (.own x)) x (.ins C dx [])) (fun v H2 => v = .non ∧ Q (.ref x) H2) E := by
  have sl := sizeLine_eq
  have lx : xs.length = ns.length := by rw [r.length, List.length_map]
  have hb := gv.big
  refine ⟨[V.ref x], xs, rfl, rfl, by omega, fun p np => ?_⟩
  have s1 : Same H (upd (upd H dx (.own x)) x (.ins C dx [])) := (Same.new ndx).trans (Same.new (by rw [upd_ne (Ne.symm ne)]; exact nx))
  have s2 := Same.new (o := .tup xs) np
  refine ⟨x, dx, p, xs, ns, rfl, s2 _ _ upd_same, upd_same, RddAll.ex (Ex.same (s1.trans s2)) _ r, gv, fun o R S H' fw nd lt off gr => ⟨rfl, q o R S H' fw nd lt (same_made nx ndx np off) gr⟩⟩
def spGOf (K : PySem.W.Frag) (C : Addr) : Sp := fun vs H Q _ => ∃ (u : V) (ns : List GN), vs = [.ref C, u] ∧ Rdd K H u (.tup (ns.map ndD)) ∧ GV ns ∧
  ∀ o R S x H', FW (kd ns) [] [0] o → o.Nodup → (∀ i ∈ o, i < ns.length) → Same H H' → GrAt K C H' x (ren ns o) R S → Q (.ref x) H'
theorem ok_gOf (N : Gn K mg fWh fBe fNm fKd fWk fRw fPo fNd fAn dWh dBe dNm dKd dWk dRw dPo dNd dAn) (Dg : Gd K mg fPa fIn fNe fSc fWa fPt fNu dPa dIn dNe dSc dWa dPt dNu) (U : Tops K mg) (Bi' : Bi mg) (B : Bt mg) (L : Gr K mg C)
    {f fI : Addr} {fd fdI : FuncData} (F : Fun K "of" "Graph.of" sGOf f fd) (FI : Fun K "__init__" "Graph.__init__" sGInit fI fdI) (M : Mk K C fI) : FnOk P w K mg base CX0 8 f fd ["cls", "nodes"] (spGOf K C) := by
  have GM : FnR P w K mg base CX0 6 fI (spGMake K C) := ok_gMake N Dg U Bi' B L FI
  refine F.ok scGOf (fun vs H Q E h => ?_) (fun cdv A outer s H vs Q E hr h => ?_)
  · obtain ⟨u, ns, rfl, _⟩ := h
    rfl
  · obtain ⟨u, ns, rfl, hu, gv, q⟩ := h
    --D
    refine ⟨_, (pss_cons (ps_if (pt_not (pt_val (pe_callB call_isi (by rfl) B.isi (by decide +kernel) (pa_cons (pv 1) (pa_cons (pe_bltn (v := .ty "tuple") (by rfl) B.tuple (by decide +kernel) rfl) pa_nil)))))
          (pss_one ps_never) pss_nil)
        (pss_one (ps_ret (pe_makeSL (i := 0) M GM hr (by rfl) (Or.inl rfl) pass0 (pv 1))))), ?_⟩
    --E
    have hty := hu.ty
    obtain ⟨a0, xs, rfl, hs, hx, _⟩ := hu.tupd'
    refine ⟨_, rfl, V.ref a0, .ty "tuple", _, _, isA "tuple" (.tup (ns.map ndD)), rfl, .ty _, hty, kit_isA (by decide +kernel), _, rfl, ?_⟩
    rw [isA_tuple]
    refine iteF ⟨rfl, _, rfl, a0, xs, rfl, .inl hs, fun x dx nx ndx ne => ?_⟩
    exact g_make gv nx ndx ne hx fun o R S H' fw nd lt s gr => q o R S x H' fw nd lt s gr
/-! ### readings -/
def spCheckB (K : PySem.W.Frag) : Sp := fun vs H Q _ => ∃ (i n : Nat), vs = [.int (i : Nat), .int (n : Nat)] ∧ i < n ∧ Q .non H
theorem ok_checkB (N : Gn K mg fWh fBe fNm fKd fWk fRw fPo fNd fAn dWh dBe dNm dKd dWk dRw dPo dNd dAn) (Bi' : Bi mg) {f : Addr} {fd : FuncData} (F : Fun K "check_below" "check_below" sCheckB f fd) : FnOk P w K mg base CX0 3 f fd ["value", "limit"] (spCheckB K) := by
  have GB : FnOk P w K mg base CX0 2 fBe dBe ["value", "limit"] (spBelow K) := ok_below N.FBe N.FWh N.bWh N.gWh Bi'
  refine F.ok scCheckB (fun vs H Q E h => ?_) (fun cdv A outer s H vs Q E hr h => ?_)
  · obtain ⟨i, n, rfl, _⟩ := h
    rfl
  · obtain ⟨i, n, rfl, hi, q⟩ := h
    --DB
    refine ⟨_, (pss_one (ps_if (pt_not (pt_val (pe_call GB hr (by rfl) N.gBe N.FBe.kp N.bBe .nil pass0 (pa_cons (pv 0) (pa_cons (pv 1) pa_nil)))))
          (pss_one ps_never) pss_nil)), ?_⟩
    --EB
    refine ⟨_, rfl, _, rfl, V.int (i : Nat), .int (i : Nat), (n : Int), rfl, .int _, _, rfl, ?_⟩
    rw [show dBelow (n : Int) (.int (i : Nat)) = true by
      show (decide ((0 : Int) ≤ (i : Nat)) && decide (((i : Nat) : Int) < n)) = true
      rw [decide_eq_true (by omega), decide_eq_true (by omega)]
      rfl]
    exact iteF q
end
end Sl

set_option Elab.async false
set_option linter.all false
set_option maxRecDepth 100000
set_option maxHeartbeats 400000
/-! ## Graph.check -/
namespace Sl
open PySem PySem.Spec PyProof.Rows L2
section
variable {P : Program} {w : World} {K : PySem.W.Frag} {mg : Str → Option Value} {base : Heap} {C : Addr} {fWh fBe fNm fKd fWk fRw fPo fNd fAn : Addr} {dWh dBe dNm dKd dWk dRw dPo dNd dAn : FuncData}
def spGCheck (K : PySem.W.Frag) (C : Addr) : Sp := fun vs H Q _ => ∃ (x : Addr) (i : Nat) (ns : List GN) (R S : List (List Nat)), vs = [.ref x, .int (i : Nat)] ∧ GrAt K C H x ns R S ∧ i < ns.length ∧ Q .non H
theorem ok_gCheck (N : Gn K mg fWh fBe fNm fKd fWk fRw fPo fNd fAn dWh dBe dNm dKd dWk dRw dPo dNd dAn) (Bi' : Bi mg) (B : Bt mg) (L : Gr K mg C) {f fCb : Addr} {fd fdCb : FuncData} (F : Fun K "check" "Graph.check" sGCheck f fd)
    (FCb : Fun K "check_below" "check_below" sCheckB fCb fdCb) (bCb : Binds K fdCb ["value", "limit"] []) (gCb : mg "check_below" = some (.ref fCb)) : FnOk P w K mg base CX0 4 f fd ["self", "node"] (spGCheck K C) := by
  have GC : FnOk P w K mg base CX0 3 fCb fdCb ["value", "limit"] (spCheckB K) := ok_checkB N Bi' FCb
  refine F.ok scGCheck (fun vs H Q E h => ?_) (fun cdv A outer s H vs Q E hr h => ?_)
  · obtain ⟨x, i, ns, R, S, rfl, _⟩ := h
    rfl
  · obtain ⟨x, i, ns, R, S, rfl, gr, hi, q⟩ := h
    obtain ⟨dx, pR, pS, vN, hx, rv, aR, aS⟩ := gr.ex
    --D
    refine ⟨_, (pss_one (ps_expr (pe_call GC hr (by rfl) gCb FCb.kp bCb .nil pass0 (pa_cons (pv 1) (pa_cons (pe_callB call_len_seq (by rfl) B.len PySem.boot_len (pa_cons (pe_fld (pv 0) rfl) pa_nil)) pa_nil))))), ?_⟩
    --E
    obtain ⟨a0, xs, rfl, hs, hxs, _⟩ := rv.tupd'
    have lx : xs.length = ns.length := by rw [hxs.length, List.length_map]
    refine ⟨_, rfl, _, rfl, x, C, dx, _, _, rfl, hx, L.cl, L.nN, gr_N, a0, xs, rfl, .inr hs, ?_⟩
    rw [lx]
    exact ⟨i, ns.length, rfl, hi, q⟩
def spGRow (K : PySem.W.Frag) (C : Addr) (pick : List (List Nat) → List (List Nat) → List (List Nat)) : Sp := fun vs H Q _ => ∃ (x : Addr) (i : Nat) (ns : List GN) (R S : List (List Nat)) (row : List Nat), vs = [.ref x, .int (i : Nat)] ∧ GrAt K C H x ns R S ∧ (pick R S)[i]? = some row ∧ i < ns.length ∧ ∀ v, Rdd K H v (.tup (iD row)) → Q v H
end
end Sl

set_option Elab.async false
set_option linter.all false
set_option maxRecDepth 100000
set_option maxHeartbeats 400000
/-! ## Graph's walks: below, reached, is_on_ring -/
namespace Sl
open PySem PySem.Spec PyProof.Rows L2
abbrev sGBelow : Stmt := inClass (topT 31) 12
theorem scGBelow : FnScope ["self", "starts", "inner", "found", "start", "number", "node"] ["self", "starts"] (defScope sGBelow) := ⟨rfl, rfl, rfl, by decide +kernel, rfl, by decide +kernel, by decide +kernel⟩
/-- from a one gets to b -/
inductive Rc (k : Nat → List Nat) (a : Nat) : Nat → Prop
  | here : Rc k a a
  | on {b c : Nat} : Rc k a b → c ∈ k b → Rc k a c
theorem Rc.front {k : Nat → List Nat} {a b c : Nat} (h : b ∈ k a) (r : Rc k b c) : Rc k a c := by
  induction r with
  | here => exact .on .here h
  | on _ hc ih => exact ih.on hc
theorem FW.sound {k : Nat → List Nat} {r : Nat} {m st o : List Nat} (h : FW k m st o) : (∀ i ∈ m, Rc k r i) → (∀ i ∈ st, Rc k r i) → ∀ i ∈ o, Rc k r i := by
  induction h with
  | nil => exact fun h1 _ => h1
  | old _ _ ih => exact fun h1 h2 => ih h1 fun i hi => h2 i (List.mem_cons_of_mem _ hi)
  | @new m st o s _ _ ih =>
    intro h1 h2
    have hs := h2 s List.mem_cons_self
    refine ih (fun i hi => ?_) fun i hi => ?_
    · rcases List.mem_append.mp hi with hi | hi
      · exact h1 i hi
      · rw [List.mem_singleton.mp hi]; exact hs
    · rcases List.mem_append.mp hi with hi | hi
      · exact hs.on hi
      · exact h2 i (List.mem_cons_of_mem _ hi)
theorem fw_rc {k : Nat → List Nat} {r : Nat} {o : List Nat} (h : FW k [] [r] o) {i : Nat} : i ∈ o ↔ Rc k r i := by
  refine ⟨h.sound (fun i hi => by cases hi) (fun i hi => by rw [List.mem_singleton.mp hi]; exact .here) i, fun rc => ?_⟩
  induction rc with
  | here => exact h.sub.2 r (List.mem_singleton.mpr rfl)
  | on _ hc ih => exact h.closed (fun a ha => by cases ha) _ ih _ hc
/-- put in, if it is not in -/
def insN (m : List Nat) (i : Nat) : List Nat := if i ∈ m then m else m ++ [i]
theorem kvI_ins (m : List Nat) (i : Nat) : putK (kvI m) (Sum.inl ((i : Nat) : Int)) (.bl true) = kvI (insN m i) := by
  unfold insN
  by_cases h : i ∈ m
  · rw [if_pos h]
    unfold putK
    have hv := kvI_some h
    have e : ((kvI m).any fun kv => decide (kv.1 = Sum.inl ((i : Nat) : Int))) = true := by
      unfold kvI
      exact List.any_eq_true.mpr ⟨_, List.mem_map.mpr ⟨i, h, rfl⟩, decide_eq_true rfl⟩
    rw [if_pos e]
    unfold kvI
    rw [List.map_map]
    refine List.map_congr_left fun j _ => ?_
    show (if (Sum.inl ((j : Nat) : Int) : Key) = Sum.inl ((i : Nat) : Int) then _ else _) = _
    split <;> rfl
  · rw [if_neg h, kvI_put h]
theorem insN_mem {m : List Nat} {i j : Nat} : j ∈ insN m i ↔ j ∈ m ∨ j = i := by
  unfold insN
  by_cases h : i ∈ m
  · rw [if_pos h]
    exact ⟨.inl, fun z => z.elim id fun e => e ▸ h⟩
  · rw [if_neg h, List.mem_append, List.mem_singleton]
theorem insN_nodup {m : List Nat} {i : Nat} (h : m.Nodup) : (insN m i).Nodup := by
  unfold insN
  by_cases hi : i ∈ m
  · rw [if_pos hi]; exact h
  · rw [if_neg hi]
    exact List.nodup_append.mpr ⟨h, by simp, fun a ha b hb e => hi (by rw [List.mem_singleton.mp hb] at e; exact e ▸ ha)⟩
theorem mem_take1 {α : Type} {l : List α} {i : Nat} {x : α} (h : l[i]? = some x) {y : α} : y ∈ l.take (i + 1) ↔ y ∈ l.take i ∨ y = x := by
  rw [List.take_succ, h, List.mem_append]
  simp
/-- a loop over a list or a tuple -/
theorem tFor_seq {K : PySem.W.Frag} {tl : TE} {a : Addr} {xs : List V} {g : TG} {tb : TS} {D : Ends} {σ : L2.St} {H0 H : Hp} (ht : ∀ Q : VK, Q (.ref a) H → tl σ H Q) (hs : H0 a = some (.lst xs) ∨ SqT K H0 a xs) (Pv : Nat → L2.St → Hp → Prop) (h0 : Pv 0 σ H) (hl : ∀ i σ' G, Pv i σ' G → Same H0 G)
    (step : ∀ i x σ' G, xs[i]? = some x → Pv i σ' G → g x σ' G fun σ2 H2 => tb { D with nx := Pv (i + 1), ct := Pv (i + 1), bk := D.nx } σ2 H2) (hd : ∀ σ' G, Pv xs.length σ' G → D.nx σ' G) : tFor (fun σ H R => iList K tl σ H R ∨ iTup K tl σ H R) g tb D σ H := by
  have s0 := hl 0 σ H h0
  rcases hs with hs | hs
  · exact Or.inl (ht _ ⟨a, rfl, ⟨_, SqL.of (s0 _ _ hs)⟩, for_list Pv h0 (fun i σ' G _ p => SqL.of (hl i σ' G p _ _ hs)) step hd⟩)
  · exact Or.inr (ht _ ⟨a, rfl, ⟨_, (Ex.same s0).tup hs⟩, for_tup Pv h0 (fun i σ' G _ p => (Ex.same (hl i σ' G p)).tup hs) step hd⟩)
/-- the nodes that are reached from these -/
structure Bel (k : Nat → List Nat) (n : Nat) (ss m : List Nat) : Prop where
  nd : m.Nodup
  mem : ∀ i, i ∈ m ↔ ∃ s ∈ ss, Rc k s i
  lt : ∀ i ∈ m, i < n
section
variable {P : Program} {w : World} {K : PySem.W.Frag} {mg : Str → Option Value} {base : Heap} {C : Addr} {fWh fBe fNm fKd fWk fRw fPo fNd fAn : Addr} {dWh dBe dNm dKd dWk dRw dPo dNd dAn : FuncData}
variable {fPa fIn fNe fSc fWa fPt fNu : Addr} {dPa dIn dNe dSc dWa dPt dNu : FuncData}
def spGBelow (K : PySem.W.Frag) (C : Addr) : Sp := fun vs H Q _ => ∃ (x a : Addr) (ss : List Nat) (ns : List GN) (R S : List (List Nat)), vs = [.ref x, .ref a] ∧ GrAt K C H x ns R S ∧ (∀ g ∈ ns, Rng ns.length g) ∧ ns.length ≤ 4000 ∧ (H a = some (.lst (iL ss)) ∨ SqT K H a (iL ss)) ∧ (∀ i ∈ ss, i < ns.length) ∧
  ∀ m p H', Bel (kd ns) ns.length ss m → Same H H' → H p = none → H' p = some (.lst (iL m)) → Q (.ref p) H'
theorem ok_gBelow (N : Gn K mg fWh fBe fNm fKd fWk fRw fPo fNd fAn dWh dBe dNm dKd dWk dRw dPo dNd dAn) (Dg : Gd K mg fPa fIn fNe fSc fWa fPt fNu dPa dIn dNe dSc dWa dPt dNu) (B : Bt mg) (L : Gr K mg C) {f : Addr} {fd : FuncData} (F : Fun K "below" "Graph.below" sGBelow f fd) : FnOk P w K mg base CX0 2 f fd ["self", "starts"] (spGBelow K C) := by
  have GK : FnOk P w K mg base CX0 1 fKd dKd ["node"] (spKids K) := ok_kids N
  have GW : FnOk P w K mg base CX0 1 fWa dWa ["inner", "root"] (spWalk K) := ok_walk Dg.FWa B
  refine F.ok scGBelow (fun vs H Q E h => ?_) (fun cdv A outer s H vs Q E hr h => ?_)
  · obtain ⟨x, a, ss, ns, R, S, rfl, _⟩ := h
    rfl
  · obtain ⟨x, a, ss, ns, R, S, rfl, gr, hg, hn, hs, hss, q⟩ := h
    have hu := hu_of hr
    have sl := sizeLine_eq
    obtain ⟨dx, pR, pS, vN, hx, rv, aR, aS⟩ := gr.ex
    --DB
    refine ⟨_, (pss_cons (ps_setLc (i := 2) (own := [("node", 6)]) (g := gName 6) (tt := tYes) (te := tCall (spKids K) [] E0 (tCons (tVar 6) tNil)) rfl scGBelow.nd rfl rfl (sw_true rfl rfl rfl (by decide +kernel)) (pi_tup (pe_fld (pv 0) rfl)) (blkOk_by (own := [("node", 6)]) (N := ["self", "starts", "inner", "found", "start", "number", "node"]) (sc := defScope sGBelow) (by decide +kernel)) (fun _ _ _ _ _ => pg_name (i := 6) scGBelow.nd rfl (Or.inl rfl)) (fun _ _ _ _ _ => pts_nil) (fun _ _ _ _ _ => by exact (pe_call GK hr (by rfl) N.gKd N.FKd.kp N.bKd .nil pass0 (pa_cons (pv 6) pa_nil))))
        (pss_cons (ps_set (i := 3) scGBelow.nd rfl (Or.inl rfl) pe_dnewK)
        (pss_cons (ps_for PassesOwn.never rfl (pi_or (pi_list (pv 1)) (pi_tup (pv 1))) (pg_name (i := 4) scGBelow.nd rfl (Or.inl rfl))
          (pss_one (ps_for PassesOwn.never rfl (pi_list (pe_call GW hr (by rfl) Dg.gWa Dg.FWa.kp Dg.bWa .nil pass0 (pa_cons (pv 2) (pa_cons (pv 4) pa_nil)))) (pg_name (i := 5) scGBelow.nd rfl (Or.inl rfl))
          (pss_one (ps_asg pe_bl (pg_sub (pv 3) (pv 5) (set_dict hu)))))))
        (pss_one (ps_ret (pe_callTy (call_list_dK rfl) (by rfl) B.list (by decide +kernel) (pa_cons (pv 3) pa_nil))))))), ?_⟩
    --EB
    obtain ⟨b0, us, rfl, hsu, hxu, _⟩ := id rv.tupd'
    have lu : us.length = ns.length := by rw [hxu.length, List.length_map]
    refine ⟨_, rfl, x, C, dx, _, _, rfl, hx, L.cl, L.nN, gr_N, b0, rfl, ⟨_, hsu⟩, fun D0 nD => ?_⟩
    refine lcJT (Pd := fun i d => ∃ g, ns[i]? = some g ∧ d = .tup (iD (gk g))) jr_same (Same.refl _) (by omega) hsu nD ?_ ?_
    · intro i x H2 Q2 Z2 hx s2 hQ
      obtain ⟨d, hd, rx⟩ := hxu.get hx
      rw [List.getElem?_map] at hd
      obtain ⟨g, hgi, rfl⟩ := Option.map_eq_some_iff.mp hd
      refine ⟨rfl, ?_⟩
      exact iteT (B := Z2 H2) ⟨_, rfl, x, g, rfl, Rdd.ex (Ex.same s2) _ rx, (gk_rng (hg g (List.mem_of_getElem? hgi))).1, fun r0 H3 s3 hr0 => hQ r0 H3 _ s3 hr0 ⟨g, hgi, rfl⟩⟩
    · intro H2 ys ds s2 hD ry ld pd
      have ed : ds = (ns.map gk).map fun c => .tup (iD c) := by
        apply List.ext_getElem?
        intro i
        rw [List.getElem?_map, List.getElem?_map]
        by_cases hi : i < ds.length
        · obtain ⟨g, h1, h2⟩ := pd i _ (List.getElem?_eq_getElem hi)
          rw [List.getElem?_eq_getElem hi, h1, h2]
          rfl
        · rw [List.getElem?_eq_none (by omega), List.getElem?_eq_none (by omega)]
          rfl
      rw [ed] at ry
      refine fun mt nm => ?_
      have nm0 := none_of s2 nm
      have s3 : Same H2 (upd H2 mt (.dK [])) := Same.new nm
      have hm3 : (upd H2 mt (.dK [])) mt = some (.dK (kvI [])) := upd_same
      generalize upd H2 mt (.dK []) = H3 at s3 hm3 ⊢
      have hs2 : H2 a = some (.lst (iL ss)) ∨ SqT K H2 a (iL ss) := hs.imp (fun z => s2 _ _ z) fun z => (Ex.same s2).tup z
      -- the loop over the starts
      refine tFor_seq (K := K) (H0 := H2) (a := a) (xs := iL ss) (fun Q z => ⟨_, rfl, z⟩) hs2 (fun i σ G => ∃ (m : List Nat) (g4 g5 : Option V), σ = [some (.ref x), some (.ref a), some (.ref D0), some (.ref mt), g4, g5, none] ∧ Same H2 G ∧ G mt = some (.dK (kvI m)) ∧ Bel (kd ns) ns.length (ss.take i) m) ?_ ?_ ?_ ?_
      · exact ⟨[], none, none, rfl, s3, hm3, .nil, fun i => by simp, fun i hi => by cases hi⟩
      · rintro i σ G ⟨m, g4, g5, _, s, _⟩
        exact s
      · rintro i y σ G hy ⟨m, g4, g5, rfl, s, hm, bl⟩
        unfold iL at hy
        rw [List.getElem?_map] at hy
        obtain ⟨r, hr0, rfl⟩ := Option.map_eq_some_iff.mp hy
        have hrl := hss r (List.mem_of_getElem? hr0)
        refine ⟨_, rfl, _, rfl, D0, ys, ns.map gk, r, rfl, SqL.of (s _ _ hD), RddAll.ex (Ex.same s) _ ry, ksOk_of hg, by rw [List.length_map]; exact hrl, by rw [List.length_map]; exact hn, fun o p G1 fw nd lt s4 np hp => ?_⟩
        rw [ksF_kd] at fw
        have lt' : ∀ i ∈ o, i < ns.length := fun i hi => by
          have := lt i hi
          rwa [List.length_map] at this
        have pm : mt ≠ p := ne_of_none hm np
        refine ⟨p, rfl, ⟨_, SqL.of hp⟩, ?_⟩
        refine for_list (xs := iL o) (fun t σ G2 => ∃ (m2 : List Nat) (g5 : Option V), σ = [some (.ref x), some (.ref a), some (.ref D0), some (.ref mt), some (.int (r : Nat)), g5, none] ∧ Same H2 G2 ∧ G2 mt = some (.dK (kvI m2)) ∧ G2 p = some (.lst (iL o)) ∧ m2.Nodup ∧ ∀ i, i ∈ m2 ↔ i ∈ m ∨ i ∈ o.take t) ?_ ?_ ?_ ?_
        · exact ⟨m, g5, rfl, s.trans s4, s4 _ _ hm, hp, bl.nd, fun i => by simp⟩
        · rintro t σ G2 _ ⟨m2, g5, _, _, _, h, _⟩
          exact SqL.of h
        · rintro t y σ G2 hy ⟨m2, g5, rfl, s5, hm5, hp5, nd5, mem5⟩
          unfold iL at hy
          rw [List.getElem?_map] at hy
          obtain ⟨u, hu0, rfl⟩ := Option.map_eq_some_iff.mp hy
          have lm : m2.length ≤ ns.length := nd_len' nd5 fun i hi => ((mem5 i).mp hi).elim (bl.lt i) fun z => lt' i (List.mem_of_mem_take z)
          refine ⟨_, rfl, _, rfl, mt, _, rfl, DPut.k (k := Sum.inl ((u : Nat) : Int)) hm5 (by rw [kvI_len]; omega), ?_⟩
          rw [kvI_ins]
          refine ⟨insN m2 u, _, rfl, jr_same.put s5 nm, upd_same, by rw [upd_ne (Ne.symm pm)]; exact hp5, insN_nodup nd5, fun i => ?_⟩
          rw [insN_mem, mem5, mem_take1 hu0, or_assoc]
        · rintro σ G2 ⟨m2, g5, rfl, s5, hm5, _, nd5, mem5⟩
          have mem6 : ∀ i, i ∈ m2 ↔ i ∈ m ∨ i ∈ o := fun i => by
            have := mem5 i
            rwa [show (iL o).length = o.length from List.length_map .., List.take_length] at this
          refine ⟨m2, _, _, rfl, s5, hm5, nd5, fun i => ?_, fun i hi => ((mem6 i).mp hi).elim (bl.lt i) (lt' i)⟩
          rw [mem6, bl.mem, fw_rc fw]
          constructor
          · rintro (⟨s, h1, h2⟩ | h)
            · exact ⟨s, (mem_take1 hr0).mpr (.inl h1), h2⟩
            · exact ⟨r, (mem_take1 hr0).mpr (.inr rfl), h⟩
          · rintro ⟨s, h1, h2⟩
            rcases (mem_take1 hr0).mp h1 with h1 | rfl
            · exact .inl ⟨s, h1, h2⟩
            · exact .inr h2
      · rintro σ G ⟨m, g4, g5, rfl, s, hm, bl⟩
        rw [show (iL ss).length = ss.length from List.length_map .., List.take_length] at bl
        refine ⟨_, rfl, mt, _, rfl, hm, fun p np => ?_⟩
        refine q m p _ bl ((s2.trans s).trans (Same.new np)) (none_of (s2.trans s) np) ?_
        have e : (kvI m).map (fun kv => kV kv.1) = iL m := by
          unfold kvI iL
          rw [List.map_map]
          rfl
        rw [e]
        exact upd_same
end
end Sl

set_option Elab.async false
set_option linter.all false
set_option maxRecDepth 100000
set_option maxHeartbeats 400000
/-! ## Needs by rounds -/
namespace Sl
open PySem PySem.Spec PyProof.Rows L2
def rowAt (X : List (List Nat)) (i : Nat) : List Nat := X.getD i []
theorem rowAt_get {X : List (List Nat)} {i : Nat} {r : List Nat} (h : X[i]? = some r) : rowAt X i = r := by
  unfold rowAt
  rw [List.getD_eq_getElem?_getD, h]
  rfl
theorem rowAt_set {X : List (List Nat)} {i : Nat} {r : List Nat} (h : i < X.length) (j : Nat) : rowAt (X.set i r) j = if i = j then r else rowAt X j := by
  unfold rowAt
  rw [List.getD_eq_getElem?_getD, List.getD_eq_getElem?_getD]
  by_cases e : i = j
  · subst e
    rw [List.getElem?_set_self h, if_pos rfl]
    rfl
  · rw [List.getElem?_set_ne e, if_neg e]
/-- f is in the row that node i gets from the rows X -/
def Fm (ns : List GN) (X : List (List Nat)) (i f : Nat) : Prop := match nAt ns i with
  | .V g => f = g
  | .F c => f ∈ rowAt X c ∧ f ≠ i
  | .W _ cs => ∃ c ∈ cs, f ∈ rowAt X c
theorem Fm.mono {ns : List GN} {X Y : List (List Nat)} (h : ∀ j f, f ∈ rowAt X j → f ∈ rowAt Y j) {i f : Nat} (x : Fm ns X i f) : Fm ns Y i f := by
  unfold Fm at x ⊢
  split at x
  · exact x
  · exact ⟨h _ _ x.1, x.2⟩
  · obtain ⟨c, hc, hf⟩ := x
    exact ⟨c, hc, h _ _ hf⟩
/-- a round that began with X0 has come to X, i nodes are through -/
structure Swp (ns : List GN) (X0 X : List (List Nat)) (i : Nat) : Prop where
  len : X.length = ns.length
  asc : ∀ j, (rowAt X j).Pairwise (· < ·)
  snd : ∀ j f, j < ns.length → f ∈ rowAt X j → ∃ v, ns[v]? = some (.V f) ∧ Nd ns f v j
  mono : ∀ j f, j < ns.length → f ∈ rowAt X j → Fm ns X j f
  sub : ∀ j f, f ∈ rowAt X0 j → f ∈ rowAt X j
  done : ∀ j, j < i → ∀ f, Fm ns X0 j f → f ∈ rowAt X j
theorem rowAt_over {X : List (List Nat)} {j : Nat} (h : X.length ≤ j) : rowAt X j = [] := by
  unfold rowAt
  rw [List.getD_eq_getElem?_getD, List.getElem?_eq_none h]
  rfl
/-- owners are functions -/
def Own (ns : List GN) : Prop := ∀ v f : Nat, ns[v]? = some (.V f) → ∃ c, ns[f]? = some (.F c)
theorem Swp.start {ns : List GN} {X0 X : List (List Nat)} {i : Nat} (h : Swp ns X0 X i) : Swp ns X X 0 := ⟨h.len, h.asc, h.snd, h.mono, fun _ _ x => x, fun j hj => by omega⟩
theorem swp_nil (ns : List GN) : Swp ns (ns.map fun _ => []) (ns.map fun _ => []) 0 := by
  have e : ∀ j, rowAt (ns.map fun _ => ([] : List Nat)) j = [] := fun j => by
    unfold rowAt
    rw [List.getD_eq_getElem?_getD, List.getElem?_map]
    cases ns[j]? <;> rfl
  exact ⟨List.length_map .., (fun j => by rw [e]; exact .nil), (fun j f _ h => by rw [e] at h; cases h), (fun j f _ h => by rw [e] at h; cases h), (fun j f h => h), (fun j hj => by omega)⟩
theorem Swp.step {ns : List GN} {X0 X : List (List Nat)} {i : Nat} {r : List Nat} (h : Swp ns X0 X i) (ow : Own ns) (hi : i < ns.length) (ra : r.Pairwise (· < ·)) (rm : ∀ f, f ∈ r ↔ Fm ns X i f) : Swp ns X0 (X.set i r) (i + 1) := by
  have hil : i < X.length := by rw [h.len]; exact hi
  have up : ∀ j f, f ∈ rowAt X j → f ∈ rowAt (X.set i r) j := fun j f hf => by
    rw [rowAt_set hil]
    by_cases e : i = j
    · subst e
      rw [if_pos rfl]
      exact (rm f).mpr (h.mono i f hi hf)
    · rw [if_neg e]
      exact hf
  refine ⟨by rw [List.length_set]; exact h.len, fun j => ?_, fun j f hj hf => ?_, fun j f hj hf => ?_, fun j f hf => up j f (h.sub j f hf), fun j hj f hf => ?_⟩
  · rw [rowAt_set hil]
    split
    · exact ra
    · exact h.asc j
  · rw [rowAt_set hil] at hf
    by_cases e : i = j
    · subst e
      rw [if_pos rfl] at hf
      have fm := (rm f).mp hf
      have hat := nAt_get hi
      unfold Fm at fm
      split at fm
      · rename_i g eg
        subst fm
        rw [eg] at hat
        exact ⟨i, hat, .var⟩
      · rename_i c ec
        rw [ec] at hat
        have hc : c < ns.length := by
          by_cases z : c < ns.length
          · exact z
          · rw [rowAt_over (by rw [h.len]; omega)] at fm
            cases fm.1
        obtain ⟨v, hv, hn⟩ := h.snd c f hc fm.1
        exact ⟨v, hv, .up hn (by rw [kd_at hat]; exact List.mem_singleton.mpr rfl) fun z => fm.2 z.symm⟩
      · rename_i x cs ec
        rw [ec] at hat
        obtain ⟨c, hcs, hfc⟩ := fm
        have hc : c < ns.length := by
          by_cases z : c < ns.length
          · exact z
          · rw [rowAt_over (by rw [h.len]; omega)] at hfc
            cases hfc
        obtain ⟨v, hv, hn⟩ := h.snd c f hc hfc
        refine ⟨v, hv, .up hn (by rw [kd_at hat]; exact hcs) fun z => ?_⟩
        obtain ⟨b, hb⟩ := ow v f hv
        rw [← z, hat] at hb
        cases hb
    · rw [if_neg e] at hf
      exact h.snd j f hj hf
  · rw [rowAt_set hil] at hf
    by_cases e : i = j
    · subst e
      rw [if_pos rfl] at hf
      exact ((rm f).mp hf).mono up
    · rw [if_neg e] at hf
      exact (h.mono j f hj hf).mono up
  · by_cases e : j = i
    · subst e
      rw [rowAt_set hil, if_pos rfl]
      exact (rm f).mpr (hf.mono h.sub)
    · exact up j f (h.done j (by omega) f hf)
/-- a round that changes nothing: the rows are those of the graph -/
theorem Swp.fin {ns : List GN} {X : List (List Nat)} (h : Swp ns X X ns.length) (i : Nat) (hi : i < ns.length) : Row ns i (rowAt X i) := by
  have full : ∀ f v, ns[v]? = some (.V f) → ∀ {j}, j < ns.length → Nd ns f v j → f ∈ rowAt X j := fun f v hv {j} hj hn => by
    induction hn with
    | var =>
      refine h.done v hj f ?_
      unfold Fm
      rw [Option.some.inj ((nAt_get hj).symm.trans hv)]
    | @up j c _ hk hne ih =>
      have hat := nAt_get hj
      rw [kd_at hat] at hk
      refine h.done j hj f ?_
      unfold Fm
      have hc : c < ns.length := by
        by_cases z : c < ns.length
        · exact z
        · rename_i hn2
          have : ∀ {k}, Nd ns f v k → k < ns.length := fun hn3 => by
            cases hn3 with
            | var => exact (List.getElem?_eq_some_iff.mp hv).1
            | up _ h3 _ =>
              unfold kd at h3
              split at h3
              · rename_i e
                exact (List.getElem?_eq_some_iff.mp e).1
              · cases h3
          exact this hn2
      cases hg : nAt ns j with
      | V g => rw [hg] at hk; cases hk
      | F c2 =>
        rw [hg] at hk
        rw [List.mem_singleton.mp hk] at ih hc
        exact ⟨ih hc, fun z => hne z.symm⟩
      | W x cs =>
        rw [hg] at hk
        exact ⟨c, hk, ih hc⟩
  exact ⟨h.asc i, fun f => ⟨fun hf => h.snd i f hi hf, fun ⟨v, hv, hn⟩ => full f v hv hi hn⟩⟩
/-! ### how long it takes -/
def sumL (X : List (List Nat)) : Nat := (X.map List.length).sum
theorem asc_sub_len : ∀ {a b : List Nat}, a.Pairwise (· < ·) → b.Pairwise (· < ·) → (∀ x ∈ a, x ∈ b) → a.length ≤ b.length ∧ (a.length = b.length → a = b)
  | [], [], _, _, _ => ⟨Nat.le_refl _, fun _ => rfl⟩
  | [], y :: b, _, _, _ => ⟨Nat.zero_le _, fun h => by cases h⟩
  | x :: a, [], _, _, h => by
    have := h x List.mem_cons_self
    cases this
  | x :: a, y :: b, ha, hb, h => by
    have ⟨a1, a2⟩ := List.pairwise_cons.mp ha
    have ⟨b1, b2⟩ := List.pairwise_cons.mp hb
    rcases Nat.lt_trichotomy x y with l | e | l
    · rcases List.mem_cons.mp (h x List.mem_cons_self) with e | m
      · omega
      · have := b1 x m
        omega
    · subst e
      have ⟨h1, h2⟩ := asc_sub_len a2 b2 fun z hz => by
        rcases List.mem_cons.mp (h z (List.mem_cons_of_mem _ hz)) with e | m
        · have := a1 z hz
          omega
        · exact m
      exact ⟨by simp only [List.length_cons]; omega, fun e => by rw [h2 (by simp only [List.length_cons] at e; omega)]⟩
    · have ⟨h1, h2⟩ := asc_sub_len (a := x :: a) (b := b) ha b2 fun z hz => by
        rcases List.mem_cons.mp (h z hz) with e | m
        · rcases List.mem_cons.mp hz with e2 | m2
          · omega
          · have := a1 z m2
            omega
        · exact m
      exact ⟨by rw [List.length_cons (as := b)]; omega, fun e => by rw [List.length_cons (as := b)] at e; omega⟩
theorem sum_grow : ∀ {X Y : List (List Nat)}, X.length = Y.length → (∀ j, (rowAt X j).Pairwise (· < ·)) → (∀ j, (rowAt Y j).Pairwise (· < ·)) → (∀ j f, f ∈ rowAt X j → f ∈ rowAt Y j) → sumL X ≤ sumL Y ∧ (sumL X = sumL Y → X = Y)
  | [], [], _, _, _, _ => ⟨Nat.le_refl _, fun _ => rfl⟩
  | [], _ :: _, h, _, _, _ => by cases h
  | _ :: _, [], h, _, _, _ => by cases h
  | a :: X, b :: Y, h, hx, hy, s => by
    have ⟨h1, h2⟩ := asc_sub_len (hx 0) (hy 0) (s 0)
    have ⟨h3, h4⟩ := sum_grow (X := X) (Y := Y) (by simpa using h) (fun j => hx (j + 1)) (fun j => hy (j + 1)) fun j => s (j + 1)
    have h1' : a.length ≤ b.length := h1
    have h2' : a.length = b.length → a = b := h2
    unfold sumL at h3 h4 ⊢
    simp only [List.map_cons, List.sum_cons]
    refine ⟨by omega, fun e => ?_⟩
    rw [h2' (by omega), h4 (by omega)]
theorem sum_le : ∀ {X : List (List Nat)} {n : Nat}, (∀ r ∈ X, r.length ≤ n) → sumL X ≤ X.length * n
  | [], _, _ => by simp [sumL]
  | a :: X, n, h => by
    have h1 := h a List.mem_cons_self
    have h2 := sum_le (X := X) (n := n) fun r hr => h r (List.mem_cons_of_mem _ hr)
    unfold sumL at h2 ⊢
    simp only [List.map_cons, List.sum_cons, List.length_cons]
    rw [Nat.succ_mul]
    omega
end Sl

set_option Elab.async false
set_option linter.all false
set_option maxRecDepth 100000
set_option maxHeartbeats 400000
/-! ## Lists of numbers as data -/
namespace Sl
open PySem PySem.Spec PyProof.Rows L2
abbrev rListOf (K : PySem.W.Frag) : List V → Hp → VK → Prop := fun xs H Q => ∃ p ys, xs = [.ref p] ∧ (SqL K H p ys ∨ SqT K H p ys) ∧ ∀ l, H l = none → Q (.ref l) (upd H l (.lst ys))
/-- a list of lists of numbers: the outer one at F, the inner ones never at F -/
def LLAt (H : Hp) (F : Addr) (X : List (List Nat)) : Prop := ∃ as : List Addr, H F = some (.lst (as.map V.ref)) ∧ as.length = X.length ∧ ∀ (i : Nat) (a : Addr), as[i]? = some a → H a = some (.lst (iL (rowAt X i))) ∧ a ≠ F
theorem LLAt.same {H H' : Hp} {F : Addr} {X : List (List Nat)} (h : LLAt H F X) (s : Same H H') : LLAt H' F X := by
  obtain ⟨as, h1, h2, h3⟩ := h
  exact ⟨as, s _ _ h1, h2, fun i a e => ⟨s _ _ (h3 i a e).1, (h3 i a e).2⟩⟩
theorem LLAt.off {H H' : Hp} {F b : Addr} {X : List (List Nat)} (h : LLAt H F X) (o : Off b H H') (n : H b = none) : LLAt H' F X := by
  obtain ⟨as, h1, h2, h3⟩ := h
  exact ⟨as, o _ _ (ne_of_none h1 n) h1, h2, fun i a e => ⟨o _ _ (ne_of_none (h3 i a e).1 n) (h3 i a e).1, (h3 i a e).2⟩⟩
/-- such a list at b that has nothing at F stays when what is at F changes -/
def LLFar (H : Hp) (F b : Addr) (X : List (List Nat)) : Prop := b ≠ F ∧ ∃ as : List Addr, H b = some (.lst (as.map V.ref)) ∧ as.length = X.length ∧ ∀ (i : Nat) (a : Addr), as[i]? = some a → H a = some (.lst (iL (rowAt X i))) ∧ a ≠ F
theorem LLFar.off {H H' : Hp} {F b : Addr} {X : List (List Nat)} (h : LLFar H F b X) (o : Off F H H') : LLFar H' F b X := by
  obtain ⟨nb, as, h1, h2, h3⟩ := h
  exact ⟨nb, as, o _ _ nb h1, h2, fun i a e => ⟨o _ _ (h3 i a e).2 (h3 i a e).1, (h3 i a e).2⟩⟩
def rowsP (X : List (List Nat)) : List PyData := X.map fun r => .list (r.map fun i => .int (i : Nat))
theorem ints_dp {K : PySem.W.Frag} {H : Hp} : ∀ l : List Nat, DpAll K H (iL l) (l.map fun i => PyData.int (i : Nat))
  | [] => .nil
  | a :: l => .cons (.int _) (ints_dp l)
theorem rows_dp {K : PySem.W.Frag} {H : Hp} {b : Addr} {X : List (List Nat)} (as : List Addr) (h1 : H b = some (.lst (as.map V.ref))) (h2 : as.length = X.length) (h3 : ∀ (i : Nat) (a : Addr), as[i]? = some a → H a = some (.lst (iL (rowAt X i)))) : Dp K H (.ref b) (.list (rowsP X)) := by
  refine .lst (SqL.of h1) ?_
  clear h1
  induction X generalizing as with
  | nil =>
    cases as with
    | nil => exact .nil
    | cons _ _ => cases h2
  | cons r X ih =>
    cases as with
    | nil => cases h2
    | cons a as => exact .cons (.lst (SqL.of (h3 0 a rfl)) (ints_dp r)) (ih as (by simpa using h2) fun i c e => h3 (i + 1) c e)
theorem eqv_ints : ∀ a b : List Nat, PyData.eqvAll (a.map fun i => PyData.int (i : Nat)) (b.map fun i => PyData.int (i : Nat)) = decide (a = b)
  | [], [] => by simp [PyData.eqvAll]
  | [], _ :: _ => by simp [PyData.eqvAll]
  | _ :: _, [] => by simp [PyData.eqvAll]
  | x :: a, y :: b => by
    rw [List.map_cons, List.map_cons, PyData.eqvAll, eqv_ints a b, PyData.eqv]
    by_cases e : x = y
    · subst e
      simp
    · have : ¬ ((x : Nat) : Int) = ((y : Nat) : Int) := fun z => e (Int.ofNat.inj z)
      simp [e, this]
theorem eqv_rows : ∀ X Y : List (List Nat), PyData.eqvAll (rowsP X) (rowsP Y) = decide (X = Y)
  | [], [] => by simp [PyData.eqvAll, rowsP]
  | [], _ :: _ => by simp [PyData.eqvAll, rowsP]
  | _ :: _, [] => by simp [PyData.eqvAll, rowsP]
  | x :: X, y :: Y => by
    have ih := eqv_rows X Y
    unfold rowsP at ih ⊢
    rw [List.map_cons, List.map_cons, PyData.eqvAll, ih, PyData.eqv, eqv_ints]
    by_cases e : x = y
    · subst e
      simp
    · simp [e]
theorem ints_lay : ∀ a : List Nat, PyData.canLayAll0 (a.map fun i => PyData.int (i : Nat)) = true ∧ PyData.depthAll (a.map fun i => PyData.int (i : Nat)) = 0
  | [] => by simp [PyData.canLayAll0, PyData.depthAll]
  | x :: a => by
    have ⟨h1, h2⟩ := ints_lay a
    rw [List.map_cons, PyData.canLayAll0, PyData.depthAll, h1, h2]
    simp [PyData.canLay0, PyData.depth]
theorem rows_lay : ∀ X : List (List Nat), PyData.canLayAll0 (rowsP X) = true ∧ PyData.depthAll (rowsP X) ≤ 1
  | [] => by simp [PyData.canLayAll0, PyData.depthAll, rowsP]
  | r :: X => by
    have ⟨h1, h2⟩ := rows_lay X
    have ⟨h3, h4⟩ := ints_lay r
    unfold rowsP at h1 h2 ⊢
    rw [List.map_cons, PyData.canLayAll0, PyData.depthAll, h1]
    simp only [PyData.canLay0, PyData.depth, h3, h4, Bool.and_true, true_and]
    omega
theorem rows_shaped (X : List (List Nat)) : SeqAt.shaped (.list (rowsP X)) = true := by
  have ⟨h1, h2⟩ := rows_lay X
  unfold SeqAt.shaped
  simp only [PyData.canLay0, PyData.depth, h1, Bool.true_and]
  exact decide_eq_true (by omega)
/-- row i is set to a new list -/
theorem LLAt.set {H : Hp} {F p : Addr} {X : List (List Nat)} {i : Nat} {r : List Nat} (h : LLAt H F X) (hp : H p = some (.lst (iL r))) (np : p ≠ F) (hi : i < X.length) : ∃ as : List Addr, H F = some (.lst (as.map V.ref)) ∧ as.length = X.length ∧ LLAt (upd H F (.lst ((as.map V.ref).set i (V.ref p)))) F (X.set i r) := by
  obtain ⟨as, h1, h2, h3⟩ := h
  refine ⟨as, h1, h2, as.set i p, by rw [List.map_set]; exact upd_same, by rw [List.length_set, List.length_set, h2], fun j a e => ?_⟩
  rw [rowAt_set hi]
  by_cases ij : i = j
  · subst ij
    rw [List.getElem?_set_self (by omega)] at e
    cases e
    rw [if_pos rfl, upd_ne np]
    exact ⟨hp, np⟩
  · rw [List.getElem?_set_ne ij] at e
    rw [if_neg ij, upd_ne (h3 j a e).2]
    exact h3 j a e
theorem inV_iL (o : Nat) (l : List Nat) : inV (.int (o : Nat)) (iL l) = decide (o ∈ l) := by
  unfold inV iL
  induction l with
  | nil => rfl
  | cons a l ih =>
    rw [List.map_cons, List.any_cons, ih]
    show ((a : Int) == (o : Int) || _) = _
    by_cases e : a = o
    · subst e
      simp
    · have h1 : ((a : Int) == (o : Int)) = false := beq_eq_false_iff_ne.mpr fun z => e (Int.ofNat.inj z)
      rw [h1, Bool.false_or]
      exact decide_eq_decide.mpr ⟨fun h => List.mem_cons_of_mem _ h, fun h => (List.mem_cons.mp h).resolve_left fun z => e z.symm⟩
theorem flat_iL (l : List Nat) : (iL l).all flatV = true := by
  unfold iL
  rw [List.all_map]
  exact List.all_eq_true.mpr fun _ _ => rfl
theorem ints_shaped (l : List Nat) : SeqAt.shaped (.list (l.map fun i => PyData.int (i : Nat))) = true := by
  have ⟨h1, h2⟩ := ints_lay l
  unfold SeqAt.shaped
  simp only [PyData.canLay0, PyData.depth, h1, h2, Bool.true_and]
  exact decide_eq_true (by omega)
theorem eqv_nil (l : List Nat) : PyData.eqv (.list (l.map fun i => PyData.int (i : Nat))) (.list []) = decide (l = []) := by
  have := eqv_ints l []
  rw [PyData.eqv]
  exact this
abbrev tupP (l : List Nat) : PyData := .tuple (l.map fun i => PyData.int (i : Nat))
theorem tup_dp {K : PySem.W.Frag} {H : Hp} {v : V} {s : List Nat} (h : Rdd K H v (.tup (iD s))) : Dp K H v (tupP s) := by
  obtain ⟨a0, xs, rfl, hs, hx, _⟩ := h.tupd'
  rw [iD_ints hx] at hs
  exact .tup hs (ints_dp s)
theorem tup_eqv (a b : List Nat) : PyData.eqv (tupP a) (tupP b) = decide (a = b) := by
  rw [PyData.eqv]
  exact eqv_ints a b
theorem tup_shaped (l : List Nat) : SeqAt.shaped (tupP l) = true := by
  have ⟨h1, h2⟩ := ints_lay l
  unfold SeqAt.shaped
  simp only [PyData.canLay0, PyData.depth, h1, h2, Bool.true_and]
  exact decide_eq_true (by omega)
end Sl

set_option Elab.async false
set_option linter.all false
set_option maxRecDepth 100000
set_option maxHeartbeats 400000
/-! ## What is reached; methods that others call -/
namespace Sl
open PySem PySem.Spec PyProof.Rows L2
open Classical in
/-- the numbers below n that are reached from a, ascending -/
noncomputable def rch (k : Nat → List Nat) (n a : Nat) : List Nat := (List.range n).filter fun j => decide (Rc k a j)
open Classical in
theorem mem_rch {k : Nat → List Nat} {n a j : Nat} : j ∈ rch k n a ↔ j < n ∧ Rc k a j := by
  unfold rch
  rw [List.mem_filter, List.mem_range, decide_eq_true_iff]
open Classical in
theorem rch_len (k : Nat → List Nat) (n a : Nat) : (rch k n a).length ≤ n := by
  unfold rch
  exact Nat.le_trans (List.length_filter_le _ _) (by rw [List.length_range]; exact Nat.le_refl _)
open Classical in
/-- a sorted list of all that is reached -/
theorem rch_srt {k : Nat → List Nat} {n a : Nat} {m : List Nat} (nd : m.Nodup) (lt : ∀ j ∈ m, j < n) (mem : ∀ j, j ∈ m ↔ Rc k a j) {ns' : List Int} (p : ns'.Perm (m.map fun i => ((i : Nat) : Int))) (s : ns'.Pairwise (· ≤ ·)) : ns'.map V.int = iL (rch k n a) := by
  have e : ns' = (rch k n a).map fun i => ((i : Nat) : Int) := by
    refine List.Perm.eq_of_pairwise (le := (· ≤ ·)) (fun a b _ _ h1 h2 => Int.le_antisymm h1 h2) s ?_ (p.trans (List.Perm.map _ ?_))
    · refine List.pairwise_map.mpr (List.Pairwise.imp (R := (· < ·)) (fun {a b} h => Int.ofNat_le.mpr (Nat.le_of_lt h)) ?_)
      exact List.Pairwise.filter _ List.pairwise_lt_range
    · refine (List.perm_ext_iff_of_nodup nd (List.Pairwise.filter _ List.nodup_range)).mpr fun j => ?_
      rw [mem]
      exact ⟨fun h => mem_rch.mpr ⟨lt j ((mem j).mpr h), h⟩, fun h => (mem_rch.mp h).2⟩
  rw [e, List.map_map]
  rfl
theorem flat_iLk (l : List Nat) : (iL l).all flatV = true := List.all_eq_true.mpr fun v hv => by
  obtain ⟨i, _, rfl⟩ := List.mem_map.mp hv
  rfl
/-- is on a ring -/
def Rng1 (k : Nat → List Nat) (a : Nat) : Prop := ∃ s ∈ k a, Rc k s a
section
variable {P : Program} {w : World} {K : PySem.W.Frag} {mg : Str → Option Value} {base : Heap} {C : Addr} {fWh fBe fNm fKd fWk fRw fPo fNd fAn : Addr} {dWh dBe dNm dKd dWk dRw dPo dNd dAn : FuncData}
variable {fPa fIn fNe fSc fWa fPt fNu : Addr} {dPa dIn dNe dSc dWa dPt dNu : FuncData} {fC fCb fB : Addr} {dC dCb dB : FuncData}
/-- the methods that the others call -/
structure Mc (K : PySem.W.Frag) (mg : Str → Option Value) (C fC fCb fB : Addr) (dC dCb dB : FuncData) : Prop where
  Ck : Me K C "check" "Graph.check" sGCheck ["self", "node"] fC dC
  FCb : Fun K "check_below" "check_below" sCheckB fCb dCb
  bCb : Binds K dCb ["value", "limit"] []
  gCb : mg "check_below" = some (.ref fCb)
  Be : Me K C "below" "Graph.below" sGBelow ["self", "starts"] fB dB
end
end Sl

set_option Elab.async false
set_option linter.all false
set_option maxRecDepth 100000
set_option maxHeartbeats 400000
/-! ## closed parts, for any nodes -/
namespace Sl
open PySem PySem.Spec PyProof.Rows L2
def FreeA (ns : List GN) (r : Nat) : Prop := ∀ f v, ns[v]? = some (.V f) → ¬ Nd ns f v r
theorem freeA_row {ns : List GN} {i : Nat} {r : List Nat} (h : Row ns i r) : r = [] ↔ FreeA ns i := by
  constructor
  · intro e f v hv hn
    have := (h.mem f).mpr ⟨v, hv, hn⟩
    rw [e] at this
    cases this
  · intro hf
    cases r with
    | nil => rfl
    | cons x r =>
      obtain ⟨v, hv, hn⟩ := (h.mem x).mp List.mem_cons_self
      exact absurd hn (hf x v hv)
/-- a walk from a root that needs nothing meets the functions of the variables that it meets -/
theorem owner_metA {ns : List GN} {o : List Nat} {r : Nat} (fr : FreeA ns r) (h : FW (kd ns) [] [r] o) {v f : Nat} (hv : v ∈ o) (e : ns[v]? = some (.V f)) : f ∈ o := by
  by_cases hf : f ∈ o
  · exact hf
  refine absurd ?_ (fr f v e)
  have ah := fw_ahead h
  have up : ∀ (n j a : Nat), j ≤ n → o[j]? = some a → Nd ns f v a → Nd ns f v r := fun n => by
    induction n with
    | zero =>
      intro j a hj ha hn
      have e0 := fw_head h
      rw [show j = 0 by omega, e0] at ha
      rw [Option.some.inj ha]
      exact hn
    | succ n ih =>
      intro j a hj ha hn
      rcases ah j a ha with e0 | ⟨i, p, h1, h2, h3⟩
      · rw [← e0]
        exact hn
      · exact ih i p (by omega) h2 (.up hn h3 fun z => hf (z ▸ List.mem_of_getElem? h2))
  obtain ⟨j, hj, e2⟩ := List.getElem_of_mem hv
  exact up j j v (Nat.le_refl _) (by rw [List.getElem?_eq_getElem hj, e2]) .var
theorem walk_closedA {ns : List GN} {o : List Nat} {r : Nat} (fr : FreeA ns r) (h : FW (kd ns) [] [r] o) (lt : ∀ i ∈ o, i < ns.length) : ∀ i ∈ o, ∀ j ∈ nums (nAt ns i), j ∈ o := fun i hi j hj => by
  have hat := nAt_get (lt i hi)
  have cl := h.closed (fun a ha => by cases ha) i hi
  rw [kd_at hat] at cl
  cases hg : nAt ns i with
  | W x cs =>
    rw [hg] at cl hj
    exact cl j hj
  | F c =>
    rw [hg] at cl hj
    exact cl j hj
  | V f =>
    rw [hg] at hj hat
    rw [List.mem_singleton.mp hj]
    exact owner_metA fr h hi hat
theorem ren_woA {ns : List GN} {o : List Nat} {r : Nat} (fr : FreeA ns r) (h : FW (kd ns) [] [r] o) (nd : o.Nodup) (lt : ∀ i ∈ o, i < ns.length) : Wo (ren ns o) := by
  have cl := walk_closedA fr h lt
  refine ⟨fun i h0 hi => ?_, fun f v hv hn => ?_⟩
  · rw [ren_len] at hi
    have hat := List.getElem?_eq_getElem hi
    rcases fw_ahead h i _ hat with e | ⟨j, p, h1, h2, h3⟩
    · have e0 := fw_head h
      obtain ⟨x1, x2⟩ := List.getElem?_eq_some_iff.mp e0
      have := (List.getElem_inj nd).mp (x2.trans e.symm)
      omega
    · refine ⟨j, h1, ?_⟩
      rw [kd_at (ren_at h2), gk_rl]
      rw [kd_at (nAt_get (lt p (List.mem_of_getElem? h2)))] at h3
      refine List.mem_map.mpr ⟨_, h3, idxOf_at nd hi⟩
  · have hvl := (List.getElem?_eq_some_iff.mp hv).1
    rw [ren_len] at hvl
    have ha := List.getElem?_eq_getElem hvl
    obtain ⟨b, hb, e⟩ := ren_var cl ha hv
    have hat := nAt_get (lt _ (List.mem_of_getElem? ha))
    rw [e] at hat
    exact fr b _ hat (ren_nd nd lt cl hn b _ r hb ha (fw_head h))
/-- what the closed part of a node holds -/
structure Cp (ns : List GN) (a : Nat) (o : List Nat) : Prop where
  fw : FW (kd ns) [] [a] o
  nd : o.Nodup
  lt : ∀ i ∈ o, i < ns.length
theorem idx_map {o : List Nat} (nd : o.Nodup) : o.map (fun j => o.idxOf j) = List.range o.length := by
  refine List.ext_getElem? fun i => ?_
  rw [List.getElem?_map]
  by_cases h : i < o.length
  · rw [List.getElem?_range h, List.getElem?_eq_getElem h]
    exact congrArg some (idxOf_at nd h)
  · rw [List.getElem?_eq_none (by omega), List.getElem?_eq_none (by rw [List.length_range]; omega)]
    rfl
end Sl

set_option Elab.async false
set_option linter.all false
set_option maxRecDepth 100000
set_option maxHeartbeats 400000
namespace Sl
open PySem PySem.Spec PyProof.Rows L2
abbrev sStream : Stmt := topT 33
abbrev sDraw : Stmt := topT 34
abbrev sPick : Stmt := topT 35
theorem scStream : FnScope ["_law_script", "_law_at", "_law_cell", "_law_great", "_law_mixed"] ["_law_script", "_law_at"] (defScope sStream) := ⟨rfl, rfl, rfl, by decide +kernel, rfl, by decide +kernel, by decide +kernel⟩
theorem scDraw : FnScope ["_law_stream_here", "_law_high", "_law_found", "_law_one", "_law_two"] ["_law_stream_here", "_law_high"] (defScope sDraw) := ⟨rfl, rfl, rfl, by decide +kernel, rfl, by decide +kernel, by decide +kernel⟩
theorem scPick : FnScope ["_law_stream_here", "_law_items"] ["_law_stream_here", "_law_items"] (defScope sPick) := ⟨rfl, rfl, rfl, by decide +kernel, rfl, by decide +kernel, by decide +kernel⟩
/-- a stream of draws stands at a -/
def Stm (a : Addr) (H : Hp) : Prop := ∃ g m c : Int, H a = some (.lst [.int g, .int m, .int c]) ∧ 0 ≤ g ∧ g.natAbs < 2 ^ 2000
theorem Stm.lst {a : Addr} {H : Hp} (h : Stm a H) : ∃ l, H a = some (.lst l) := by
  obtain ⟨g, m, c, e, _⟩ := h
  exact ⟨_, e⟩
theorem Off.ex' {a : Addr} {G G' : Hp} (h : Off a G G') (h1 : Stm a G) (h2 : Stm a G') : Ex G G' := by
  obtain ⟨l, e⟩ := h1.lst
  obtain ⟨l', e'⟩ := h2.lst
  exact h.ex e e'
theorem Stm.off {a b : Addr} {G G' : Hp} (h : Stm a G) (n : a ≠ b) (o : Off b G G') : Stm a G' := by
  obtain ⟨g, m, c, e, r⟩ := h
  exact ⟨g, m, c, o _ _ n e, r⟩
theorem Stm.same {a : Addr} {G G' : Hp} (h : Stm a G) (o : Same G G') : Stm a G' := by
  obtain ⟨g, m, c, e, r⟩ := h
  exact ⟨g, m, c, o _ _ e, r⟩
theorem op_powW {X : Cx} : OpR X (binaryOp .Pow) (rI (fun i j => 0 ≤ j ∧ (Builtin.Int.intBits i : Int) * j ≤ 2 ^ 27) fun i j => .int (i ^ j.toNat)) := opI fun _ _ _ _ _ _ _ hc q => pow_int hc.1 hc.2 q
section
variable {P : Program} {w : World} {K : PySem.W.Frag} {mg : Str → Option Value} {base : Heap}
def spDraw : Sp := fun vs H Q _ => ∃ (a : Addr) (n : Int), vs = [.ref a, .int n] ∧ Stm a H ∧ 1 ≤ n ∧ n.natAbs < 2 ^ 2000 ∧ ∀ r H', 0 ≤ r → r < n → Off a H H' → Stm a H' → Q (.int r) H'
theorem ok_draw {f : Addr} {fd : FuncData} (F : Fun K "_law_draw" "_law_draw" sDraw f fd) (B : Bt mg) : FnOk P w K mg base CX0 1 f fd ["_law_stream_here", "_law_high"] spDraw := by
  refine F.ok scDraw (fun vs H Q E h => ?_) (fun cdv A outer s H vs Q E hr h => ?_)
  · obtain ⟨a, n, rfl, _⟩ := h
    rfl
  · obtain ⟨a, n, rfl, ⟨g, m, c, ha, g0, g1⟩, n1, n2, q⟩ := h
    refine ⟨_, (pss_cons (ps_if (pt_cmpR op_gt (pe_ix ix_list (pv 0) pe_int (fun _ _ => rfl)) pe_int (nomark _))
        (pss_cons (ps_set (i := 2) scDraw.nd rfl (Or.inl rfl) (pe_op op_mod (pe_callTy call_int1 (by rfl) B.int (by decide +kernel) (pa_cons (pe_ix ix_list (pv 0) pe_int (fun _ _ => rfl)) pa_nil)) (pv 1)))
      (pss_cons (ps_asg (pe_op op_fdivW (pe_ix ix_list (pv 0) pe_int (fun _ _ => rfl)) (pv 1)) (pg_sub (pv 0) pe_int set_list))
      (pss_one (ps_ret (pv 2)))))
        pss_nil)
      (pss_cons (ps_asg (pe_op op_add (pe_ix ix_list (pv 0) pe_int (fun _ _ => rfl)) pe_int) (pg_sub (pv 0) pe_int set_list))
      (pss_cons (ps_set (i := 3) scDraw.nd rfl (Or.inl rfl) (pe_op op_mod (pe_callTy call_int1 (by rfl) B.int (by decide +kernel) (pa_cons (pe_op op_add (pe_ix ix_list (pv 0) pe_int (fun _ _ => rfl)) (pe_op op_mul pe_int (pe_ix ix_list (pv 0) pe_int (fun _ _ => rfl)))) pa_nil)) pe_int))
      (pss_cons (ps_set (i := 4) scDraw.nd rfl (Or.inl rfl) (pe_op op_add (pe_op op_mul (pe_op op_mod (pe_callTy call_int1 (by rfl) B.int (by decide +kernel) (pa_cons (pe_op op_mul (pv 3) (pv 3)) pa_nil)) pe_int) (pv 3)) (pe_op op_mul pe_int (pe_ix ix_list (pv 0) pe_int (fun _ _ => rfl)))))
      (pss_cons (ps_set (i := 4) scDraw.nd rfl (Or.inl rfl) (pe_op op_mod (pe_callTy call_int1 (by rfl) B.int (by decide +kernel) (pa_cons (pv 4) pa_nil)) pe_int))
      (pss_one (ps_ret (pe_op op_mod (pe_callTy call_int1 (by rfl) B.int (by decide +kernel) (pa_cons (pe_op op_fdivW (pv 4) pe_int) pa_nil)) (pv 1))))))))), ?_⟩
    refine ⟨.ref a, rfl, a, _, 0, _, rfl, rfl, SqL.of ha, atI_nat (j := 0) rfl, _, _, rfl, rfl, _, rfl, ite2 (fun e => ?_) (fun e => ?_)⟩
    · -- a great number
      refine ⟨.ref a, rfl, a, _, 0, _, rfl, rfl, SqL.of ha, atI_nat (j := 0) rfl, .inl ⟨g, rfl, .int n, rfl, _, _, rfl, rfl, by omega, ?_⟩⟩
      refine ⟨.ref a, rfl, a, _, 0, _, rfl, rfl, SqL.of ha, atI_nat (j := 0) rfl, .int n, rfl, _, _, rfl, rfl, wide_div (b := 2000) (by omega) n2 (by decide) (by decide), ?_⟩
      refine ⟨.ref a, rfl, a, _, 0, 0, rfl, rfl, ha, rfl, .int (g % n), rfl, ?_⟩
      refine q _ _ (Int.emod_nonneg _ (by omega)) (Int.emod_lt_of_pos _ (by omega)) .put ⟨g / n, m, c, upd_same, Int.ediv_nonneg g0 (by omega), ?_⟩
      have h1 : g / n ≤ g := Int.ediv_le_self n g0
      have h2 : 0 ≤ g / n := Int.ediv_nonneg g0 (by omega)
      omega
    · -- the walk of small numbers
      refine ⟨.ref a, rfl, a, _, 2, _, rfl, rfl, SqL.of ha, atI_nat (j := 2) rfl, _, _, rfl, rfl, .ref a, rfl, a, _, 2, 2, rfl, rfl, ha, rfl, ?_⟩
      have ha2 : (upd H a (.lst ([V.int g, .int m, .int c].set 2 (.int (c + 1))))) a = some (.lst [V.int g, .int m, .int (c + 1)]) := upd_same
      generalize hG : (upd H a (.lst ([V.int g, .int m, .int c].set 2 (.int (c + 1))))) = G at ha2 ⊢
      refine ⟨.ref a, rfl, a, _, 1, _, rfl, rfl, SqL.of ha2, atI_nat (j := 1) rfl, .ref a, rfl, a, _, 2, _, rfl, rfl, SqL.of ha2, atI_nat (j := 2) rfl, _, _, rfl, rfl, .inl (by decide), _, _, rfl, rfl, .inl ⟨_, rfl, _, _, rfl, rfl, (by show (0 : Int) < 2305843009213693951; decide), ?_⟩⟩
      dsimp only
      generalize hx : (m + 1000303 * (c + 1)) % 2305843009213693951 = x
      have x0 : 0 ≤ x := by rw [← hx]; exact Int.emod_nonneg _ (by decide)
      have x1 : x < 2305843009213693951 := by rw [← hx]; exact Int.emod_lt_of_pos _ (by decide)
      refine ⟨.int x, rfl, .int x, rfl, _, _, rfl, rfl, .inl (by omega), .inl ⟨_, rfl, _, _, rfl, rfl, (by show (0 : Int) < 2305843009213693921; decide), ?_⟩⟩
      refine ⟨.int x, rfl, _, _, rfl, rfl, .inr (by omega), .ref a, rfl, a, _, 2, _, rfl, rfl, SqL.of ha2, atI_nat (j := 2) rfl, _, _, rfl, rfl, .inl (by decide), _, _, rfl, rfl, ?_⟩
      dsimp only
      generalize (x * x) % 2305843009213693921 * x + 6911 * (c + 1) = y
      refine ⟨.int y, rfl, .inl ⟨_, rfl, _, _, rfl, rfl, (by show (0 : Int) < 2305843009213693907; decide), ?_⟩⟩
      dsimp only
      generalize y % 2305843009213693907 = z
      refine ⟨.int z, rfl, _, _, rfl, rfl, wide_div (b := 14) (by decide) (by decide) (by decide) (by decide), .inl ⟨_, rfl, .int n, rfl, _, _, rfl, rfl, by omega, ?_⟩⟩
      subst hG
      exact q _ _ (Int.emod_nonneg _ (by omega)) (Int.emod_lt_of_pos _ (by omega)) .put ⟨g, m, c + 1, upd_same, g0, g1⟩
theorem sqL_off {a l : Addr} {G G' : Hp} {xs : List V} (h : SqL K G l xs) (n : l ≠ a) (o : Off a G G') : SqL K G' l xs := by
  rcases h with (h | ⟨ob, h⟩) | h
  · exact .inl (.inl (o _ _ n h))
  · exact .inl (.inr ⟨ob, o _ _ n h⟩)
  · exact .inr h
theorem small_big {n : Nat} (h : n ≤ 100000) : n < 2 ^ 2000 := Nat.lt_of_le_of_lt h (Nat.lt_of_lt_of_le (by decide : 100000 < 2 ^ 20) (Nat.pow_le_pow_right (by decide) (by decide)))
def spPick (K : PySem.W.Frag) : Sp := fun vs H Q _ => ∃ (a l : Addr) (xs : List V), vs = [.ref a, .ref l] ∧ Stm a H ∧ l ≠ a ∧ SqL K H l xs ∧ 1 ≤ xs.length ∧ xs.length ≤ 100000 ∧
  ∀ (i : Nat) x H', xs[i]? = some x → Off a H H' → Stm a H' → Q x H'
theorem ok_pick {f fD : Addr} {fd fdD : FuncData} (F : Fun K "_law_pick" "_law_pick" sPick f fd) (FD : Fun K "_law_draw" "_law_draw" sDraw fD fdD) (bD : Binds K fdD ["_law_stream_here", "_law_high"] []) (gD : mg "_law_draw" = some (.ref fD)) (B : Bt mg) :
    FnOk P w K mg base CX0 2 f fd ["_law_stream_here", "_law_items"] (spPick K) := by
  have GD : FnOk P w K mg base CX0 1 fD fdD ["_law_stream_here", "_law_high"] spDraw := ok_draw FD B
  refine F.ok scPick (fun vs H Q E h => ?_) (fun cdv A outer s H vs Q E hr h => ?_)
  · obtain ⟨a, l, xs, rfl, _⟩ := h
    rfl
  · obtain ⟨a, l, xs, rfl, hs, hne, hl, z1, z2, q⟩ := h
    refine ⟨_, (pss_one (ps_ret (pe_ix ix_list (pv 1) (pe_call GD hr (by rfl) gD FD.kp bD .nil pass0 (pa_cons (pv 0) (pa_cons (pe_callB call_len_seq (by rfl) B.len PySem.boot_len (pa_cons (pv 1) pa_nil)) pa_nil))) (fun _ _ => rfl)))), ?_⟩
    refine ⟨.ref l, rfl, .ref a, rfl, .ref l, rfl, l, xs, rfl, .inl hl, a, _, rfl, hs, by omega, ?_, fun r H' r0 r1 ho hs' => ?_⟩
    · exact small_big z2
    · have hlt : r.toNat < xs.length := by omega
      have e : xs[r.toNat]? = some xs[r.toNat] := List.getElem?_eq_getElem hlt
      refine ⟨l, xs, r, xs[r.toNat], rfl, rfl, sqL_off hl hne ho, ?_, q r.toNat _ H' e ho hs'⟩
      have h1 := atI_nat e
      rw [Int.toNat_of_nonneg r0] at h1
      exact h1
/-- the great number that cuts what a cell brings -/
def big : Int := ((10 : Int) ^ (60 : Int).toNat) ^ (10 : Int).toNat
theorem big_pos : 0 < big := by decide +kernel
theorem big_lt : big.natAbs < 2 ^ 2000 := by decide +kernel
def spStream (K : PySem.W.Frag) : Sp := fun vs H Q _ => ∃ (a : Addr) (ns : List Int) (i : Nat), vs = [.ref a, .int i] ∧ SqL K H a (ns.map V.int) ∧ ∀ p H', H p = none → Same H H' → Stm p H' → Q (.ref p) H'
theorem ok_stream {f : Addr} {fd : FuncData} (F : Fun K "_law_stream" "_law_stream" sStream f fd) (B : Bt mg) : FnOk P w K mg base CX0 1 f fd ["_law_script", "_law_at"] (spStream K) := by
  refine F.ok scStream (fun vs H Q E h => ?_) (fun cdv A outer s H vs Q E hr h => ?_)
  · obtain ⟨a, ns, i, rfl, _⟩ := h
    rfl
  · obtain ⟨a, ns, i, rfl, ha, q⟩ := h
    refine ⟨_, (pss_cons (ps_set (i := 2) scStream.nd rfl (Or.inl rfl) (pe_op op_add (pe_op op_mul pe_int (pv 1)) pe_int))
      (C8.pss_cut (ps_if (pt_cmpR op_lt (pv 1) (pe_callB call_len_seq (by rfl) B.len PySem.boot_len (pa_cons (pv 0) pa_nil)) (nomark _))
        (pss_one (ps_set (i := 2) scStream.nd rfl (Or.inl rfl) (pe_ix ix_list (pv 0) (pv 1) (fun _ _ => rfl))))
        pss_nil)
      (pss_cons (ps_set (i := 3) scStream.nd rfl (Or.inl rfl) (pe_op op_mod (pe_callTy call_int1 (by rfl) B.int (by decide +kernel) (pa_cons (pe_callB call_abs (by rfl) B.abs (by decide +kernel) (pa_cons (pv 2) pa_nil)) pa_nil)) (pe_op op_powW (pe_op op_powW pe_int pe_int) pe_int)))
      (pss_cons (ps_set (i := 4) scStream.nd rfl (Or.inl rfl) (pe_op op_add (pe_op op_add (pe_op op_add (pe_op op_mul (pe_op op_mod (pe_callTy call_int1 (by rfl) B.int (by decide +kernel) (pa_cons (pv 3) pa_nil)) pe_int) pe_int) (pe_op op_mul pe_int (pv 1))) (pe_op op_mul pe_int (pe_callTy call_int1 (by rfl) B.int (by decide +kernel) (pa_cons (pe_cmpR op_lt (pv 2) pe_int (nomark _)) pa_nil)))) pe_int))
      (pss_one (ps_ret (pe_lst (pa_cons (pe_callB (call_max2 rfl) (by rfl) B.max (by decide +kernel) (pa_cons pe_int (pa_cons (pe_op op_sub (pv 3) (pe_op op_pow pe_int pe_int)) pa_nil))) (pa_cons (pe_op op_mod (pe_callTy call_int1 (by rfl) B.int (by decide +kernel) (pa_cons (pv 4) pa_nil)) pe_int) (pa_cons pe_int pa_nil)))))))))), ?_⟩
    refine ⟨.int i, rfl, _, _, rfl, rfl, .inl (by decide), _, _, rfl, rfl, fun σ' H' => ∃ c : Int, σ' = [some (.ref a), some (.int i), some (.int c), none, none] ∧ H' = H, ?_, ?_⟩
    rotate_left
    · rintro σ' H' ⟨c, rfl, rfl⟩
      refine ⟨.int c, rfl, c, rfl, .inl ⟨_, rfl, _, _, rfl, rfl, ⟨by decide, by decide +kernel⟩, _, _, rfl, rfl, ⟨by decide, by decide +kernel⟩, _, _, rfl, rfl, big_pos, ?_⟩⟩
      dsimp only
      rw [show ((10 : Int) ^ (60 : Int).toNat) ^ (10 : Int).toNat = big from rfl]
      generalize hg : (if c < 0 then -c else c) % big = g
      have g0 : 0 ≤ g := by rw [← hg]; exact Int.emod_nonneg _ (Int.ne_of_gt big_pos)
      have g1 : g < big := by rw [← hg]; exact Int.emod_lt_of_pos _ big_pos
      refine ⟨.int g, rfl, .inl ⟨g, rfl, _, _, rfl, rfl, (by show (0 : Int) < 2147483423; decide), _, _, rfl, rfl, .inr (by decide), .int i, rfl, _, _, rfl, rfl, .inl (by decide), _, _, rfl, rfl, ?_⟩⟩
      refine ⟨.int c, rfl, _, _, rfl, rfl, .inr ⟨_, rfl, _, _, rfl, rfl, .inl (by decide), _, _, rfl, rfl, _, _, rfl, rfl, ?_⟩⟩
      dsimp only
      generalize ((g % 2147483423 * 45121 + 2017 * (i : Int) + 5 * (if decide (c < 0) = true then 1 else 0)) + 23 : Int) = m
      refine ⟨.int g, rfl, _, _, rfl, rfl, ⟨by decide, by decide, by decide⟩, _, _, rfl, rfl, _, _, rfl, .int m, rfl, .inl ⟨m, rfl, _, _, rfl, rfl, (by show (0 : Int) < 2147483399; decide), (by show 3 ≤ sizeLine; decide), fun p np => ?_⟩⟩
      refine q p _ np (Same.new np) ⟨_, _, _, upd_same, ?_, ?_⟩
      · split <;> omega
      · have hb := big_lt
        have h18 : 0 ≤ (10 : Int) ^ (18 : Int).toNat := by decide +kernel
        split <;> omega
    refine ⟨.int i, rfl, .ref a, rfl, a, _, rfl, .inl ha, _, _, rfl, rfl, _, rfl, ite2 (fun e => ?_) (fun e => ?_)⟩
    · have h1 : i < ns.length := by
        have := of_decide_eq_true e
        rw [List.length_map] at this
        omega
      have h2 : (ns.map V.int)[i]? = some (.int ns[i]) := by
        rw [List.getElem?_map, List.getElem?_eq_getElem h1]
        rfl
      exact ⟨.ref a, rfl, .int i, rfl, a, _, i, _, rfl, rfl, ha, atI_nat h2, _, rfl, rfl⟩
    · exact ⟨_, rfl, rfl⟩
end
end Sl


set_option Elab.async false
set_option linter.all false
set_option maxRecDepth 100000
set_option maxHeartbeats 400000
/-! ## names are plain texts -/
namespace Sl
open PySem PySem.Spec PyProof.Rows L2
theorem idx_first {α : Type} [BEq α] [LawfulBEq α] {x : α} : ∀ {l : List α} {j : Nat}, j < l.idxOf x → l[j]? = some x → False
  | [], j, h, _ => by simp at h
  | a :: l, j, h, e => by
    rw [List.idxOf_cons] at h
    by_cases z : a = x
    · rw [beq_iff_eq.mpr z] at h
      simp at h
    · rw [beq_eq_false_iff_ne.mpr z] at h
      simp only [cond_false] at h
      cases j with
      | zero => exact z (Option.some.inj e)
      | succ j => exact idx_first (x := x) (l := l) (j := j) (by omega) (by simpa using e)
theorem nm_ascii {x : Str} (h : nmOk x = true) : Txt.isascii x = true := by
  unfold nmOk nmTail at h
  simp only [Bool.and_eq_true] at h
  exact h.2.1
theorem nm_strOk {x : Str} (h : nmOk x = true) : PyData.strOk x = true := by
  have a := nm_ascii h
  unfold Txt.isascii at a
  unfold PyData.strOk
  rw [Array.all_eq_true] at a ⊢
  intro i hi
  have := a i hi
  simp only [decide_eq_true_eq] at this ⊢
  omega
theorem flat_iL' (l : List Nat) : (iL l).all flatV = true := List.all_eq_true.mpr fun v hv => by
  unfold iL at hv
  obtain ⟨x, _, rfl⟩ := List.mem_map.mp hv
  rfl
theorem eqV_int (e : Nat) : eqV (.int (e : Nat)) (.int (e : Nat)) = true := by
  show ((e : Int) == (e : Int)) = true
  exact beq_self_eq_true _
theorem eqV_int_ne {x y : Nat} (h : ¬ x = y) : eqV (.int (x : Nat)) (.int (y : Nat)) = false := by
  show ((x : Int) == (y : Int)) = false
  exact beq_eq_false_iff_ne.mpr fun z => h (Int.ofNat.inj z)
theorem of_ints {K : PySem.W.Frag} {H : Hp} : ∀ p : List Nat, RddAll K H (p.map fun i => V.int (i : Nat)) (p.map fun i => D.int (i : Nat))
  | [] => .nil
  | i :: p => .cons (.int _) (of_ints p)
theorem idx_at {α : Type} [BEq α] [LawfulBEq α] {l : List α} {x : α} (h : x ∈ l) : l[l.idxOf x]? = some x := by
  have hl := List.idxOf_lt_length_iff.mpr h
  rw [List.getElem?_eq_getElem hl, List.getElem_idxOf]
end Sl

set_option Elab.async false
set_option linter.all false
set_option maxRecDepth 100000
set_option maxHeartbeats 400000
/-! ## Nodes as data, in a list or a tuple -/
namespace Sl
open PySem PySem.Spec PyProof.Rows L2
def ndP : GN → PyData
  | .W x cs => .tuple [.str "word", .str x, .tuple (cs.map fun i => .int (i : Nat))]
  | .F c => .tuple [.str "fun", .int (c : Nat)]
  | .V f => .tuple [.str "var", .int (f : Nat)]
theorem nd_dp {K : PySem.W.Frag} {H : Hp} {v : V} {g : GN} (h : Rdd K H v (ndD g)) : Dp K H v (ndP g) := by
  cases g with
  | W x cs =>
    obtain ⟨a0, xs, rfl, hs, hx, _⟩ := h.tupd'
    obtain ⟨x1, x2, x3, rfl, r1, r2, r3⟩ := hx.trip
    cases r1
    cases r2
    obtain ⟨c0, ys, rfl, hc, hy, _⟩ := r3.tupd'
    rw [iD_ints hy] at hc
    exact .tup hs (.cons (.str _) (.cons (.str _) (.cons (.tup hc (ints_dp cs)) .nil)))
  | F c =>
    obtain ⟨a0, xs, rfl, hs, hx, _⟩ := h.tupd'
    obtain ⟨x1, x2, rfl, r1, r2⟩ := hx.pair
    cases r1
    cases r2
    exact .tup hs (.cons (.str _) (.cons (.int _) .nil))
  | V f =>
    obtain ⟨a0, xs, rfl, hs, hx, _⟩ := h.tupd'
    obtain ⟨x1, x2, rfl, r1, r2⟩ := hx.pair
    cases r1
    cases r2
    exact .tup hs (.cons (.str _) (.cons (.int _) .nil))
theorem sOk (x : Str) (h : PyData.strOk x = true) : PyData.canLay0 (.str x) = true := by
  simp only [PyData.canLay0]
  exact h
theorem tag_ok : PyData.strOk ("word" : Str) = true ∧ PyData.strOk ("fun" : Str) = true ∧ PyData.strOk ("var" : Str) = true := ⟨by decide +kernel, by decide +kernel, by decide +kernel⟩
theorem nds_dp {K : PySem.W.Frag} {H : Hp} : ∀ {ns : List GN} {us : List V}, RddAll K H us (ns.map ndD) → DpAll K H us (ns.map ndP)
  | [], _, h => by
    cases h
    exact .nil
  | g :: ns, _, h => by
    cases h with
    | cons h t => exact .cons (nd_dp h) (nds_dp t)
theorem nds_lay {n : Nat} : ∀ {ns : List GN}, (∀ g ∈ ns, Rng n g) → PyData.canLayAll0 (ns.map ndP) = true ∧ PyData.depthAll (ns.map ndP) ≤ 2
  | [], _ => by simp [PyData.canLayAll0, PyData.depthAll]
  | g :: ns, h => by
    have ⟨h1, h2⟩ := nds_lay (ns := ns) fun x hx => h x (List.mem_cons_of_mem _ hx)
    obtain ⟨t1, t2, t3⟩ := tag_ok
    have hg := h g List.mem_cons_self
    rw [List.map_cons, PyData.canLayAll0, PyData.depthAll, h1]
    cases g with
    | W x cs =>
      have ⟨h3, h4⟩ := ints_lay cs
      simp only [ndP, PyData.canLay0, PyData.canLayAll0, PyData.depth, PyData.depthAll, h3, h4, t1, nm_strOk hg.1]
      exact ⟨rfl, by omega⟩
    | F c =>
      simp only [ndP, PyData.canLay0, PyData.canLayAll0, PyData.depth, PyData.depthAll, t2]
      exact ⟨rfl, by omega⟩
    | V f =>
      simp only [ndP, PyData.canLay0, PyData.canLayAll0, PyData.depth, PyData.depthAll, t3]
      exact ⟨rfl, by omega⟩
theorem nds_tup {n : Nat} {ns : List GN} (h : ∀ g ∈ ns, Rng n g) : SeqAt.shaped (.tuple (ns.map ndP)) = true ∧ PyData.eqv (.tuple (ns.map ndP)) (.tuple (ns.map ndP)) = true := by
  have ⟨h1, h2⟩ := nds_lay h
  refine ⟨?_, SeqAt.eqv_refl _ (by simp only [PyData.canLay0]; exact h1)⟩
  unfold SeqAt.shaped
  simp only [PyData.canLay0, PyData.depth, h1, Bool.true_and]
  exact decide_eq_true (by omega)
theorem nds_lst {n : Nat} {ns : List GN} (h : ∀ g ∈ ns, Rng n g) : SeqAt.shaped (.list (ns.map ndP)) = true ∧ PyData.eqv (.list (ns.map ndP)) (.list (ns.map ndP)) = true := by
  have ⟨h1, h2⟩ := nds_lay h
  refine ⟨?_, SeqAt.eqv_refl _ (by simp only [PyData.canLay0]; exact h1)⟩
  unfold SeqAt.shaped
  simp only [PyData.canLay0, PyData.depth, h1, Bool.true_and]
  exact decide_eq_true (by omega)
theorem nds_tdp {K : PySem.W.Frag} {H : Hp} {v : V} {ns : List GN} (h : Rdd K H v (.tup (ns.map ndD))) : Dp K H v (.tuple (ns.map ndP)) := by
  obtain ⟨a0, xs, rfl, hs, hx, _⟩ := h.tupd'
  exact .tup hs (nds_dp hx)
/-- nodes in a list or a tuple -/
def SqN (K : PySem.W.Frag) (H : Hp) (v : V) (ns : List GN) : Prop := ∃ (a : Addr) (us : List V), v = .ref a ∧ (H a = some (.lst us) ∨ SqT K H a us) ∧ RddAll K H us (ns.map ndD)
theorem SqN.same {K : PySem.W.Frag} {H H' : Hp} {v : V} {ns : List GN} (h : SqN K H v ns) (s : Same H H') : SqN K H' v ns := by
  obtain ⟨a, us, h1, h2, h3⟩ := h
  exact ⟨a, us, h1, h2.imp (fun z => s _ _ z) fun z => (Ex.same s).tup z, RddAll.ex (Ex.same s) _ h3⟩
theorem SqN.tup {K : PySem.W.Frag} {H : Hp} {v : V} {ns : List GN} (h : Rdd K H v (.tup (ns.map ndD))) : SqN K H v ns := by
  obtain ⟨a0, xs, rfl, hs, hx, _⟩ := h.tupd'
  exact ⟨a0, xs, rfl, .inr hs, hx⟩
/-- nodes[i] -/
theorem SqN.ix {K : PySem.W.Frag} {H : Hp} {v : V} {ns : List GN} {i : Nat} {Q : VK} (h : SqN K H v ns) (hi : i < ns.length) (q : ∀ y, Rdd K H y (ndD (nAt ns i)) → Q y H) : rIx K v (.int (i : Nat)) H Q := by
  obtain ⟨a, us, rfl, h2, h3⟩ := h
  obtain ⟨y, hy, ry⟩ := h3.at (i := i) (d := ndD (nAt ns i)) (by rw [List.getElem?_map, nAt_get hi]; rfl)
  rcases h2 with h2 | h2
  · exact .inl ⟨a, us, ((i : Nat) : Int), y, rfl, rfl, SqL.of h2, atI_nat hy, q y ry⟩
  · exact .inr (.inl ⟨a, us, ((i : Nat) : Int), y, rfl, rfl, h2, atI_nat hy, q y ry⟩)
/-- len(nodes) -/
theorem SqN.len {K : PySem.W.Frag} {H : Hp} {v : V} {ns : List GN} (h : SqN K H v ns) : ∃ (a : Addr) (us : List V), v = .ref a ∧ (SqL K H a us ∨ SqT K H a us) ∧ us.length = ns.length := by
  obtain ⟨a, us, rfl, h2, h3⟩ := h
  exact ⟨a, us, rfl, h2.imp SqL.of id, by rw [h3.length, List.length_map]⟩
/-- a walk to all that is reached from a, so far -/
structure Wk (k : Nat → List Nat) (n a : Nat) (m st : List Nat) : Prop where
  nd : m.Nodup
  lt : ∀ i ∈ m, i < n
  slt : ∀ i ∈ st, i < n
  sound : ∀ i, i ∈ m ∨ i ∈ st → Rc k a i
  full : ∀ i ∈ m, ∀ c ∈ k i, c ∈ m ∨ c ∈ st
  root : a ∈ m ∨ a ∈ st
theorem Wk.done {k : Nat → List Nat} {n a : Nat} {m : List Nat} (h : Wk k n a m []) (j : Nat) : j ∈ m ↔ Rc k a j := by
  refine ⟨fun z => h.sound j (.inl z), fun r => ?_⟩
  induction r with
  | here => exact h.root.elim id fun z => by cases z
  | on _ hc ih => exact (h.full _ ih _ hc).elim id fun z => by cases z
theorem eqI_nil {K : PySem.W.Frag} {H : Hp} {l p : Addr} {is : List Nat} {Q : VK} (hl : H l = some (.lst (iL is))) (hp : H p = some (.lst [])) (q : Q (.bl (!is.isEmpty)) H) : rNeD K (.ref l) (.ref p) H Q := by
  have ⟨h1, h2⟩ := ints_lay is
  refine ⟨.list (is.map fun i => .int (i : Nat)), .list [], .lst (SqL.of hl) (ints_dp is), .lst (SqL.of hp) .nil, ?_, by rfl, ?_⟩
  · unfold SeqAt.shaped
    simp only [PyData.canLay0, PyData.depth, h1, h2, Bool.true_and]
    exact decide_eq_true (by omega)
  have e : PyData.eqv (.list (is.map fun i => .int (i : Nat))) (.list []) = is.isEmpty := by
    rw [eqv_nil]
    cases is <;> simp
  rw [e]
  exact q
end Sl

set_option Elab.async false
set_option linter.all false
set_option maxRecDepth 100000
set_option maxHeartbeats 3200000
/-! ## set(xs), xs a list of ints, as a set that can be sorted -/
namespace Sl
open PySem PySem.Spec PyProof.Rows L2 PySem.W
abbrev setNew (w : World) : Obj := { cls := .type "set", dict := none, data := .set #[] 0 (.fresh 0 0 (!w.params.followText "set-order")) }
/-- the set of ns stands at a, all that stood in h stays -/
def SetIn (w : World) (h : Heap) (a : Addr) (ns : List Int) (s0 : Shared) (s' : Shared) : Prop :=
  ∃ h' tk c, s' = { s0 with heap := h', toks := tk } ∧ SetR w h' a (fun j => decide (j ∈ ns)) c ∧ c ≤ ns.length ∧ ∀ b o, h.get? b = some o → h'.get? b = some o
section
variable {P : Program} {w : World} {A : Around} {E : Value → Shared → Prop} {s : Shared}
theorem init_ints {l : Addr} {items : Array Value} (ns : List Int) (hh : A.handled = none) (hl : s.heap.IsList l items) (hit : IntsAre items.toList ns) (hb : ns.length + 1 < scanBound) :
    codeAny (model P w) A (.call (.builtin "set.__init__") ⟨[.ref s.heap.objs.size, .ref l], []⟩) (wants (fun r s' => r = .none ∧ SetIn w s.heap s.heap.objs.size ns s s') E) { s with heap := s.heap.push (setNew w) } := by
  have hisz : items.size = ns.length := by
    have q := IntsAre.length hit
    rwa [Array.length_toList] at q
  have hS : (s.heap.push (setNew w)).get? s.heap.objs.size = some (setNew w) := Heap.get?_push_size _ rfl
  have hT : Shared.TypeIs { s with heap := s.heap.push (setNew w) } (.ref s.heap.objs.size) "set" := ⟨_, hS, rfl⟩
  have hl1 : (s.heap.push (setNew w)).IsList l items := hl.push _
  have hlS : l < s.heap.objs.size := by
    obtain ⟨o, ho, _⟩ := hl
    exact Heap.lt_size ho
  have z1 : (s.heap.push (setNew w)).objs.size = s.heap.objs.size + 1 := Heap.size_push ..
  refine codeAny_call_builtin F.called_set.init.plain F.entry_set_init (check_set_init_1 hT ?_)
  obtain ⟨⟨ocls, odict, odata, oslots⟩, hol, hcl, nl, hdl⟩ := hl
  simp only at hcl hdl
  subst hcl hdl
  have hol' : (s.heap.push (setNew w)).get? l = some { cls := .type "list", dict := odict, data := .seq items nl, slots := oslots } := Heap.get?_push_of_some _ hol
  have hsls := F.sub_list_set
  have hslf := F.sub_list_frozenset
  have hne : (Value.type "list" == Value.type "dict") = false := by decide
  unfold Builtin.«set.__init__» noKeywords Builtin.Frozenset.updateFrom
  generalize hPI : pyIter = PI
  wp_walk
  subst hPI
  refine wpAny_pyIter_list hl1 ?_
  refine wpAny_bind (wpAny_runValue ?_)
  have hh3 : A.in1.in1.handled = none := by simp [hh]
  have fresh : s.heap.objs.size ∉ [(s.heap.push (setNew w)).objs.size, l] := by
    rw [z1]
    simp only [List.mem_cons, List.not_mem_nil, or_false, not_or]
    exact ⟨Nat.ne_of_lt (Nat.lt_succ_self _), Nat.ne_of_gt hlS⟩
  have hneI : l ≠ (s.heap.push (setNew w)).objs.size := by
    rw [z1]
    exact Nat.ne_of_lt (Nat.lt_succ_of_lt hlS)
  refine set_update_ints ((Walks.list hh3 _ l hneI items).toS) s.heap.objs.size fresh ns hisz hb ?hv (items.size - 0) 0 _ (by omega) (Nat.zero_le _) ⟨⟨_, Heap.get?_push_size _ rfl, rfl, rfl⟩, hl1.push _⟩ ?hS0 ?hR
  case hS0 => exact ⟨0, Nat.le_refl 0, setR_new_at (Heap.get?_push_of_some _ hS)⟩
  case hv =>
    intro i v hv
    have hi : i < ns.length := by rw [← hisz]; exact (Array.getElem?_eq_some_iff.mp hv).1
    obtain ⟨t, e⟩ := IntsAre.int_at hit i v (by rw [Array.getElem?_toList]; exact hv)
    exact ⟨ns[i], t, List.getElem?_eq_getElem hi, by rw [e, List.getD_eq_getElem?_getD, List.getElem?_eq_getElem hi] <;> rfl⟩
  case hR =>
    intro s' c hm hc hS'
    obtain ⟨h', g2, d', tk', os'⟩ := s'
    have eg : g2 = s.gens := hm.gens
    have ed : d' = s.drawn := hm.drawn
    have eo : os' = s.os := hm.os
    subst eg ed eo
    refine wpAny_pure (wpAny_pure ⟨rfl, h', tk', c, rfl, hS', by rw [← hisz]; exact hc, fun b o e => ?_⟩)
    have hb0 : b < s.heap.objs.size := Heap.lt_size e
    exact hm.heap b o (by
      rw [z1]
      simp only [List.mem_cons, List.not_mem_nil, or_false, not_or]
      exact ⟨Nat.ne_of_lt hb0, Nat.ne_of_lt (Nat.lt_succ_of_lt hb0)⟩) (Heap.get?_push_of_some _ (Heap.get?_push_of_some _ e))
theorem call_set_ints {l : Addr} {items : Array Value} (ns : List Int) {Q : Value → Shared → Prop} (hh : A.handled = none) (hl : s.heap.IsList l items) (hit : IntsAre items.toList ns) (hb : ns.length + 1 < scanBound)
    (h : ∀ s', SetIn w s.heap s.heap.objs.size ns s s' → Q (.ref s.heap.objs.size) s') : wpAny (model P w) A (call (.type "set") [.ref l]) Q E s := by
  obtain ⟨c, tl, hmro⟩ := F.called_set.mro
  have hmade := F.called_set.made
  have hsub := F.called_set.sub
  have h1 := F.called_set.notType
  have h2 := F.called_set.canCreate
  have hct := F.typeCall_set_1 (.ref l)
  have hli := F.called_set.init.lookup
  have hbi := F.called_set.init.bind (.ref s.heap.objs.size)
  have hS : (s.heap.push (setNew w)).get? s.heap.objs.size = some (setNew w) := Heap.get?_push_size _ rfl
  have hT : Shared.TypeIs { s with heap := s.heap.push (setNew w) } (.ref s.heap.objs.size) "set" := ⟨_, hS, rfl⟩
  refine wpAny_call (codeAny_of_tree (wpAny_pure ⟨Code.quiet_builtin _ (by decide +kernel), codeAny_builtin F.entry_type_call ?_⟩))
  rw [Around.under_plain (weight_type_call_type "set" [.ref l] []) rfl]
  repeat (any_goals (first | assumption | wp_step))

  refine codeAny_mono (code_set_led1 (.ref l) (E := E) (Q₁ := fun r s' => r = .ref s.heap.objs.size ∧ s' = { s with heap := s.heap.push (setNew w) }) ⟨rfl, rfl⟩) fun r s₁ hr => ?_
  cases r with
  | error e => exact hr
  | ok fl =>
    cases fl with
    | ret obj =>
      obtain ⟨rfl, rfl⟩ := hr
      repeat (any_goals (first | assumption | wp_step))

      refine codeAny_mono (init_ints (E := E) ns (by simp [hh]) hl hit hb) fun r₂ s₂ hr₂ => ?_
      cases r₂ with
      | error e => exact hr₂
      | ok fl₂ =>
        cases fl₂ with
        | ret r =>
          obtain ⟨rfl, h'⟩ := hr₂
          repeat (any_goals (first | assumption | wp_step))
          exact h _ h'
        | _ => exact hr₂.elim
    | _ => exact hr.elim
end
/-- set(e), e a list of ints -/
def rSetInts (K : Frag) (w : World) : List V → Hp → VK → Prop := fun vs H Q => ∃ (l : Addr) (ns : List Int), vs = [V.ref l] ∧ SqL K H l (ns.map V.int) ∧ ns.length ≤ 4000 ∧ ∀ p c, (∀ m : List Int, (∀ k ∈ ns, k ∈ m) → c ≤ m.length) → H p = none → Q (.ref p) (upd H p (SetO w p (fun j => decide (j ∈ ns)) c))
theorem cr_setInts {X : Cx} (hc : X.calm = true) : CallR X (.type "set") (rSetInts X.K X.w) := by
  intro pins s σ H vs us Q I r h
  obtain ⟨l, ns, rfl, hq, hz, q⟩ := h
  rw [Vals.ref1 r]
  obtain ⟨its, rv, pl, _⟩ := I.list hq
  refine call_set_ints ns (I.ok.hd hc) pl.isList (by simpa using RZ.intsAre_vals rv) (by unfold scanBound; omega) fun s' ⟨h', tk, c, e, R, hcn, k⟩ => ?_
  subst e
  have n := I.hok.fresh (Nat.le_refl s.heap.objs.size)
  have few : ∀ m : List Int, (∀ k ∈ ns, k ∈ m) → c ≤ m.length := fun m hm => by
    obtain ⟨o, es, ep, t, _, _, _, _, nd, mem, _, _, sz, _⟩ := R
    have := nd_len nd fun k hk => hm k (of_decide_eq_true ((mem k).mpr hk))
    rw [List.length_map, Array.length_toList] at this
    omega
  refine ⟨.ref s.heap.objs.size, upd H s.heap.objs.size (SetO X.w s.heap.objs.size (fun j => decide (j ∈ ns)) c), I.laid (t' := tk) k (Nat.le_refl _) (setO_new R), rfl, q _ c few n⟩
end Sl

set_option Elab.async false
set_option linter.all false
set_option maxRecDepth 100000
set_option maxHeartbeats 400000
/-! ## _law_below -/
namespace Sl
open PySem PySem.Spec PyProof.Rows L2
abbrev sLBelow : Stmt := topT 36
theorem scLBelow : FnScope ["_law_node"] ["_law_node"] (defScope sLBelow) := ⟨rfl, rfl, rfl, by decide +kernel, rfl, by decide +kernel, by decide +kernel⟩
section
variable {P : Program} {w : World} {K : PySem.W.Frag} {mg : Str → Option Value} {base : Heap}
def spLBelow (K : PySem.W.Frag) : Sp := fun vs H Q _ => ∃ (v : V) (g : GN), vs = [v] ∧ Rdd K H v (ndD g) ∧ ∀ p H', Same H H' → H p = none → H' p = some (.lst (iL (gk g))) → Q (.ref p) H'
theorem ok_lBelow {f : Addr} {fd : FuncData} (F : Fun K "_law_below" "_law_below" sLBelow f fd) (B : Bt mg) : FnOk P w K mg base CX0 1 f fd ["_law_node"] (spLBelow K) := by
  refine F.ok scLBelow (fun vs H Q E h => ?_) (fun cdv A outer s H vs Q E hr h => ?_)
  · obtain ⟨v, g, rfl, _⟩ := h
    rfl
  · obtain ⟨v, g, rfl, hv, q⟩ := h
    have sl := sizeLine_eq
    --D
    refine ⟨_, (pss_cons (ps_if (pt_cmpR op_eq (pe_ix ix_tup (pv 0) pe_int (fun _ _ => rfl)) pe_str (nomark _))
          (pss_one (ps_ret (pe_callTy call_list_of (by rfl) B.list (by decide +kernel) (pa_cons (pe_ix ix_tup (pv 0) pe_int (fun _ _ => rfl)) pa_nil)))) pss_nil)
        (pss_one (ps_ret (pe_ifExp (pt_cmpR op_eq (pe_ix ix_tup (pv 0) pe_int (fun _ _ => rfl)) pe_str (nomark _)) (pe_lst (pa_cons (pe_ix ix_tup (pv 0) pe_int (fun _ _ => rfl)) pa_nil)) (pe_lst pa_nil))))), ?_⟩
    --E
    cases g with
    | W x cs =>
      obtain ⟨a0, xs, rfl, hs, hx, _⟩ := hv.tupd'
      obtain ⟨x1, x2, x3, rfl, r1, r2, r3⟩ := hx.trip
      cases r1
      obtain ⟨c0, ys, rfl, hc, hy, _⟩ := r3.tupd'
      refine ⟨_, rfl, a0, _, (0 : Int), _, rfl, rfl, hs, atI_nat (j := 0) rfl, rfl, _, rfl, ?_⟩
      rw [str_dec, decide_eq_true rfl]
      refine iteT ⟨_, rfl, a0, _, (2 : Int), _, rfl, rfl, hs, atI_nat (j := 2) rfl, c0, ys, rfl, .inr hc, fun l nl => ?_⟩
      exact q l _ (Same.new nl) nl (by rw [iD_ints hy]; exact upd_same)
    | F c =>
      obtain ⟨a0, xs, rfl, hs, hx, _⟩ := hv.tupd'
      obtain ⟨x1, x2, rfl, r1, r2⟩ := hx.pair
      cases r1
      cases r2
      refine ⟨_, rfl, a0, _, (0 : Int), _, rfl, rfl, hs, atI_nat (j := 0) rfl, rfl, _, rfl, ?_⟩
      rw [str_dec, decide_eq_false (by decide +kernel)]
      refine iteF ⟨_, rfl, a0, _, (0 : Int), _, rfl, rfl, hs, atI_nat (j := 0) rfl, rfl, _, rfl, ?_⟩
      rw [str_dec, decide_eq_true rfl]
      refine iteT ⟨_, rfl, a0, _, (1 : Int), _, rfl, rfl, hs, atI_nat (j := 1) rfl, (by show 1 ≤ sizeLine; omega), fun l nl => ?_⟩
      exact q l _ (Same.new nl) nl upd_same
    | V f =>
      obtain ⟨a0, xs, rfl, hs, hx, _⟩ := hv.tupd'
      obtain ⟨x1, x2, rfl, r1, r2⟩ := hx.pair
      cases r1
      refine ⟨_, rfl, a0, _, (0 : Int), _, rfl, rfl, hs, atI_nat (j := 0) rfl, rfl, _, rfl, ?_⟩
      rw [str_dec, decide_eq_false (by decide +kernel)]
      refine iteF ⟨_, rfl, a0, _, (0 : Int), _, rfl, rfl, hs, atI_nat (j := 0) rfl, rfl, _, rfl, ?_⟩
      rw [str_dec, decide_eq_false (by decide +kernel)]
      refine iteF ⟨(by show 0 ≤ sizeLine; omega), fun l nl => ?_⟩
      exact q l _ (Same.new nl) nl upd_same
end
end Sl

set_option Elab.async false
set_option linter.all false
set_option maxRecDepth 100000
set_option maxHeartbeats 400000
/-! ## _law_needs: the def -/
namespace Sl
open PySem PySem.Spec PyProof.Rows L2
section
variable {P : Program} {w : World} {K : PySem.W.Frag} {mg : Str → Option Value} {base : Heap}
abbrev sLNeeds : Stmt := topT 38
theorem scLNeeds : FnScope ["_law_nodes", "_law_node", "_law_found", "_law_before", "_law_at", "_law_some", "_law_one", "_law_row", "_law_other"] ["_law_nodes"] (defScope sLNeeds) := ⟨rfl, rfl, rfl, by decide +kernel, rfl, by decide +kernel, by decide +kernel⟩
theorem fm_filter (l : List Nat) (p : Nat → Prop) [DecidablePred p] : (l.map fun f => if p f then some (V.int (f : Nat)) else none).filterMap id = iL (l.filter fun f => decide (p f)) := by
  unfold iL
  induction l with
  | nil => rfl
  | cons a l ih =>
    rw [List.map_cons]
    by_cases h : p a
    · rw [if_pos h, List.filter_cons_of_pos (by exact decide_eq_true h), List.map_cons, ← ih]
      rfl
    · rw [if_neg h, List.filter_cons_of_neg (by simp only [decide_eq_true_eq]; exact h), ← ih]
      rfl
def spLNeeds (K : PySem.W.Frag) : Sp := fun vs H Q _ => ∃ (l : Addr) (us : List V) (ns : List GN), vs = [.ref l] ∧ SqL K H l us ∧ RddAll K H us (ns.map ndD) ∧ (∀ g ∈ ns, Rng ns.length g) ∧ Own ns ∧ ns.length ≤ 60 ∧
  ∀ F H' X, Same H H' → H F = none → LLAt H' F X → RowsOk ns X → Q (.ref F) H'
theorem ok_lNeeds {f fB : Addr} {fd fdB : FuncData} (F : Fun K "_law_needs" "_law_needs" sLNeeds f fd) (FB : Fun K "_law_below" "_law_below" sLBelow fB fdB) (bB : Binds K fdB ["_law_node"] []) (gB : mg "_law_below" = some (.ref fB)) (B : Bt mg) : FnOk P w K mg base CX0 2 f fd ["_law_nodes"] (spLNeeds K) := by
  have GB : FnOk P w K mg base CX0 1 fB fdB ["_law_node"] (spLBelow K) := ok_lBelow FB B
  refine F.ok scLNeeds (fun vs H Q E h => ?_) (fun cdv A outer s H vs Q E hr h => ?_)
  · obtain ⟨l, us, ns, rfl, _⟩ := h
    rfl
  · obtain ⟨l, us, ns, rfl, hl, hus, hg, ow, hn, q⟩ := h
    have sl := sizeLine_eq
    --D
    refine ⟨_, (pss_cons (ps_par (i := 2) (j := 3) (by rfl) scLNeeds.nd rfl rfl (by decide) rfl rfl (pa_cons (pe_lc (own := [("_law_node", 1)]) (g := gName 1) (tt := tYes) (te := tLst tNil) rfl scLNeeds.nd (pi_list (pv 0)) (blkOk_by (own := [("_law_node", 1)]) (N := ["_law_nodes", "_law_node", "_law_found", "_law_before", "_law_at", "_law_some", "_law_one", "_law_row", "_law_other"]) (sc := defScope sLNeeds) (by decide +kernel)) (fun _ _ _ _ _ => pg_name (i := 1) scLNeeds.nd rfl (Or.inl rfl)) (fun _ _ _ _ _ => pts_nil) (fun _ _ _ _ _ => by exact pe_lst pa_nil)) (pa_cons pe_non pa_nil)) (by rfl))
        (pss_cons (ps_while PassesOwn.never (pt_cmpR (op_neD hr.units) (pv 2) (pv 3) (nomark _))
        (pss_cons (ps_setLc (i := 3) (own := [("_law_row", 7)]) (g := gName 7) (tt := tYes) (te := tCB (rListOf K) (tCons (tVar 7) tNil)) rfl scLNeeds.nd rfl rfl (sw_true rfl rfl rfl (by decide +kernel)) (pi_list (pv 2)) (blkOk_by (own := [("_law_row", 7)]) (N := ["_law_nodes", "_law_node", "_law_found", "_law_before", "_law_at", "_law_some", "_law_one", "_law_row", "_law_other"]) (sc := defScope sLNeeds) (by decide +kernel)) (fun _ _ _ _ _ => pg_name (i := 7) scLNeeds.nd rfl (Or.inl rfl)) (fun _ _ _ _ _ => pts_nil) (fun _ _ _ _ _ => by exact (pe_callTy call_list_of (by rfl) B.list (by decide +kernel) (pa_cons (pv 7) pa_nil))))
        (pss_one (ps_for PassesOwn.never rfl (pi_enum (by rfl) B.enum (pa_cons (pv 0) pa_nil)) (pg_tup rfl (pgs_cons (pg_name (i := 4) scLNeeds.nd rfl (Or.inr rfl)) (pgs_cons (pg_name (i := 1) scLNeeds.nd rfl (Or.inr rfl)) pgs_nil)))
          (pss_one (ps_if (pt_cmpR op_eq (pe_ix ix_tup (pv 1) pe_int (fun _ _ => rfl)) pe_str (nomark _))
          (pss_one (ps_asg (pe_lst (pa_cons (pe_ix ix_tup (pv 1) pe_int (fun _ _ => rfl)) pa_nil)) (pg_sub (pv 2) (pv 4) set_list))) (pss_cons (ps_set (i := 5) scLNeeds.nd rfl (Or.inl rfl) (pe_lst pa_nil))
        (pss_cons (ps_for PassesOwn.never rfl (pi_list (pe_call GB hr (by rfl) gB FB.kp bB .nil pass0 (pa_cons (pv 1) pa_nil))) (pg_name (i := 6) scLNeeds.nd rfl (Or.inl rfl))
          (pss_one (ps_expr (pe_bm PySem.F.plainAttrs_list PySem.F.slot_list_extend PySem.F.type_list_extend mt_extend (pv 5) (pa_cons (pe_lc (own := [("_law_other", 8)]) (g := gName 8) (tt := tOr (tTest (tOp rNe (tOp (rIxT K) (tVar 1) (tC (.int 0))) (tC (.str "fun")))) (tTest (tOp rNe (tVar 8) (tVar 4)))) (te := tVar 8) rfl scLNeeds.nd (pi_list (pe_ix ix_list (pv 2) (pv 6) (fun _ _ => rfl))) (blkOk_by (own := [("_law_other", 8)]) (N := ["_law_nodes", "_law_node", "_law_found", "_law_before", "_law_at", "_law_some", "_law_one", "_law_row", "_law_other"]) (sc := defScope sLNeeds) (by decide +kernel)) (fun _ _ _ _ _ => pg_name (i := 8) scLNeeds.nd rfl (Or.inl rfl)) (fun _ _ _ _ _ => pts_one (by exact (PW.pt (pw_or (pt_cmpR op_ne (pe_ix ix_tup (pv 1) pe_int (fun _ _ => rfl)) pe_str (nomark _)) (pw_or1 (pt_cmpR op_ne (pv 8) (pv 4) (nomark _))))))) (fun _ _ _ _ _ => by exact pv 8)) pa_nil)))))
        (pss_one (ps_asg (pe_callB (cr_sortedSet rfl) (by rfl) B.sorted (by decide +kernel) (pa_cons (pe_callTy (cr_setInts rfl) (by rfl) B.set (by decide +kernel) (pa_cons (pv 5) pa_nil)) pa_nil)) (pg_sub (pv 2) (pv 4) set_list)))))))))))
        (pss_one (ps_ret (pv 2))))), ?_⟩
    --E
    have lu : us.length = ns.length := by rw [hus.length, List.length_map]
    refine ⟨_, rfl, l, rfl, ⟨_, hl⟩, fun D0 nD => ?_⟩
    refine lcNewL (by omega) hl nD ?_ ?_
    · intro x G Q2 Z2 hQ
      refine ⟨rfl, ?_⟩
      exact iteT (B := Z2 G) ⟨(by show 0 ≤ sizeLine; omega), fun p np => hQ p np⟩
    intro H1 as la t1
    have s1 := t1.same
    have ll1 : LLAt H1 D0 (ns.map fun _ => []) := by
      refine ⟨as, t1.at (i := 0) rfl, by rw [la, lu, List.length_map], fun i a e => ?_⟩
      have hm : (a, ([] : List V)) ∈ as.map fun p => (p, ([] : List V)) := List.mem_map.mpr ⟨a, List.mem_of_getElem? e, rfl⟩
      have e2 : rowAt (ns.map fun _ => ([] : List Nat)) i = [] := by
        unfold rowAt
        rw [List.getD_eq_getElem?_getD, List.getElem?_map]
        cases ns[i]? <;> rfl
      refine ⟨by rw [e2]; exact t1.hold _ (List.mem_cons_of_mem _ hm), fun z => ?_⟩
      have := (List.nodup_cons.mp t1.nd).1
      refine this ?_
      rw [List.map_map]
      exact z ▸ List.mem_map.mpr ⟨a, List.mem_of_getElem? e, rfl⟩
    refine ⟨_, _, rfl, ?_⟩
    have row60 : ∀ {X0 X : List (List Nat)} {i : Nat}, Swp ns X0 X i → ∀ j, (rowAt X j).length ≤ ns.length := fun {X0 X i} sw j => by
      by_cases hj : j < ns.length
      · refine nd_len' ((sw.asc j).imp fun h => Nat.ne_of_lt h) fun f hf => ?_
        obtain ⟨v, hv, _⟩ := sw.snd j f hj hf
        obtain ⟨c, hc⟩ := ow v f hv
        exact (List.getElem?_eq_some_iff.mp hc).1
      · rw [rowAt_over (by rw [sw.len]; omega)]
        exact Nat.zero_le _
    have sumN : ∀ {X0 X : List (List Nat)} {i : Nat}, Swp ns X0 X i → sumL X ≤ ns.length * ns.length := fun {X0 X i} sw => by
      rw [← sw.len]
      refine sum_le fun r hr => ?_
      obtain ⟨j, hj, e⟩ := List.getElem_of_mem hr
      have := row60 sw j
      rw [rowAt_get (List.getElem?_eq_getElem hj), e] at this
      rw [sw.len]
      exact this
    refine ⟨fun μ σ' G => ∃ (X : List (List Nat)) (Y : Option (List (List Nat))) (vb : V) (g1 g4 g5 g6 : Option V), σ' = [some (.ref l), g1, some (.ref D0), some vb, g4, g5, g6, none, none] ∧ Same H G ∧ LLAt G D0 X ∧
        (match Y with | none => vb = .non ∧ Swp ns X X 0 ∧ μ = ns.length * ns.length + 2 | some Y => (∃ b, vb = .ref b ∧ LLFar G D0 b Y) ∧ Swp ns Y X ns.length ∧ Swp ns Y Y 0 ∧ μ = ns.length * ns.length + 1 - sumL Y),
      ⟨_, ns.map fun _ => [], none, .non, none, none, none, none, rfl, s1, ll1, rfl, swp_nil ns, rfl⟩, ?_⟩
    rintro μ σ' G ⟨X, Y, vb, g1, g4, g5, g6, rfl, sG, ll, hY⟩
    obtain ⟨asX, hF, lX, hrows⟩ := id ll
    have dX : Dp K G (.ref D0) (.list (rowsP X)) := rows_dp asX hF lX fun i a e => (hrows i a e).1
    obtain ⟨d2, dv2, sh2, hT, hE⟩ : ∃ d2, Dp K G vb d2 ∧ SeqAt.shaped d2 = true ∧ ((!PyData.eqv (.list (rowsP X)) d2) = true → Swp ns X X 0 ∧ ns.length * ns.length + 1 - sumL X < μ) ∧ ((!PyData.eqv (.list (rowsP X)) d2) = false → RowsOk ns X) := by
      cases Y with
      | none =>
        obtain ⟨rfl, sw, rfl⟩ := hY
        refine ⟨.none, .non, rfl, fun _ => ⟨sw, by omega⟩, fun e => ?_⟩
        rw [PyData.eqv] at e
        cases e
      | some Y =>
        obtain ⟨⟨b, rfl, nb, bs, h1, h2, h3⟩, sw, swY, rfl⟩ := hY
        have ev : PyData.eqv (.list (rowsP X)) (.list (rowsP Y)) = decide (X = Y) := by rw [PyData.eqv, eqv_rows]
        refine ⟨.list (rowsP Y), rows_dp bs h1 h2 fun i a e => (h3 i a e).1, rows_shaped Y, fun e => ?_, fun e => ?_⟩
        · rw [ev] at e
          have ne : X ≠ Y := fun z => by rw [decide_eq_true z] at e; cases e
          have ⟨g1, g2⟩ := sum_grow (X := Y) (Y := X) (by rw [swY.len, sw.len]) swY.asc sw.asc sw.sub
          have : sumL Y ≠ sumL X := fun z => ne (g2 z).symm
          have := sumN sw
          exact ⟨sw.start, by omega⟩
        · rw [ev] at e
          have eq : X = Y := by
            by_cases z : X = Y
            · exact z
            · rw [decide_eq_false z] at e
              cases e
          subst eq
          refine ⟨sw.len, fun i r hr => ?_⟩
          have := sw.fin i (by rw [← sw.len]; exact (List.getElem?_eq_some_iff.mp hr).1)
          rwa [rowAt_get hr] at this
    refine ⟨_, rfl, _, rfl, .list (rowsP X), d2, dX, dv2, rows_shaped X, sh2, _, rfl, ite2 (fun e => ?_) (fun e => ?_)⟩
    case _ =>
      obtain ⟨sw0, lμ⟩ := hT e
      refine ⟨fun σ2 G2 => ∃ (X2 : List (List Nat)) (b : Addr) (g1 g4 g5 g6 : Option V), σ2 = [some (.ref l), g1, some (.ref D0), some (.ref b), g4, g5, g6, none, none] ∧ Same H G2 ∧ LLAt G2 D0 X2 ∧ LLFar G2 D0 b X ∧ Swp ns X X2 ns.length, ?_, ?_⟩
      · rintro σ2 G2 ⟨X2, b, g1, g4, g5, g6, rfl, s2, l2, f2, w2⟩
        exact ⟨_, lμ, X2, some X, _, g1, g4, g5, g6, rfl, s2, l2, ⟨b, rfl, f2⟩, w2, sw0, rfl⟩
      -- before = [list(row) for row in found]
      refine ⟨_, rfl, D0, rfl, ⟨_, SqL.of hF⟩, fun D1 nD1 => ?_⟩
      have lX60 : X.length = ns.length := sw0.len
      refine lcCopy (cs := X.map iL) (by rw [List.length_map, List.length_map, lX]) (by rw [List.length_map]; omega) (SqL.of hF) nD1 ?_ ?_
      · intro i x c G2 Q2 Z2 hx hc s2 hQ
        rw [List.getElem?_map] at hx hc
        obtain ⟨a, ha, rfl⟩ := Option.map_eq_some_iff.mp hx
        obtain ⟨r, hr', rfl⟩ := Option.map_eq_some_iff.mp hc
        have hra := (hrows i a ha).1
        rw [rowAt_get hr'] at hra
        refine ⟨rfl, ?_⟩
        exact iteT (B := Z2 G2) ⟨_, rfl, a, iL r, rfl, .inl (SqL.of (s2 _ _ hra)), fun p np => hQ p np⟩
      intro H2 bs lb t2
      have s2 := t2.same
      have far : LLFar H2 D0 D1 X := by
        have ndd : D1 ≠ D0 := fun z => by rw [z, hF] at nD1; cases nD1
        refine ⟨ndd, bs, t2.at (i := 0) rfl, by rw [lb, List.length_map, lX], fun i a e => ?_⟩
        have hi := (List.getElem?_eq_some_iff.mp e).1
        rw [lb, List.length_map, lX] at hi
        have hz : (bs.zip (X.map iL))[i]? = some (a, iL X[i]) := by
          rw [List.getElem?_zip_eq_some]
          exact ⟨e, by rw [List.getElem?_map, List.getElem?_eq_getElem hi]; rfl⟩
        have hm := List.mem_cons_of_mem (D1, bs.map V.ref) (List.mem_of_getElem? hz)
        refine ⟨?_, fun z => ?_⟩
        · rw [rowAt_get (List.getElem?_eq_getElem hi)]
          exact t2.hold _ hm
        · have := t2.fr _ hm
          have this : G a = none := this
          rw [z, hF] at this
          cases this
      have sH2 := sG.trans s2
      -- the round
      refine ⟨_, rfl, l, us, rfl, Same.seq sH2 hl, ?_⟩
      refine for_EL (xs := us) (fun i σ G2 => ∃ (X2 : List (List Nat)) (g1 g4 g5 g6 : Option V), σ = [some (.ref l), g1, some (.ref D0), some (.ref D1), g4, g5, g6, none, none] ∧ Same H G2 ∧ Off D0 H2 G2 ∧ LLAt G2 D0 X2 ∧ Swp ns X X2 i) ?_ ?_ ?_ ?_ ?_
      · exact ⟨X, _, _, _, _, rfl, sH2, .refl _ _, ll.same s2, sw0⟩
      · rintro i σ G2 ⟨X2, g1, g4, g5, g6, rfl, s3, _⟩
        exact Same.seq s3 hl
      · rintro i σ G2 T x ⟨X2, g1, g4, g5, g6, rfl, s3, o3, l3, w3⟩ nT
        have sT := Same.new (o := .tup [V.int (i : Nat), x]) nT
        exact ⟨X2, g1, g4, g5, g6, rfl, s3.trans sT, o3.trans (.same sT), l3.same sT, w3⟩
      · rintro i x T σ G2 hx ⟨X2, g1, g4, g5, g6, rfl, s3, o3, l3, w3⟩ hT2
        obtain ⟨d, hd, rx⟩ := hus.get hx
        rw [List.getElem?_map] at hd
        obtain ⟨g, hgi, rfl⟩ := Option.map_eq_some_iff.mp hd
        have hi := (List.getElem?_eq_some_iff.mp hgi).1
        have eg : nAt ns i = g := Option.some.inj ((nAt_get hi).symm.trans hgi)
        have gr := hg g (List.mem_of_getElem? hgi)
        have rx2 := Rdd.ex (Ex.same s3) _ rx
        have lX2 : X2.length = ns.length := w3.len
        refine ⟨T, _, rfl, SqT.of hT2, rfl, _, _, rfl, _, _, rfl, rfl, ?_⟩
        have ixN_i : ∀ m : Nat, i < m → ixN m ((i : Nat) : Int) = some i := fun m hm => by
          unfold ixN
          rw [if_pos (by omega), if_pos (by omega)]
          rfl
        have put : ∀ (G3 : Hp) (p : Addr) (r : List Nat), Same H G3 → Off D0 H2 G3 → LLAt G3 D0 X2 → G3 p = some (.lst (iL r)) → p ≠ D0 → r.Pairwise (· < ·) → (∀ f, f ∈ r ↔ Fm ns X2 i f) →
            ∃ as2 : List Addr, G3 D0 = some (.lst (as2.map V.ref)) ∧ as2.length = ns.length ∧ Same H (upd G3 D0 (.lst ((as2.map V.ref).set i (V.ref p)))) ∧ Off D0 H2 (upd G3 D0 (.lst ((as2.map V.ref).set i (V.ref p)))) ∧ LLAt (upd G3 D0 (.lst ((as2.map V.ref).set i (V.ref p)))) D0 (X2.set i r) ∧ Swp ns X (X2.set i r) (i + 1) := fun G3 p r sG3 oG3 l4 hp np ra rm => by
          obtain ⟨as2, e1, e2, e3⟩ := l4.set (i := i) hp np (by omega)
          exact ⟨as2, e1, by omega, jr_same.put sG3 nD, oG3.trans .put, e3, w3.step ow hi ra rm⟩
        obtain ⟨D0n, hD0n⟩ : ∃ as2 : List Addr, G2 D0 = some (.lst (as2.map V.ref)) := by
          obtain ⟨as2, e1, _⟩ := l3
          exact ⟨as2, e1⟩
        by_cases isv : ∃ f2, g = .V f2
        · obtain ⟨f2, rfl⟩ := isv
          obtain ⟨a0, xs, rfl, hs, hxs, _⟩ := rx2.tupd'
          obtain ⟨x1, x2, rfl, r1, r2⟩ := hxs.pair
          cases r1
          cases r2
          refine ⟨_, rfl, a0, _, (0 : Int), _, rfl, rfl, hs, atI_nat (j := 0) rfl, rfl, _, rfl, ?_⟩
          rw [str_dec, decide_eq_true rfl]
          refine iteT ⟨_, rfl, a0, _, (1 : Int), _, rfl, rfl, hs, atI_nat (j := 1) rfl, (by show 1 ≤ sizeLine; omega), fun p np => ?_⟩
          have s4 := Same.new (o := .lst [V.int (f2 : Nat)]) np
          have hp4 : (upd G2 p (.lst [V.int (f2 : Nat)])) p = some (.lst (iL [f2])) := upd_same
          have npD : p ≠ D0 := fun z => by rw [z, hD0n] at np; cases np
          obtain ⟨as2, e1, e2, e3, e4, e5, e6⟩ := put _ p [f2] (s3.trans s4) (o3.trans (.same s4)) (l3.same s4) hp4 npD (List.pairwise_singleton _ _) fun f => by
            unfold Fm
            rw [eg]
            exact List.mem_singleton
          refine ⟨_, rfl, _, rfl, D0, as2.map V.ref, ((i : Nat) : Int), i, rfl, rfl, e1, ixN_i _ (by rw [List.length_map, e2]; exact hi), ?_⟩
          exact ⟨_, _, _, _, _, rfl, e3, e4, e5, e6⟩
        obtain ⟨a0, tag, rest, rfl, hs, htag, hFm⟩ : ∃ (a0 : Addr) (tag : Str) (rest : List V), x = .ref a0 ∧ SqT K G2 a0 (.str tag :: rest) ∧ ¬ tag = "var" ∧ ∀ f, Fm ns X2 i f ↔ ∃ c ∈ gk g, f ∈ rowAt X2 c ∧ (¬ tag = "fun" ∨ f ≠ i) := by
          cases g with
          | V f2 => exact absurd ⟨f2, rfl⟩ isv
          | W y cs =>
            obtain ⟨a0, xs, rfl, hs, hxs, _⟩ := rx2.tupd'
            obtain ⟨x1, x2, x3, rfl, r1, r2, r3⟩ := hxs.trip
            cases r1
            refine ⟨a0, "word", _, rfl, hs, by decide +kernel, fun f => ?_⟩
            unfold Fm
            rw [eg]
            exact ⟨fun ⟨c, hc, hf⟩ => ⟨c, hc, hf, .inl (by decide +kernel)⟩, fun ⟨c, hc, hf, _⟩ => ⟨c, hc, hf⟩⟩
          | F c =>
            obtain ⟨a0, xs, rfl, hs, hxs, _⟩ := rx2.tupd'
            obtain ⟨x1, x2, rfl, r1, r2⟩ := hxs.pair
            cases r1
            refine ⟨a0, "fun", _, rfl, hs, by decide +kernel, fun f => ?_⟩
            unfold Fm
            rw [eg]
            exact ⟨fun ⟨hf, hne⟩ => ⟨c, List.mem_singleton.mpr rfl, hf, .inr hne⟩, fun ⟨c', hc', hf, hz⟩ => by
              rw [List.mem_singleton.mp hc'] at hf
              exact ⟨hf, hz.resolve_left fun z => z rfl⟩⟩
        have kr := gk_rng gr
        refine ⟨_, rfl, a0, _, (0 : Int), _, rfl, rfl, hs, atI_nat (j := 0) rfl, rfl, _, rfl, ?_⟩
        rw [str_dec, decide_eq_false htag]
        refine iteF ⟨(by show 0 ≤ sizeLine; omega), fun sA nA => ?_⟩
        have s4 := Same.new (o := .lst []) nA
        have hA4 : (upd G2 sA (.lst [])) sA = some (.lst (iL [])) := upd_same
        generalize upd G2 sA (.lst []) = H4 at s4 hA4 ⊢
        refine ⟨_, rfl, .ref a0, g, rfl, Rdd.ex (Ex.same s4) _ rx2, fun pB H5 s5 nB hB => ⟨pB, rfl, ⟨_, SqL.of hB⟩, ?_⟩⟩
        have s45 := s4.trans s5
        have nBA : pB ≠ sA := fun z => by rw [z, hA4] at nB; cases nB
        have lkk : (iL (gk g)).length = (gk g).length := List.length_map ..
        refine for_list (xs := iL (gk g)) (fun k σ G5 => ∃ (g6 : Option V) (zs : List Nat), σ = [some (.ref l), some (.ref a0), some (.ref D0), some (.ref D1), some (.int (i : Nat)), some (.ref sA), g6, none, none] ∧ Off sA H5 G5 ∧ G5 sA = some (.lst (iL zs)) ∧ zs.length ≤ 60 * k ∧ ∀ f, f ∈ zs ↔ ∃ c ∈ (gk g).take k, f ∈ rowAt X2 c ∧ (¬ tag = "fun" ∨ f ≠ i)) ?_ ?_ ?_ ?_
        · exact ⟨_, [], rfl, .refl _ _, s5 _ _ hA4, Nat.zero_le _, fun f => ⟨fun h => (by cases h), fun ⟨c, hc, _⟩ => (by rw [List.take_zero] at hc; cases hc)⟩⟩
        · rintro k σ G5 _ ⟨g6, zs, rfl, o5, _⟩
          exact SqL.of (o5 _ _ nBA hB)
        · rintro k y σ G5 hy ⟨g6, zs, rfl, o5, hz5, lz, mz⟩
          unfold iL at hy
          rw [List.getElem?_map] at hy
          obtain ⟨c, hck, rfl⟩ := Option.map_eq_some_iff.mp hy
          have hkk := (List.getElem?_eq_some_iff.mp hck).1
          have hc := kr.2 c (List.mem_of_getElem? hck)
          have oG : Off sA G2 G5 := (Off.same s45).trans o5
          obtain ⟨as2, e1, e2, e3⟩ := l3.off oG nA
          have hac : as2[c]? = some (as2[c]'(by omega)) := List.getElem?_eq_getElem _
          generalize as2[c]'(by omega) = ac at hac
          obtain ⟨hrow, _⟩ := e3 c ac hac
          have hs5 : SqT K G5 a0 (.str tag :: rest) := by
            rcases hs with (hb | ⟨o', hb⟩) | hb
            · exact .inl (.inl (oG _ _ (ne_of_none hb nA) hb))
            · exact .inl (.inr ⟨o', oG _ _ (ne_of_none hb nA) hb⟩)
            · exact .inr hb
          refine ⟨_, rfl, .inl ⟨rfl, _, SqL.of hz5⟩, _, rfl, _, rfl, D0, _, ((c : Nat) : Int), .ref ac, rfl, rfl, SqL.of e1, atI_nat (j := c) (by rw [List.getElem?_map, hac]; rfl), ac, rfl, ⟨_, SqL.of hrow⟩, fun D3 nD3 => ?_⟩
          have r60 := row60 w3 c
          have lrow : (iL (rowAt X2 c)).length = (rowAt X2 c).length := List.length_map ..
          refine lcL ((rowAt X2 c).map fun f => if ¬ tag = "fun" ∨ f ≠ i then some (V.int (f : Nat)) else none) (by rw [List.length_map, lrow]) (by rw [lrow]; omega) (SqL.of hrow) nD3 ?_ ?_
          · intro i2 x H6 Q2 Z2 hx s6 hQ hZ
            unfold iL at hx
            rw [List.getElem?_map] at hx
            obtain ⟨f3, hf3, rfl⟩ := Option.map_eq_some_iff.mp hx
            have at2 : ∀ (P : Prop) [Decidable P], (P ↔ (¬ tag = "fun" ∨ f3 ≠ i)) → ((rowAt X2 c).map fun f => if ¬ tag = "fun" ∨ f ≠ i then some (V.int (f : Nat)) else none)[i2]? = some (if P then some (V.int (f3 : Nat)) else none) := fun P _ hP => by
              rw [List.getElem?_map, hf3]
              show some (if ¬ tag = "fun" ∨ f3 ≠ i then some (V.int (f3 : Nat)) else none) = some (if P then some (V.int (f3 : Nat)) else none)
              by_cases h : P
              · rw [if_pos h, if_pos (hP.mp h)]
              · rw [if_neg h, if_neg fun z => h (hP.mpr z)]
            refine ⟨rfl, ?_⟩
            refine ⟨_, rfl, a0, _, (0 : Int), _, rfl, rfl, (Ex.same s6).tup hs5, atI_nat (j := 0) rfl, rfl, _, rfl, ?_⟩
            dsimp only
            rw [str_dec]
            by_cases tf : tag = "fun"
            · rw [decide_eq_true tf]
              refine iteF ⟨_, rfl, _, rfl, rfl, _, rfl, ?_⟩
              rw [int_dec]
              by_cases fi : f3 = i
              · rw [decide_eq_true (p := ((f3 : Nat) : Int) = ((i : Nat) : Int)) (by rw [fi])]
                refine iteF (hZ H6 ?_ (Same.refl _))
                rw [at2 False ⟨fun h => h.elim, fun h => h.elim (fun h => h tf) fun h => h fi⟩]
                rfl
              · rw [decide_eq_false (p := ((f3 : Nat) : Int) = ((i : Nat) : Int)) fun z => fi (Int.ofNat.inj z)]
                refine iteT ⟨_, rfl, hQ _ H6 ?_ (Same.refl _)⟩
                rw [at2 True ⟨fun _ => .inr fi, fun _ => trivial⟩]
                rfl
            · rw [decide_eq_false tf]
              refine iteT (iteT ⟨_, rfl, hQ _ H6 ?_ (Same.refl _)⟩)
              rw [at2 True ⟨fun _ => .inl tf, fun _ => trivial⟩]
              rfl
          · intro H6 s6 hD6
            rw [fm_filter] at hD6
            have hz6 := s6 _ _ hz5
            have lnew : ((rowAt X2 c).filter fun f => decide (¬ tag = "fun" ∨ f ≠ i)).length ≤ 60 := Nat.le_trans (List.length_filter_le ..) (by omega)
            have lz' : (iL zs).length = zs.length := List.length_map ..
            have ln' : (iL ((rowAt X2 c).filter fun f => decide (¬ tag = "fun" ∨ f ≠ i))).length = ((rowAt X2 c).filter fun f => decide (¬ tag = "fun" ∨ f ≠ i)).length := List.length_map ..
            have k3 := kr.1
            refine ⟨sA, D3, _, _, rfl, rfl, hz6, hD6, by rw [lz', ln']; omega, ?_⟩
            refine ⟨_, zs ++ (rowAt X2 c).filter fun f => decide (¬ tag = "fun" ∨ f ≠ i), rfl, (o5.trans (.same s6)).trans .put, by unfold iL; rw [List.map_append]; exact upd_same, by rw [List.length_append]; omega, fun f => ?_⟩
            rw [List.mem_append, mz, List.take_add_one, hck, List.mem_filter, decide_eq_true_eq]
            constructor
            · rintro (⟨c', h1, h2⟩ | ⟨h1, h2⟩)
              · exact ⟨c', List.mem_append_left _ h1, h2⟩
              · exact ⟨c, List.mem_append_right _ (List.mem_singleton.mpr rfl), h1, h2⟩
            · rintro ⟨c', h1, h2, h3⟩
              rcases List.mem_append.mp h1 with h1 | h1
              · exact .inl ⟨c', h1, h2, h3⟩
              · have : c' = c := List.mem_singleton.mp h1
                rw [this] at h2
                exact .inr ⟨h2, h3⟩
        · rintro σ G5 ⟨g6, zs, rfl, o5, hz5, lz, mz⟩
          rw [lkk] at lz mz
          rw [List.take_length] at mz
          have mz2 : ∀ f, f ∈ zs ↔ Fm ns X2 i f := fun f => by rw [mz, hFm]
          have k3 := kr.1
          have oG : Off sA G2 G5 := (Off.same s45).trans o5
          have fz : ∀ f ∈ zs, f < ns.length := fun f hf => by
            have sw' := w3.mono
            by_cases hfl : f < ns.length
            · exact hfl
            · obtain ⟨c, hc, hfc, _⟩ := (mz f).mp hf
              obtain ⟨v, hv, _⟩ := w3.snd c f (kr.2 c hc) hfc
              obtain ⟨c2, hc2⟩ := ow v f hv
              exact (List.getElem?_eq_some_iff.mp hc2).1
          refine ⟨_, rfl, sA, zs.map fun f => ((f : Nat) : Int), rfl, SqL.of (by rw [hz5, List.map_map]; rfl), by rw [List.length_map]; omega, fun p cN few np => ?_⟩
          have c60 := few ((List.range ns.length).map fun f => ((f : Nat) : Int)) fun k hk => by
            obtain ⟨f, hf, rfl⟩ := List.mem_map.mp hk
            exact List.mem_map.mpr ⟨f, List.mem_range.mpr (fz f hf), rfl⟩
          rw [List.length_map, List.length_range] at c60
          have s6 := Same.new (o := SetO w p (fun j => decide (j ∈ zs.map fun f => ((f : Nat) : Int))) cN) np
          refine ⟨p, _, cN, rfl, upd_same, by omega, fun ns' p2 asc' mem' len' np2 => ?_⟩
          obtain ⟨H7, eH7⟩ : ∃ H7, H7 = upd (upd G5 p (SetO w p (fun j => decide (j ∈ zs.map fun f => ((f : Nat) : Int))) cN)) p2 (.lst (ns'.map V.int)) := ⟨_, rfl⟩
          have s7 : Same (upd G5 p (SetO w p (fun j => decide (j ∈ zs.map fun f => ((f : Nat) : Int))) cN)) H7 := by rw [eH7]; exact Same.new np2
          have hp7 : H7 p2 = some (.lst (ns'.map V.int)) := by rw [eH7]; exact upd_same
          have nat : ∀ k ∈ ns', ∃ f : Nat, k = ((f : Nat) : Int) ∧ f ∈ zs := fun k hk => by
            obtain ⟨f, hf, e⟩ := List.mem_map.mp (of_decide_eq_true ((mem' k).mp hk))
            exact ⟨f, e.symm, hf⟩
          have er : iL (ns'.map Int.toNat) = ns'.map V.int := by
            unfold iL
            rw [List.map_map]
            refine List.map_congr_left fun k hk => ?_
            obtain ⟨f, rfl, _⟩ := nat k hk
            rfl
          rw [← er] at hp7
          have oG7 : Off sA G2 H7 := oG.trans (Off.same (s6.trans s7))
          have l7 : LLAt H7 D0 X2 := l3.off oG7 nA
          have sH7 : Same H H7 := fun b o e => oG7 b o (ne_of_none (s3 _ _ e) nA) (s3 _ _ e)
          have oH7 : Off D0 H2 H7 := fun b o hb e => oG7 b o (ne_of_none (o3 _ _ hb e) nA) (o3 _ _ hb e)
          have np2D : p2 ≠ D0 := fun z => by
            obtain ⟨as7, e7, _⟩ := l3.off (oG.trans (Off.same s6)) nA
            have np3 : (upd G5 p (SetO w p (fun j => decide (j ∈ zs.map fun f => ((f : Nat) : Int))) cN)) p2 = none := np2
            rw [z, e7] at np3
            cases np3
          obtain ⟨as2, e1, e2, e3, e4, e5, e6⟩ := put H7 p2 (ns'.map Int.toNat) sH7 oH7 l7 hp7 np2D (List.pairwise_map.mpr (asc'.imp_of_mem fun {a b} ha hb h => by
            obtain ⟨f, rfl, _⟩ := nat a ha
            obtain ⟨g', rfl, _⟩ := nat b hb
            omega)) fun f => by
            rw [← mz2, List.mem_map]
            constructor
            · rintro ⟨k, hk, rfl⟩
              obtain ⟨f, rfl, hf⟩ := nat k hk
              exact hf
            · intro hf
              exact ⟨((f : Nat) : Int), (mem' _).mpr (decide_eq_true (List.mem_map.mpr ⟨f, hf, rfl⟩)), rfl⟩
          rw [eH7] at e1 e3 e4 e5
          refine ⟨_, rfl, _, rfl, D0, as2.map V.ref, ((i : Nat) : Int), i, rfl, rfl, e1, ixN_i _ (by rw [List.length_map, e2]; exact hi), ?_⟩
          exact ⟨_, _, _, _, _, rfl, e3, e4, e5, e6⟩
      · rintro σ G2 ⟨X2, g1, g4, g5, g6, rfl, s3, o3, l3, w3⟩
        rw [lu] at w3
        exact ⟨X2, D1, _, _, _, _, rfl, s3, l3, far.off o3, w3⟩
    case _ =>
      exact ⟨_, rfl, q D0 G X sG nD ll (hE (bfalse e))⟩
end
end Sl

set_option Elab.async false
set_option linter.all false
set_option maxRecDepth 100000
set_option maxHeartbeats 400000
/-! ## _law_scope -/
namespace Sl
open PySem PySem.Spec PyProof.Rows L2
abbrev sLScope : Stmt := topT 40
theorem scLScope : FnScope ["_law_needs_here", "_law_at", "_law_found", "_law_tops", "_law_one", "_law_other"] ["_law_needs_here", "_law_at"] (defScope sLScope) := ⟨rfl, rfl, rfl, by decide +kernel, rfl, by decide +kernel, by decide +kernel⟩
/-- of the functions that a node needs only the last is needed by none of the rest -/
theorem top_iff {ns : List GN} {X : List (List Nat)} (W : Wo ns) (ok : RowsOk ns X) (vl : ∀ v f : Nat, ns[v]? = some (.V f) → f < ns.length) {i : Nat} {r1 : List Nat} {x : Nat} (hi : X[i]? = some (r1 ++ [x])) {one : Nat} (h1 : one ∈ r1 ++ [x]) :
    (∀ o ∈ r1 ++ [x], o ≠ one → o ∈ rowAt X one) ↔ one = x := by
  have row := ok.row i _ hi
  have hil : i < ns.length := by rw [← ok.len]; exact (List.getElem?_eq_some_iff.mp hi).1
  have lt : ∀ a ∈ r1, a < x := fun a ha => (List.pairwise_append.mp row.asc).2.2 a ha x (List.mem_singleton.mpr rfl)
  have get : ∀ a, a < ns.length → X[a]? = some (rowAt X a) := fun a ha => by
    have := List.getElem?_eq_getElem (l := X) (i := a) (by rw [ok.len]; exact ha)
    rw [this, rowAt_get this]
  obtain ⟨v1, hv1, hn1⟩ := (row.mem one).mp h1
  have ol := vl v1 one hv1
  constructor
  · intro h
    by_cases e : one = x
    · exact e
    · have hx := h x (List.mem_append_right _ (List.mem_singleton.mpr rfl)) fun z => e z.symm
      obtain ⟨v, hv, hn⟩ := ((ok.row one _ (get one ol)).mem x).mp hx
      have := W.lt hv ol hn
      have := lt one ((List.mem_append.mp h1).resolve_right fun z => e (List.mem_singleton.mp z))
      omega
  · rintro rfl o ho hne
    have hor : o ∈ r1 := (List.mem_append.mp ho).resolve_right fun z => hne (List.mem_singleton.mp z)
    obtain ⟨u, hu, hnu⟩ := (row.mem o).mp ho
    exact ((ok.row one _ (get one ol)).mem o).mpr ⟨u, hu, W.inner hv1 hu (lt o hor) hil hn1 hnu⟩
end Sl

set_option Elab.async false
set_option linter.all false
set_option maxRecDepth 100000
set_option maxHeartbeats 400000
/-! ## _law_scope: the def -/
namespace Sl
open PySem PySem.Spec PyProof.Rows L2
theorem fm_ones (l : List Nat) (p : Nat → Prop) [DecidablePred p] : (l.map fun f => if p f then some (V.int 1) else none).filterMap id = iL ((l.filter fun f => decide (p f)).map fun _ => 1) := by
  unfold iL
  induction l with
  | nil => rfl
  | cons a l ih =>
    rw [List.map_cons]
    by_cases h : p a
    · rw [if_pos h, List.filter_cons_of_pos (by exact decide_eq_true h), List.map_cons, List.map_cons, ← ih]
      rfl
    · rw [if_neg h, List.filter_cons_of_neg (by simp only [decide_eq_true_eq]; exact h), ← ih]
      rfl
section
variable {P : Program} {w : World} {K : PySem.W.Frag} {mg : Str → Option Value} {base : Heap}
def spLScope (K : PySem.W.Frag) : Sp := fun vs H Q _ => ∃ (F : Addr) (X S : List (List Nat)) (ns : List GN) (i : Nat), vs = [.ref F, .int (i : Nat)] ∧ LLAt H F X ∧ RowsOk ns X ∧ Wo ns ∧ Own ns ∧ ns.length ≤ 60 ∧ Sc X S ∧ i < ns.length ∧
  ∀ v s H', Same H H' → S[i]? = some s → Rdd K H' v (.tup (iD s)) → Q v H'
theorem ok_lScope {f : Addr} {fd : FuncData} (F : Fun K "_law_scope" "_law_scope" sLScope f fd) (B : Bt mg) : FnOk P w K mg base CX0 1 f fd ["_law_needs_here", "_law_at"] (spLScope K) := by
  refine F.ok scLScope (fun vs H Q E h => ?_) (fun cdv A outer s H vs Q E hr h => ?_)
  · obtain ⟨F, X, S, ns, i, rfl, _⟩ := h
    rfl
  · obtain ⟨F, X, S, ns, i, rfl, ll, ok, W, ow, hn, sc, hi, q⟩ := h
    have sl := sizeLine_eq
    --D
    refine ⟨_, (pss_cons (ps_set (i := 2) scLScope.nd rfl (Or.inl rfl) (pe_tup pa_nil))
        (pss_cons (ps_while PassesOwn.never (pt_cmpR (op_neD hr.units) (pe_ix ix_list (pv 0) (pv 1) (fun _ _ => rfl)) (pe_lst pa_nil) (nomark _))
        (pss_cons (ps_set (i := 3) scLScope.nd rfl (Or.inl rfl) (pe_lst pa_nil))
        (pss_cons (ps_for PassesOwn.never rfl (pi_list (pe_ix ix_list (pv 0) (pv 1) (fun _ _ => rfl))) (pg_name (i := 4) scLScope.nd rfl (Or.inr rfl))
          (pss_one (ps_if (pt_cmpR (op_eqD hr.units) (pe_lc (own := [("_law_other", 5)]) (g := gName 5) (tt := tAnd (tTest (tOp rNe (tVar 5) (tVar 4))) (tTest (tOp (rIn K true) (tVar 5) (tOp (rIxL K) (tVar 0) (tVar 4))))) (te := tC (.int 1)) rfl scLScope.nd (pi_list (pe_ix ix_list (pv 0) (pv 1) (fun _ _ => rfl))) (blkOk_by (own := [("_law_other", 5)]) (N := ["_law_needs_here", "_law_at", "_law_found", "_law_tops", "_law_one", "_law_other"]) (sc := defScope sLScope) (by decide +kernel)) (fun _ _ _ _ _ => pg_name (i := 5) scLScope.nd rfl (Or.inl rfl)) (fun _ _ _ _ _ => pts_one (by exact (PW.pt (pw_and (pt_cmpR op_ne (pv 5) (pv 4) (nomark _)) (pw_and1 (pt_cmpR op_notIn_seq (pv 5) (pe_ix ix_list (pv 0) (pv 4) (fun _ _ => rfl)) (by rfl))))))) (fun _ _ _ _ _ => by exact pe_int)) (pe_lst pa_nil) (nomark _))
          (pss_one (ps_expr (pe_bm PySem.F.plainAttrs_list PySem.F.slot_list_append PySem.F.type_list_append mt_append (pv 3) (pa_cons (pv 4) pa_nil)))) pss_nil)))
        (pss_cons (ps_set (i := 2) scLScope.nd rfl (Or.inl rfl) (pe_op op_catA (pe_tup (pa_cons (pe_ix ix_list (pv 3) pe_int (fun _ _ => rfl)) pa_nil)) (pv 2)))
        (pss_one (ps_set (i := 1) scLScope.nd rfl (Or.inl rfl) (pe_ix ix_list (pv 3) pe_int (fun _ _ => rfl))))))))
        (pss_one (ps_ret (pv 2))))), ?_⟩
    --E
    obtain ⟨as, hF, lA, hrows⟩ := id ll
    have vl : ∀ v f : Nat, ns[v]? = some (.V f) → f < ns.length := fun v f hv => by
      obtain ⟨c, hc⟩ := ow v f hv
      exact (List.getElem?_eq_some_iff.mp hc).1
    have getX : ∀ j, j < ns.length → X[j]? = some (rowAt X j) := fun j hj => by
      have := List.getElem?_eq_getElem (l := X) (i := j) (by rw [ok.len]; exact hj)
      rw [this, rowAt_get this]
    have rowLt : ∀ j, j < ns.length → ∀ f ∈ rowAt X j, f < ns.length := fun j hj f hf => by
      obtain ⟨v, hv, _⟩ := ((ok.row j _ (getX j hj)).mem f).mp hf
      exact vl v f hv
    have row60 : ∀ j, j < ns.length → (rowAt X j).length ≤ 60 := fun j hj => by
      have := nd_len' ((ok.row j _ (getX j hj)).asc.imp fun h => Nat.ne_of_lt h) (rowLt j hj)
      omega
    have rowH : ∀ j, j < ns.length → ∃ a, as[j]? = some a ∧ H a = some (.lst (iL (rowAt X j))) := fun j hj => by
      have e := List.getElem?_eq_getElem (l := as) (i := j) (by rw [lA, ok.len]; exact hj)
      exact ⟨_, e, (hrows j _ e).1⟩
    have asAt : ∀ {j a}, as[j]? = some a → (as.map V.ref)[j]? = some (V.ref a) := fun {j a} e => by rw [List.getElem?_map, e]; rfl
    refine ⟨(by show 0 ≤ sizeLine; omega), fun t0 n0 => ?_⟩
    have s1 := Same.new (o := .tup []) n0
    have r1 : Rdd K (upd H t0 (.tup [])) (.ref t0) (.tup (iD [])) := tup_val upd_same .nil (by simp [iD])
    generalize upd H t0 (.tup []) = H1 at s1 r1 ⊢
    have s0 : ∃ s0, S[i]? = some s0 := ⟨_, List.getElem?_eq_getElem (by rw [sc.len, ok.len]; exact hi)⟩
    obtain ⟨s0, hs0⟩ := s0
    refine ⟨fun μ σ' G => ∃ (j : Nat) (v : V) (t sj : List Nat) (g3 g4 : Option V), μ = j ∧ σ' = [some (.ref F), some (.int (j : Nat)), some v, g3, g4, none] ∧ j < ns.length ∧ Same H G ∧ Rdd K G v (.tup (iD t)) ∧ S[j]? = some sj ∧ s0 = sj ++ t ∧ t.length + j ≤ i,
      ⟨_, i, .ref t0, [], s0, none, none, rfl, rfl, hi, s1, r1, hs0, (List.append_nil _).symm, (by rw [List.length_nil]; omega)⟩, ?_⟩
    rintro μ σ' G ⟨j, v, t, sj, g3, g4, hμ, rfl, hj, sG, rv, hsj, es, lt⟩
    obtain ⟨aj, haj, hHj⟩ := rowH j hj
    have hGj := sG _ _ hHj
    have hGF := sG _ _ hF
    refine ⟨_, rfl, _, rfl, F, _, ((j : Nat) : Int), .ref aj, rfl, rfl, SqL.of hGF, atI_nat (asAt haj), (by show 0 ≤ sizeLine; omega), fun e0 ne0 => ?_⟩
    have se := Same.new (o := .lst []) ne0
    refine ⟨.list ((rowAt X j).map fun i => PyData.int (i : Nat)), .list [], .lst (SqL.of (se _ _ hGj)) (ints_dp _), .lst (SqL.of upd_same) .nil, ints_shaped _, rfl, _, rfl, ?_⟩
    rw [eqv_nil]
    have row := ok.row j _ (getX j hj)
    by_cases re : rowAt X j = []
    · -- nothing is needed
      rw [decide_eq_true re]
      refine iteF ⟨_, rfl, ?_⟩
      have en : S[j]? = some [] := sc.nil j (by rw [getX j hj, re])
      rw [hsj] at en
      have esj : sj = [] := Option.some.inj en
      rw [esj] at es
      have es2 : s0 = t := es
      exact q v s0 _ (sG.trans se) hs0 (by rw [es2]; exact Rdd.ex (Ex.same se) _ rv)
    rw [decide_eq_false re]
    obtain ⟨r1, x, erow⟩ : ∃ r1 x, rowAt X j = r1 ++ [x] := by
      rcases List.eq_nil_or_concat (rowAt X j) with e | ⟨r1, x, e⟩
      · exact absurd e re
      · exact ⟨r1, x, by rw [e, List.concat_eq_append]⟩
    have hXj : X[j]? = some (r1 ++ [x]) := by rw [getX j hj, erow]
    have hxm : x ∈ rowAt X j := by rw [erow]; exact List.mem_append_right _ (List.mem_singleton.mpr rfl)
    have hxn := rowLt j hj x hxm
    obtain ⟨vx, hvx, hnx⟩ := (row.mem x).mp hxm
    have hxj := W.lt hvx hj hnx
    have r60 := row60 j hj
    have sGe := sG.trans se
    refine iteT ⟨fun σ2 G2 => ∃ (v2 : V) (sx : List Nat) (g3 g4 : Option V), σ2 = [some (.ref F), some (.int (x : Nat)), some v2, g3, g4, none] ∧ Same H G2 ∧ Rdd K G2 v2 (.tup (iD (x :: t))) ∧ S[x]? = some sx ∧ s0 = sx ++ (x :: t), ?_, ?_⟩
    · rintro σ2 G2 ⟨v2, sx, g3, g4, rfl, s2, r2, h2, e2⟩
      exact ⟨x, by omega, x, v2, x :: t, sx, g3, g4, rfl, rfl, hxn, s2, r2, h2, e2, by rw [List.length_cons]; omega⟩
    refine ⟨(by show 0 ≤ sizeLine; omega), fun tA nA => ?_⟩
    have sA := Same.new (o := .lst []) nA
    have hA : (upd (upd G e0 (.lst [])) tA (.lst [])) tA = some (.lst (iL [])) := upd_same
    generalize hG3 : upd (upd G e0 (.lst [])) tA (.lst []) = G3 at sA hA ⊢
    have sG3 := sGe.trans sA
    have nAH : H tA = none := none_of sGe nA
    have lrow : (iL (rowAt X j)).length = (rowAt X j).length := List.length_map ..
    refine ⟨_, rfl, _, rfl, F, _, ((j : Nat) : Int), .ref aj, rfl, rfl, SqL.of (sG3 _ _ hF), atI_nat (asAt haj), aj, rfl, ⟨_, SqL.of (sG3 _ _ hHj)⟩, ?_⟩
    refine for_list (xs := iL (rowAt X j)) (fun k σ G4 => ∃ (g4 : Option V), σ = [some (.ref F), some (.int (j : Nat)), some v, some (.ref tA), g4, none] ∧ Same H G4 ∧ Off tA G3 G4 ∧ G4 tA = some (.lst (iL (if k = (rowAt X j).length then [x] else [])))) ?_ ?_ ?_ ?_
    · refine ⟨g4, rfl, sG3, .refl _ _, ?_⟩
      rw [if_neg (by rw [erow]; simp)]
      exact hA
    · rintro k σ G4 _ ⟨g4, rfl, s4, _⟩
      exact SqL.of (s4 _ _ hHj)
    · rintro k y σ G4 hy ⟨g4, rfl, s4, o4, hA4⟩
      unfold iL at hy
      rw [List.getElem?_map] at hy
      obtain ⟨one, hone, rfl⟩ := Option.map_eq_some_iff.mp hy
      have hk := (List.getElem?_eq_some_iff.mp hone).1
      have om : one ∈ rowAt X j := List.mem_of_getElem? hone
      have on := rowLt j hj one om
      rw [if_neg (by omega)] at hA4
      obtain ⟨ao, hao, hHo⟩ := rowH one on
      refine ⟨_, rfl, _, rfl, F, _, ((j : Nat) : Int), .ref aj, rfl, rfl, SqL.of (s4 _ _ hF), atI_nat (asAt haj), aj, rfl, ⟨_, SqL.of (s4 _ _ hHj)⟩, fun D2 nD2 => ?_⟩
      refine lcL ((rowAt X j).map fun o => if o ≠ one ∧ o ∉ rowAt X one then some (V.int 1) else none) (by rw [List.length_map, lrow]) (by rw [lrow]; omega) (SqL.of (s4 _ _ hHj)) nD2 ?_ ?_
      · intro i2 xv H6 Q2 Z2 hx s6 hQ hZ
        unfold iL at hx
        rw [List.getElem?_map] at hx
        obtain ⟨o, ho, rfl⟩ := Option.map_eq_some_iff.mp hx
        have at2 : ∀ (P : Prop) [Decidable P], (P ↔ (o ≠ one ∧ o ∉ rowAt X one)) → ((rowAt X j).map fun o => if o ≠ one ∧ o ∉ rowAt X one then some (V.int 1) else none)[i2]? = some (if P then some (V.int 1) else none) := fun P _ hP => by
          rw [List.getElem?_map, ho]
          show some (if o ≠ one ∧ o ∉ rowAt X one then some (V.int 1) else none) = some (if P then some (V.int 1) else none)
          by_cases h : P
          · rw [if_pos h, if_pos (hP.mp h)]
          · rw [if_neg h, if_neg fun z => h (hP.mpr z)]
        refine ⟨rfl, ?_⟩
        refine ⟨_, rfl, _, rfl, rfl, _, rfl, ?_⟩
        dsimp only
        rw [int_dec]
        by_cases e : o = one
        · rw [decide_eq_true (p := ((o : Nat) : Int) = ((one : Nat) : Int)) (by rw [e])]
          refine iteF (iteF (hZ H6 ?_ (Same.refl _)))
          rw [at2 False ⟨fun h => h.elim, fun h => h.1 e⟩]
          rfl
        · rw [decide_eq_false (p := ((o : Nat) : Int) = ((one : Nat) : Int)) fun z => e (Int.ofNat.inj z)]
          have s46 := s4.trans s6
          refine iteT ⟨_, rfl, _, rfl, _, rfl, F, _, ((one : Nat) : Int), .ref ao, rfl, rfl, SqL.of (s46 _ _ hF), atI_nat (asAt hao), ao, iL (rowAt X one), rfl, .inl (SqL.of (s46 _ _ hHo)), rfl, flat_iL _, _, rfl, ?_⟩
          rw [if_pos rfl, inV_iL]
          by_cases m : o ∈ rowAt X one
          · rw [decide_eq_true m]
            refine iteF (hZ H6 ?_ (Same.refl _))
            rw [at2 False ⟨fun h => h.elim, fun h => h.2 m⟩]
            rfl
          · rw [decide_eq_false m]
            refine iteT (hQ _ H6 ?_ (Same.refl _))
            rw [at2 True ⟨fun _ => ⟨e, m⟩, fun _ => trivial⟩]
            rfl
      · intro G5 s5 hD5
        rw [fm_ones] at hD5
        have hA5 := s5 _ _ hA4
        have top := top_iff W ok vl hXj (one := one) (by rw [← erow]; exact om)
        rw [← erow] at top
        have emp : (((rowAt X j).filter fun o => decide (o ≠ one ∧ o ∉ rowAt X one)).map fun _ => 1) = [] ↔ one = x := by
          rw [← top, List.map_eq_nil_iff, List.filter_eq_nil_iff]
          refine forall_congr' fun o => forall_congr' fun _ => ?_
          rw [decide_eq_true_eq]
          exact ⟨fun h hne => Classical.byContradiction fun z => h ⟨hne, z⟩, fun h z => z.2 (h z.1)⟩
        have kx : one = x ↔ k + 1 = (rowAt X j).length := by
          have nd := row.asc.imp fun h => Nat.ne_of_lt h
          have hl : (rowAt X j)[r1.length]? = some x := by
            rw [erow, List.getElem?_append_right (Nat.le_refl _), Nat.sub_self]
            rfl
          have ll' : (rowAt X j).length = r1.length + 1 := by rw [erow, List.length_append, List.length_singleton]
          constructor
          · intro e
            subst e
            obtain ⟨a1, a2⟩ := List.getElem?_eq_some_iff.mp hone
            obtain ⟨b1, b2⟩ := List.getElem?_eq_some_iff.mp hl
            have := (List.getElem_inj nd).mp (a2.trans b2.symm)
            omega
          · intro e
            rw [show k = r1.length by omega] at hone
            exact Option.some.inj (hone.symm.trans hl)
        refine ⟨(by show 0 ≤ sizeLine; omega), fun e1 ne1 => ?_⟩
        have s6 := Same.new (o := .lst []) ne1
        have hA6 := s6 _ _ hA5
        refine ⟨.list ((((rowAt X j).filter fun o => decide (o ≠ one ∧ o ∉ rowAt X one)).map fun _ => 1).map fun i => PyData.int (i : Nat)), .list [], .lst (SqL.of (s6 _ _ hD5)) (ints_dp _), .lst (SqL.of upd_same) .nil, ints_shaped _, rfl, _, rfl, ?_⟩
        rw [eqv_nil]
        have o6 := (o4.trans (.same s5)).trans (.same s6)
        have sH6 := (s4.trans s5).trans s6
        by_cases e : one = x
        · rw [decide_eq_true (emp.mpr e)]
          refine iteT ⟨_, rfl, .inl ⟨rfl, _, SqL.of hA6⟩, _, rfl, tA, _, _, rfl, rfl, hA6, (by show 0 < sizeLine; omega), ?_⟩
          refine ⟨_, rfl, jr_same.put sH6 nAH, o6.trans .put, ?_⟩
          rw [if_pos (kx.mp e), e]
          exact upd_same
        · rw [decide_eq_false fun z => e (emp.mp z)]
          refine iteF ⟨_, rfl, sH6, o6, ?_⟩
          rw [if_neg fun z => e (kx.mpr z)]
          exact hA6
    · rintro σ G4 ⟨g4, rfl, s4, o4, hA4⟩
      rw [lrow, if_pos rfl] at hA4
      have sGG : Same G G4 := fun b o e => o4 b o (ne_of_none (se _ _ e) nA) (sA _ _ (se _ _ e))
      obtain ⟨tv, ys, rfl, hv, hys, _⟩ := (Rdd.ex (Ex.same sGG) _ rv).tupd'
      have eys := iD_ints hys
      have lys : ys.length = t.length := by rw [eys, List.length_map]
      obtain ⟨s', hsx, hsj'⟩ := sc.one j _ x hXj List.getLast?_concat
      have esj : sj = s' ++ [x] := Option.some.inj (hsj.symm.trans hsj')
      have e2 : s0 = s' ++ (x :: t) := by rw [es, esj, List.append_assoc]; rfl
      refine ⟨_, rfl, tA, _, (0 : Int), V.int (x : Nat), rfl, rfl, SqL.of hA4, atI_nat (j := 0) rfl, (by show 1 ≤ sizeLine; omega), fun p np => ?_⟩
      have s5 := Same.new (o := .tup [V.int (x : Nat)]) np
      have hp5 : (upd G4 p (.tup [V.int (x : Nat)])) p = some (.tup [V.int (x : Nat)]) := upd_same
      generalize upd G4 p (.tup [V.int (x : Nat)]) = G5 at s5 hp5 ⊢
      have hA5 := s5 _ _ hA4
      refine ⟨_, rfl, p, tv, [V.int (x : Nat)], ys, rfl, rfl, SqT.of hp5, (Ex.same s5).tup hv, by rw [List.length_singleton]; omega, fun e => (by cases e), fun _ ey => ?_, fun _ _ p2 np2 => ?_⟩
      · have et : t = [] := List.length_eq_zero_iff.mp (by rw [← lys, ey]; rfl)
        refine ⟨_, rfl, tA, _, (0 : Int), V.int (x : Nat), rfl, rfl, SqL.of hA5, atI_nat (j := 0) rfl, ?_⟩
        refine ⟨_, s', _, _, rfl, s4.trans s5, ?_, hsx, e2⟩
        rw [et]
        exact tup_val hp5 (.cons (.int _) .nil) (by simp [iD])
      · have s6 := Same.new (o := .tup ([V.int (x : Nat)] ++ ys)) np2
        refine ⟨_, rfl, tA, _, (0 : Int), V.int (x : Nat), rfl, rfl, SqL.of (s6 _ _ hA5), atI_nat (j := 0) rfl, ?_⟩
        refine ⟨_, s', _, _, rfl, (s4.trans s5).trans s6, tup_val upd_same ?_ ?_, hsx, e2⟩
        · rw [eys]
          exact ints_iD (x :: t)
        · unfold iD
          rw [List.length_map, List.length_cons]
          omega
end
end Sl

set_option Elab.async false
set_option linter.all false
set_option maxRecDepth 100000
set_option maxHeartbeats 400000
/-! ## _law_scopes -/
namespace Sl
open PySem PySem.Spec PyProof.Rows L2
abbrev sLScopes : Stmt := topT 39
theorem scLScopes : FnScope ["_law_nodes", "_law_needs_here", "_law_at"] ["_law_nodes"] (defScope sLScopes) := ⟨rfl, rfl, rfl, by decide +kernel, rfl, by decide +kernel, by decide +kernel⟩
theorem rows_one {ns : List GN} {X R : List (List Nat)} (h : RowsOk ns X) (h' : RowsOk ns R) : X = R := by
  apply List.ext_getElem?
  intro i
  by_cases hi : i < ns.length
  · have a := List.getElem?_eq_getElem (l := X) (i := i) (by rw [h.len]; exact hi)
    have b := List.getElem?_eq_getElem (l := R) (i := i) (by rw [h'.len]; exact hi)
    rw [a, b, (h.row i _ a).one (h'.row i _ b)]
  · rw [List.getElem?_eq_none (by rw [h.len]; omega), List.getElem?_eq_none (by rw [h'.len]; omega)]
section
variable {P : Program} {w : World} {K : PySem.W.Frag} {mg : Str → Option Value} {base : Heap}
def spLScopes (K : PySem.W.Frag) : Sp := fun vs H Q _ => ∃ (l : Addr) (us : List V) (ns : List GN) (R S : List (List Nat)), vs = [.ref l] ∧ SqL K H l us ∧ RddAll K H us (ns.map ndD) ∧ (∀ g ∈ ns, Rng ns.length g) ∧ Own ns ∧ Wo ns ∧ ns.length ≤ 60 ∧ RowsOk ns R ∧ Sc R S ∧
  ∀ p H', Same H H' → H p = none → RowsAt K H' p S → Q (.ref p) H'
theorem ok_lScopes {f fN fS fB : Addr} {fd fdN fdS fdB : FuncData} (F : Fun K "_law_scopes" "_law_scopes" sLScopes f fd) (FN : Fun K "_law_needs" "_law_needs" sLNeeds fN fdN) (bN : Binds K fdN ["_law_nodes"] []) (gN : mg "_law_needs" = some (.ref fN))
    (FS : Fun K "_law_scope" "_law_scope" sLScope fS fdS) (bS : Binds K fdS ["_law_needs_here", "_law_at"] []) (gS : mg "_law_scope" = some (.ref fS)) (FB : Fun K "_law_below" "_law_below" sLBelow fB fdB) (bB : Binds K fdB ["_law_node"] []) (gB : mg "_law_below" = some (.ref fB)) (B : Bt mg) :
    FnOk P w K mg base CX0 3 f fd ["_law_nodes"] (spLScopes K) := by
  have GN' : FnOk P w K mg base CX0 2 fN fdN ["_law_nodes"] (spLNeeds K) := ok_lNeeds FN FB bB gB B
  have GS : FnOk P w K mg base CX0 1 fS fdS ["_law_needs_here", "_law_at"] (spLScope K) := ok_lScope FS B
  refine F.ok scLScopes (fun vs H Q E h => ?_) (fun cdv A outer s H vs Q E hr h => ?_)
  · obtain ⟨l, us, ns, R, S, rfl, _⟩ := h
    rfl
  · obtain ⟨l, us, ns, R, S, rfl, hl, hus, hg, ow, W, hn, okR, sc, q⟩ := h
    have h1 := hr.mono (by decide : 1 ≤ 2)
    have sl := sizeLine_eq
    --D
    refine ⟨_, (pss_cons (ps_set (i := 1) scLScopes.nd rfl (Or.inr rfl) (pe_call GN' hr (by rfl) gN FN.kp bN .nil pass0 (pa_cons (pv 0) pa_nil)))
        (pss_one (ps_ret (pe_lc (own := [("_law_at", 2)]) (g := gName 2) (tt := tYes) (te := tCall (spLScope K) [] E0 (tCons (tVar 1) (tCons (tVar 2) tNil))) rfl scLScopes.nd (pi_range1 (by rfl) B.range (pa_cons (pe_callB call_len_seq (by rfl) B.len PySem.boot_len (pa_cons (pv 0) pa_nil)) pa_nil)) (blkOk_by (own := [("_law_at", 2)]) (N := ["_law_nodes", "_law_needs_here", "_law_at"]) (sc := defScope sLScopes) (by decide +kernel)) (fun _ _ _ _ _ => pg_name (i := 2) scLScopes.nd rfl (Or.inl rfl)) (fun _ _ _ _ _ => pts_nil) (fun _ _ _ _ _ => by exact (pe_call GS h1 (by rfl) gS FS.kp bS .nil pass0 (pa_cons (pv 1) (pa_cons (pv 2) pa_nil)))))))), ?_⟩
    --E
    have lu : us.length = ns.length := by rw [hus.length, List.length_map]
    refine ⟨_, rfl, l, us, ns, rfl, hl, hus, hg, ow, hn, fun F1 H1 X s1 nF ll ok => ?_⟩
    have eX : X = R := rows_one ok okR
    subst eX
    have lS : S.length = ns.length := by rw [sc.len, ok.len]
    refine ⟨_, rfl, l, us, rfl, .inl (Same.seq s1 hl), ((us.length : Nat) : Int), rfl, by omega, by omega, fun D0 nD => ?_⟩
    refine lcJR (K := K) (lo := 0) (n := us.length) (Pd := fun i d => ∃ s, S[i]? = some s ∧ d = .tup (iD s)) jr_same (Same.refl _) (by omega) nD ?_ ?_
    · intro i H2 Q2 Z2 hi s2 hQ
      refine ⟨rfl, ?_⟩
      refine iteT (B := Z2 H2) ⟨_, rfl, _, rfl, F1, X, S, ns, i, by rw [Int.zero_add]; rfl, ll.same s2, ok, W, ow, hn, sc, by omega, fun v s3 H3 hs3 hS rv => hQ v H3 _ hs3 rv ⟨s3, hS, rfl⟩⟩
    · intro H2 ys ds s2 hD ry ld pd
      have ed : ds = S.map fun r => .tup (iD r) := by
        apply List.ext_getElem?
        intro i
        rw [List.getElem?_map]
        by_cases hi : i < ds.length
        · obtain ⟨s3, h1, h2⟩ := pd i _ (List.getElem?_eq_getElem hi)
          rw [List.getElem?_eq_getElem hi, h1, h2]
          rfl
        · rw [List.getElem?_eq_none (by omega), List.getElem?_eq_none (by omega)]
          rfl
      rw [ed] at ry
      exact q D0 H2 (s1.trans s2) (none_of s1 nD) ⟨ys, hD, ry⟩
end
end Sl

set_option Elab.async false
set_option linter.all false
set_option maxRecDepth 100000
set_option maxHeartbeats 400000
namespace Sl
open PySem PySem.Spec PyProof.Rows L2
theorem _root_.L2.Same.fr {H H1 : Hp} {p : Addr} (s : Same H H1) (n : H1 p = none) : H p = none := by
  cases e : H p with
  | none => rfl
  | some o =>
    rw [s _ _ e] at n
    cases n
/-! ### displays: what they give, piece by piece -/
section
variable {K : PySem.W.Frag} {σ : L2.St} {G : Hp}
/-- the expression gives a value of this kind and changes nothing that stood -/
def Gv (K : PySem.W.Frag) (σ : L2.St) (G : Hp) (te : TE) (d : D) : Prop := ∀ (H : Hp) (Q : VK), Same G H → (∀ v H', Same H H' → Rdd K H' v d → Q v H') → te σ H Q
def Gva (K : PySem.W.Frag) (σ : L2.St) (G : Hp) (ta : TA) (ds : List D) : Prop := ∀ (H : Hp) (Q : List V → Hp → Prop), Same G H → (∀ vs H', Same H H' → RddAll K H' vs ds → Q vs H') → ta σ H Q
theorem gv_int (i : Int) : Gv K σ G (tC (.int i)) (.int i) := fun H Q _ q => q _ H (Same.refl _) (.int i)
theorem gv_bl (b : Bool) : Gv K σ G (tC (.bl b)) (.bl b) := fun H Q _ q => q _ H (Same.refl _) (.bl b)
theorem gv_non : Gv K σ G (tC .non) .non := fun H Q _ q => q _ H (Same.refl _) .non
theorem gv_str (x : Str) : Gv K σ G (tC (.str x)) (.str x) := fun H Q _ q => q _ H (Same.refl _) (.str x)
theorem gv_var {i : Nat} {v : V} {d : D} (h : σ[i]? = some (some v)) (r : Rdd K G v d) : Gv K σ G (tVar i) d := fun H Q s q => ⟨v, h, q _ H (Same.refl _) (Rdd.ex (.same s) d r)⟩
theorem gva_nil : Gva K σ G tNil [] := fun H Q _ q => q _ H (Same.refl _) .nil
theorem gva_cons {te : TE} {ta : TA} {d : D} {ds : List D} (h1 : Gv K σ G te d) (h2 : Gva K σ G ta ds) : Gva K σ G (tCons te ta) (d :: ds) := fun H Q s q =>
  h1 H _ s fun v H1 s1 r1 => h2 H1 _ (s.trans s1) fun vs H2 s2 r2 => q _ _ (s1.trans s2) (.cons (Rdd.ex (.same s2) d r1) r2)
theorem gv_tup {ta : TA} {ds : List D} (h : Gva K σ G ta ds) (hz : ds.length ≤ 100000 := by first | decide | (simp only [List.length_cons, List.length_nil]; omega)) : Gv K σ G (tTup ta) (.tup ds) := fun H Q s q =>
  h H _ s fun vs H1 s1 r1 => by
    have hl := r1.length
    have h2 : sizeLine = 16777216 := sizeLine_eq
    refine ⟨by omega, fun p np => ?_⟩
    have s2 := Same.new (o := .tup vs) np
    exact q _ _ (s1.trans s2) (.tup (SqT.of upd_same) (RddAll.ex (.same s2) _ r1) hz)
theorem gv_lst {ta : TA} {ds : List D} (h : Gva K σ G ta ds) (hz : ds.length ≤ 100000 := by first | decide | (simp only [List.length_cons, List.length_nil]; omega)) : Gv K σ G (tLst ta) .lst := fun H Q s q =>
  h H _ s fun vs H1 s1 r1 => by
    have hl := r1.length
    have h2 : sizeLine = 16777216 := sizeLine_eq
    refine ⟨by omega, fun p np => ?_⟩
    exact q _ _ (s1.trans (Same.new np)) (.lst (.base (.lst upd_same)))
/-- a list display, its items known -/
theorem lst_gv {ta : TA} {ds : List D} {H : Hp} {Q : VK} (h : Gva K σ G ta ds) (s : Same G H) (hz : ds.length ≤ 100000) (q : ∀ p vs H', H p = none → Same H H' → H' p = some (.lst vs) → RddAll K H' vs ds → Q (.ref p) H') : tLst ta σ H Q :=
  h H _ s fun vs H1 s1 r1 => by
    have hl := r1.length
    have h2 : sizeLine = 16777216 := sizeLine_eq
    refine ⟨by omega, fun p np => ?_⟩
    have s2 := Same.new (o := .lst vs) np
    exact q p vs _ (s1.fr np) (s1.trans s2) upd_same (RddAll.ex (.same s2) _ r1)
theorem lst_gvE {ta : TA} {H : Hp} {Q : VK} (h : ∃ ds, Gva K σ G ta ds ∧ 1 ≤ ds.length ∧ ds.length ≤ 1000) (s : Same G H) (q : ∀ ds p vs H', 1 ≤ ds.length ∧ ds.length ≤ 1000 → H p = none → Same H H' → H' p = some (.lst vs) → RddAll K H' vs ds → Q (.ref p) H') : tLst ta σ H Q := by
  obtain ⟨ds, h1, h2⟩ := h
  exact lst_gv h1 s (by omega) (q ds · · · h2)
theorem gv_dict {te : TE} (h : ∀ H Q, (∀ p, H p = none → Q (.ref p) (upd H p (.dK []))) → te σ H Q) : Gv K σ G te .dct := fun H Q s q =>
  h H Q fun p np => q _ _ (Same.new np) (.dct (.base (.dK upd_same)))
theorem gv_opI {C : Int → Int → Prop} {g : Int → Int → Int} {ta tb : TE} {i j : Int} (h1 : Gv K σ G ta (.int i)) (h2 : Gv K σ G tb (.int j)) (hc : C i j) : Gv K σ G (tOp (rI C fun i j => .int (g i j)) ta tb) (.int (g i j)) := fun H Q s q =>
  h1 H _ s fun v H1 s1 r1 => h2 H1 _ (s.trans s1) fun u H2 s2 r2 => by
    cases r1
    cases r2
    exact ⟨i, j, rfl, rfl, hc, q _ _ (s1.trans s2) (.int _)⟩
theorem gv_opI0 {g : Int → Int → Int} {ta tb : TE} {i j : Int} (h1 : Gv K σ G ta (.int i)) (h2 : Gv K σ G tb (.int j)) : Gv K σ G (tOp (rI0 fun i j => .int (g i j)) ta tb) (.int (g i j)) := fun H Q s q =>
  h1 H _ s fun v H1 s1 r1 => h2 H1 _ (s.trans s1) fun u H2 s2 r2 => by
    cases r1
    cases r2
    exact ⟨i, j, rfl, rfl, q _ _ (s1.trans s2) (.int _)⟩
end
end Sl

set_option Elab.async false
set_option linter.all false
set_option maxRecDepth 100000
set_option maxHeartbeats 400000
/-! ### more of displays -/
namespace Sl
open PySem PySem.Spec PyProof.Rows L2
theorem gName_at {i : Nat} {v : V} {σ : L2.St} {H : Hp} {Q : L2.St → Hp → Prop} : gName i v σ H Q = Q (σ.set i (some v)) H := rfl
section
variable {K : PySem.W.Frag} {σ : L2.St} {G : Hp}
theorem RddAll.rep' {H : Hp} {vs : List V} {ds : List D} (h : RddAll K H vs ds) : ∀ k : Nat, RddAll K H (List.replicate k vs).flatten (List.replicate k ds).flatten
  | 0 => .nil
  | k + 1 => by
    rw [List.replicate_succ, List.replicate_succ, List.flatten_cons, List.flatten_cons]
    exact h.app' (RddAll.rep' h k)
theorem gv_rep' {ta tk : TE} {ds : List D} {k : Int} (h1 : Gv K σ G ta (.tup ds)) (h2 : Gv K σ G tk (.int k)) (hne : ds ≠ []) (k0 : 2 ≤ k) (k1 : k ≤ 1000) (hz : ds.length ≤ 1000) (hk : k.toNat * ds.length ≤ 100000) : Gv K σ G (tOp (rRepA K) ta tk) (.tup (List.replicate k.toNat ds).flatten) := fun H Q s q =>
  h1 H _ s fun v H1 s1 r1 => h2 H1 _ (s.trans s1) fun u H2 s2 r2 => by
    cases r2
    have r1' := Rdd.ex (.same s2) _ r1
    cases r1' with
    | @tup a xs _ hs ha hl =>
      have e := ha.length
      refine ⟨_, k, _, rfl, rfl, hs, fun z => hne ?_, by omega, k1, by omega, fun z => absurd z (by omega), fun _ p np => ?_⟩
      · rw [z] at e
        exact List.eq_nil_of_length_eq_zero e.symm
      · have sp := Same.new (o := .tup (List.replicate k.toNat xs).flatten) np
        refine q _ _ ((s1.trans s2).trans sp) (.tup (SqT.of upd_same) ((RddAll.ex (.same sp) _ ha).rep' k.toNat) ?_)
        rw [PyProof.Rows.lm_len_rep_flat]
        exact hk
theorem gv_list' {te : TE} {ds : List D} (h1 : Gv K σ G te (.tup ds)) : Gv K σ G (tCB (fun xs H Q => ∃ p ys, xs = [.ref p] ∧ (SqL K H p ys ∨ SqT K H p ys) ∧ ∀ l, H l = none → Q (.ref l) (upd H l (.lst ys))) (tCons te tNil)) .lst := fun H Q s q =>
  h1 H _ s fun v H1 s1 r1 => by
    cases r1 with
    | tup hs ha _ => exact ⟨_, _, rfl, .inr hs, fun l nl => q _ _ (s1.trans (Same.new nl)) (.lst (.base (.lst upd_same)))⟩
/-- {"x": value} -/
theorem gv_disp1 {x : Str} {tv : TE} {d : D} (h : Gv K σ G tv d) : Gv K σ G (tDisp [(tC (.str x), tv)]) .dct := fun H Q s q p np => by
  have s0 := Same.new (o := .dK []) np
  refine h _ _ (s.trans s0) fun v H1 s1 r1 => ⟨s1 _ _ upd_same, [(.inr x, v)], rfl, Nat.le_of_ble_eq_true rfl, q _ _ (fun b o hb => ?_) (.dct (.base (.dK upd_same)))⟩
  have e : b ≠ p := ne_of_none hb np
  rw [upd_ne e]
  exact s1 _ _ (by rw [upd_ne e]; exact hb)
/-- l = l + [..] -/
theorem ts_cat {i : Nat} {ta : TA} {es ds : List D} {l : Addr} {vs : List V} {H : Hp} {rest : TS} {D0 : Ends} (hv : σ[i]? = some (some (.ref l))) (hl : H l = some (.lst vs)) (r : RddAll K H vs ds) (h : Gva K σ H ta es) (hd : ds.length ≤ 1000) (he : es.length ≤ 1000)
    (q : ∀ p ws H', H p = none → Same H H' → H' p = some (.lst ws) → RddAll K H' ws (ds ++ es) → rest D0 (σ.set i (some (.ref p))) H') : tSeq (tAsg (tOp rCat (tVar i) (tLst ta)) (gName i)) rest D0 σ H := by
  show ∃ v, σ[i]? = some (some v) ∧ tLst ta σ H fun y H1 => rCat v y H1 fun x H2 => rest D0 (σ.set i (some x)) H2
  refine ⟨_, hv, lst_gv h (Same.refl H) (by omega) fun p us H1 n1 s1 h1 r1 => ⟨l, p, vs, us, rfl, rfl, s1 _ _ hl, h1, ?_, fun p2 n2 => ?_⟩⟩
  · have e1 := r.length
    have e2 := r1.length
    rw [sizeLine_eq]
    omega
  · have s2 := Same.new (o := .lst (vs ++ us)) n2
    have s12 := s1.trans s2
    exact q p2 _ _ (s1.fr n2) s12 upd_same ((RddAll.ex (.same s12) _ r).app' (RddAll.ex (.same s2) _ r1))
/-- l = [..] -/
theorem ts_lst {i : Nat} {ta : TA} {es : List D} {H : Hp} {rest : TS} {D0 : Ends} (h : Gva K σ H ta es) (he : es.length ≤ 1000)
    (q : ∀ p ws H', H p = none → Same H H' → H' p = some (.lst ws) → RddAll K H' ws es → rest D0 (σ.set i (some (.ref p))) H') : tSeq (tAsg (tLst ta) (gName i)) rest D0 σ H := by
  show tLst ta σ H fun x H1 => rest D0 (σ.set i (some x)) H1
  exact lst_gv h (Same.refl H) (by omega) fun p us H1 n1 s1 h1 r1 => q p us H1 n1 s1 h1 r1
end
end Sl

set_option Elab.async false
set_option linter.all false
set_option maxRecDepth 100000
set_option maxHeartbeats 400000
/-! ## len, == of instances of own classes (with a dict) -/
namespace Sl
open PySem PySem.Spec PyProof.Rows L2
section
variable {X : Cx} {CX : CXT} {C g : Addr} {n : Nat} {sp : Sp} {E : XK}
/-- the callee runs below the running body -/
theorem run_own {pins : List (Addr × Obj)} {σ : L2.St} {H : Hp} {s : Shared} {A : Around} {Q : VK} {us : List Value} {ws : List V} (F : FnR X.prog X.w X.K X.mg X.base CX n g sp) (hr : Room n A) (e0 : Env0 X.prog X.w X.K X.mg X.base A X.stack s H) (hx : Passes CX X E) (I : Inv X pins σ H s) (r : Vals ws us) (h : sp ws H Q E) :
    codeAny (model X.prog X.w) A (.call (.ref g) ⟨us, []⟩) (fun r s' => match r with | .ok (.ret v) => EP X pins σ Q v s' | .ok _ => False | .error e => X.xe e s') s := by
  refine codeAny_mono (F A X.stack s H us ws Q E hr e0 r h) fun r s' hq => ?_
  cases r with
  | error e => exact hx pins σ H s e s' I hq
  | ok fl =>
    cases fl with
    | ret u => exact I.after hq
    | next => exact False.elim hq
    | brk => exact False.elim hq
    | cont => exact False.elim hq
/-- len(o): o.__len__() -/
def rLenOwn (C : Addr) (sp : Sp) (E : XK) : List V → Hp → VK → Prop := fun xs H Q => ∃ a dx fs, xs = [V.ref a] ∧ H a = some (.ins C dx fs) ∧ sp [.ref a] H (fun z H' => ∃ i : Nat, z = .int (i : Nat) ∧ i < 2 ^ 62 ∧ Q z H') E
theorem call_lenOwn (hs : PySem.W.findIn X.K (.ref C) "__len__" = some (some (.ref g))) (hf : PySem.W.isFn X.K (.ref g) = true) (F : FnR X.prog X.w X.K X.mg X.base CX n g sp) (hr : Room (n + 1) X.A) (hx : Passes CX X E) : CallR X (.builtin "len") (rLenOwn C sp E) := by
  intro pins s σ H xs us Q I r h
  obtain ⟨a, dx, fs, rfl, ea, q⟩ := h
  obtain ⟨u, rfl, ru⟩ := r.one
  cases (show u = Value.ref a from ru)
  obtain ⟨mA, O, _⟩ := ins_get I.hok ea
  obtain ⟨od, J, _⟩ := O.look
  obtain ⟨m, hF⟩ := I.fr
  refine PySem.W.len_K hF I.ok.mod.kin J hs hf (wpAny_mono (wpAny_call (run_own (us := [.ref a]) (ws := [.ref a]) F hr.in1 I.env0.in1 hx I (.cons rfl .nil) q)) (fun w s' z => ?_) fun _ _ x => x)
  obtain ⟨z', H', I', rz, i, ei, hi, qz⟩ := z
  subst ei
  obtain ⟨t, e⟩ := (show ∃ t, w = Value.int (i : Nat) t from rz)
  cases e
  exact ⟨⟨by omega, by omega⟩, .int (i : Nat), H', I'.tok _, ⟨_, rfl⟩, qz⟩
/-- x == y, both instances of the class at C whose __eq__ is at g -/
def rEqOwn (C : Addr) (sp : Sp) (E : XK) : R2 := fun x y H Q => ∃ a dx fs b dy gs, x = .ref a ∧ y = .ref b ∧ H a = some (.ins C dx fs) ∧ H b = some (.ins C dy gs) ∧ sp [x, y] H Q E
theorem op_eqOwn (hs : PySem.W.findIn X.K (.ref C) "__eq__" = some (some (.ref g))) (hf : PySem.W.isFn X.K (.ref g) = true) (F : FnR X.prog X.w X.K X.mg X.base CX n g sp) (hr : Room n X.A) (hx : Passes CX X E) : OpR X (compareOp .Eq) (rEqOwn C sp E) := by
  intro pins s σ H x y v u Q I rx ry h
  obtain ⟨a, dx, fs, b, dy, gs, rfl, rfl, ha, hb, q⟩ := h
  cases (show v = Value.ref a from rx)
  cases (show u = Value.ref b from ry)
  obtain ⟨mA, O, _⟩ := ins_get I.hok ha
  obtain ⟨mB, O', _⟩ := ins_get I.hok hb
  obtain ⟨od, J, _⟩ := O.look
  obtain ⟨od', J', _⟩ := O'.look
  obtain ⟨m, hF⟩ := I.fr
  refine PySem.W.cmp_K (op := .Eq) (tb := .ref C) hr.units0 hF I.ok.mod.kin J J'.type (by simp [PySem.W.notFirst]) hs hf ?_
  refine wpAny_mono (wpAny_call (run_own (us := [.ref a, .ref b]) (ws := [.ref a, .ref b]) F hr I.env0 hx I (.cons rfl (.cons rfl .nil)) q)) (fun w s' z => ?_) fun _ _ x => x
  obtain ⟨z', H', I', rz, qz⟩ := z
  exact SlX.cmpback rz ⟨z', H', I', rz, qz⟩
end
end Sl

set_option Elab.async false
set_option linter.all false
set_option maxRecDepth 100000
set_option maxHeartbeats 400000
/-! ## o[i], != of instances of own classes (with a dict) -/
namespace Sl
open PySem PySem.Spec PyProof.Rows L2
section
variable {X : Cx} {CX : CXT} {C g : Addr} {n : Nat} {sp : Sp} {E : XK} {a b : Expr} {ta tb : TE} {pos : Pos}
/-- o[i]: o.__getitem__(i) -/
def rIxOwn (C : Addr) (sp : Sp) (E : XK) : R2 := fun x y H Q => ∃ a dx fs, x = .ref a ∧ H a = some (.ins C dx fs) ∧ sp [x, y] H Q E
theorem pe_ixOwn (hs : PySem.W.findIn X.K (.ref C) "__getitem__" = some (some (.ref g))) (hf : PySem.W.fnIn X.K g = true) (hfn : PySem.W.isFn X.K (.ref g) = true) (F : FnR X.prog X.w X.K X.mg X.base CX n g sp) (hr : Room (n + 1) X.A) (hx : Passes CX X E) (ha : PE X a ta) (hb : PE X b tb)
    (hsl : ∀ (x : Addr) (i : Value), subscripted b true (.ref x) i = runValue (.builtin "lifetime.subscript" ⟨[.ref x, i], []⟩) := by intro _ _; with_unfolding_all rfl) : PE X (.Subscript a b pos) (tOp (rIxOwn C sp E) ta tb) := by
  refine ⟨fun pins s σ H Q I h => ?_⟩
  refine Subscript_ (binT ha hb I h fun v u s2 x y H2 I2 rx ry q => ?_)
  obtain ⟨a0, dx, fs, rfl, hH, q⟩ := q
  cases (show v = Value.ref a0 from rx)
  obtain ⟨mA, O, _⟩ := ins_get I2.hok hH
  obtain ⟨od, J, _⟩ := O.look
  obtain ⟨m, hF⟩ := I2.fr
  refine PySem.W.sub_K hF I2.ok.mod.kin J hs hf hfn ?_ (hsl a0 u)
  exact wpAny_mono (wpAny_call (run_own (us := [.ref a0, u]) (ws := [.ref a0, y]) F hr.in1 I2.env0.in1 hx I2 (.cons rfl (.cons ry .nil)) q)) (fun _ _ z => z) fun _ _ z => z
end
end Sl

set_option Elab.async false
set_option linter.all false
set_option maxRecDepth 100000
set_option maxHeartbeats 400000
/-! ## != of instances of own classes by their own __eq__ -/
namespace Sl
open PySem PySem.Spec PyProof.Rows L2 Builtin
section
variable {prog : Program} {w : World} {A : Around} {E : Value → Shared → Prop} {s : Shared} {K : PySem.W.Frag} {x y C L g : Addr} {h₀ : Heap} {m : Str → Option Value} {ox : Obj} {od : Option Obj}
theorem entry_neOwn (hu : A.units < cLine) (X : K.In s.heap) (I : PySem.W.InstAt s.heap x ox C od) (hs : PySem.W.findIn K (.ref C) "__eq__" = some (some (.ref g))) (hf : PySem.W.isFn K (.ref g) = true) {Q : Fin → Shared → Prop}
    (hcall : wpAny (model prog w) A (call (.ref g) [.ref x, .ref y]) (fun v s' => ∃ b, v = .bool b ∧ Q (.done (.ret (.bool (!b)))) s') E s) : wpAny (model prog w) A (Builtin.«object.__ne__» ⟨[.ref x, .ref y], []⟩) Q E s := by
  unfold Builtin.«object.__ne__»
  repeat (first
    | with_reducible refine wpAny_cRoomFor hu ?_
    | (refine wpAny_bind (m := callSpecialIfBound? (.ref x) (Str.ofString "__eq__") [.ref y])
        (PySem.W.ifBound_K X I hs hf (wpAny_mono hcall (fun r s' hr => by
          obtain ⟨b, rfl, hq⟩ := hr
          repeat (first | exact hq | exact wpAny_pure hq | exact wpAny_truthy_bool hq | (refine wpAny_bind (m := truthy (.bool _)) (wpAny_truthy_bool ?_)) | wp_step)) fun _ _ e => e)))
    | wp_step)
theorem ifBound_objNe {M : Model} {args : List Value} {Q : Option Value → Shared → Prop} (X : K.In s.heap) (I : PySem.W.InstAt s.heap x ox C od) (hs : PySem.W.findIn K (.ref C) "__ne__" = some (some (.builtin "object.__ne__")))
    (h : wpAny M A (call (.builtin "object.__ne__") (.ref x :: args)) (fun v => Q (some v)) E s) : wpAny M A (callSpecialIfBound? (.ref x) "__ne__" args) Q E s := by
  simp only [callSpecialIfBound?, bindSpecialIfBound?]
  refine wpAny_holding (wpAny_bind (wpAny_bind (wpAny_bind (I.type.here ((PySem.W.looks_findIn X hs).here ?_)))))
  refine wpAny_bind (wpAny_askSetting (wpAny_ite ?_))
  have fin : wpAny M A (call (.builtin "object.__ne__") ([.ref x] ++ args) >>= fun v => pure (some v)) Q E s := wpAny_bind (wpAny_mono h (fun v s' h' => wpAny_pure h') fun _ _ h' => h')
  split
  · exact wpAny_bind (wpAny_of_eq (PySem.F.cmp_object.ne.bind _) (wpAny_pure (by exact fin)))
  · exact wpAny_tryCatch (wpAny_bind (wpAny_of_eq (PySem.F.cmp_object.ne.bind _) (wpAny_pure (by exact fin))))
theorem call_objNe {Q : Value → Shared → Prop} (hu : A.in1.units < cLine) (X : K.In s.heap) (I : PySem.W.InstAt s.heap x ox C od) (hm : PySem.W.mroIn K C (.type "object") = some true) (hs : PySem.W.findIn K (.ref C) "__eq__" = some (some (.ref g))) (hf : PySem.W.isFn K (.ref g) = true)
    (hcall : wpAny (model prog w) A.in1 (call (.ref g) [.ref x, .ref y]) (fun v s' => ∃ b, v = .bool b ∧ Q (.bool (!b)) s') E s) : wpAny (model prog w) A (call (.builtin "object.__ne__") [.ref x, .ref y]) Q E s :=
  wpAny_call (codeAny_call_builtin PySem.F.cmp_object.ne.plain PySem.F.cmpEntry_ne (PySem.W.check_slot PySem.F.cmpKind_ne PySem.F.cmpSplit_ne (I.type.andThen (PySem.W.looks_mroIn X hm)) (PySem.F.cmpArgs_ne _ _) (entry_neOwn hu X I hs hf hcall)))
end
section
variable {X : Cx} {CX : CXT} {C g : Addr} {n : Nat} {sp : Sp} {E : XK}
/-- x != y, both instances of the class at C whose __eq__ is at g -/
def rNeOwn (C : Addr) (sp : Sp) (E : XK) : R2 := fun x y H Q => ∃ a dx fs b dy gs, x = .ref a ∧ y = .ref b ∧ H a = some (.ins C dx fs) ∧ H b = some (.ins C dy gs) ∧ sp [x, y] H (fun z H' => ∃ k : Bool, z = .bl k ∧ Q (.bl (!k)) H') E
theorem op_neOwn (hne : PySem.W.findIn X.K (.ref C) "__ne__" = some (some (.builtin "object.__ne__"))) (hm : PySem.W.mroIn X.K C (.type "object") = some true) (hs : PySem.W.findIn X.K (.ref C) "__eq__" = some (some (.ref g))) (hf : PySem.W.isFn X.K (.ref g) = true)
    (F : FnR X.prog X.w X.K X.mg X.base CX n g sp) (hr : Room (n + 1) X.A) (hx : Passes CX X E) : OpR X (compareOp .NotEq) (rNeOwn C sp E) := by
  intro pins s σ H x y v u Q I rx ry h
  obtain ⟨a, dx, fs, b, dy, gs, rfl, rfl, ha, hb, q⟩ := h
  cases (show v = Value.ref a from rx)
  cases (show u = Value.ref b from ry)
  obtain ⟨mA, O, _⟩ := ins_get I.hok ha
  obtain ⟨mB, O', _⟩ := ins_get I.hok hb
  obtain ⟨od, J, _⟩ := O.look
  obtain ⟨od', J', _⟩ := O'.look
  have one : wpAny (model X.prog X.w) X.A (tryCompare (.ref a) "__ne__" (.ref b)) (fun r s' => ∃ v, r = some v ∧ EP X pins σ Q v s') X.xe s := by
    unfold tryCompare
    refine wpAny_bind (ifBound_objNe I.kIn J hne (call_objNe hr.in1.units0 I.kIn J hm hs hf (wpAny_mono (wpAny_call (run_own (us := [.ref a, .ref b]) (ws := [.ref a, .ref b]) F hr.in1 I.env0.in1 hx I (.cons rfl (.cons rfl .nil)) q)) (fun w' s' z => ?_) fun _ _ e => e)))
    obtain ⟨z', H', I', rz, k, ek, qz⟩ := z
    subst ek
    cases (show w' = Value.bool k from rz)
    exact ⟨k, rfl, wpAny_pure ⟨.bool (!k), rfl, .bl (!k), H', I', rfl, qz⟩⟩
  show wpAny (model X.prog X.w) X.A (richCompare .NotEq (.ref a) (.ref b)) (EP X pins σ Q) X.xe s
  unfold richCompare
  simp only [oneThing_ref]
  refine wpAny_holding ?_
  refine wpAny_bind (wpAny_cRoomFor hr.units0 ?_)
  rw [cmpInfo_NotEq]
  dsimp only
  refine wpAny_bind (J.type.here (wpAny_bind (J'.type.here ?_)))
  rw [show (Value.ref C != Value.ref C) = false from by simp]
  simp only [Bool.false_eq_true, if_false]
  refine wpAny_bind (wpAny_pure ?_)
  simp only [Bool.false_eq_true, if_false]
  refine wpAny_bind (wpAny_mono one (fun r s' z => ?_) fun _ _ e => e)
  obtain ⟨v, rfl, hq⟩ := z
  exact wpAny_pure hq
end
end Sl

set_option Elab.async false
set_option linter.all false
set_option maxRecDepth 100000
set_option maxHeartbeats 400000
/-! ## str(o) by own __str__ -/
namespace Sl
open PySem PySem.Spec PyProof.Rows L2
section
variable {X : Cx} {CX : CXT} {C g : Addr} {n : Nat} {sp : Sp} {E : XK}
def rStrOwn (C : Addr) (sp : Sp) (E : XK) : List V → Hp → VK → Prop := fun xs H Q => ∃ a dx fs, xs = [V.ref a] ∧ H a = some (.ins C dx fs) ∧ sp [.ref a] H (fun z H' => ∃ t : Str, z = .str t ∧ Q z H') E
theorem call_strOwn (hs : PySem.W.findIn X.K (.ref C) "__str__" = some (some (.ref g))) (hf : PySem.W.isFn X.K (.ref g) = true) (F : FnR X.prog X.w X.K X.mg X.base CX n g sp) (hr : Room (n + 2) X.A) (hx : Passes CX X E) : CallR X (.type "str") (rStrOwn C sp E) := by
  intro pins s σ H xs us Q I r h
  obtain ⟨a, dx, fs, rfl, ea, q⟩ := h
  obtain ⟨u, rfl, ru⟩ := r.one
  cases (show u = Value.ref a from ru)
  obtain ⟨mA, O, _⟩ := ins_get I.hok ea
  obtain ⟨od, J, _⟩ := O.look
  refine PySem.W.kso_call hr.in1.in1.units0 I.kIn J hs hf (wpAny_mono (wpAny_call (run_own (us := [.ref a]) (ws := [.ref a]) F hr.in1.in1 I.env0.in1.in1 hx I (.cons rfl .nil) q)) (fun w s' z => ?_) fun _ _ x => x)
  obtain ⟨z', H', I', rz, t, et, qz⟩ := z
  subst et
  obtain ⟨tk, e⟩ := (show ∃ tk, w = Value.str t tk from rz)
  cases e
  exact ⟨.str t, H', I', ⟨_, rfl⟩, qz⟩
end
end Sl

set_option Elab.async false
set_option linter.all false
set_option maxRecDepth 100000
set_option maxHeartbeats 400000
/-! ## o == y by own __eq__, y of any kind that isinstance's rule knows -/
namespace Sl
open PySem PySem.Spec PyProof.Rows L2
section
variable {X : Cx} {CX : CXT} {C g : Addr} {n : Nat} {sp : Sp} {E : XK}
def rEqOwnT (K : PySem.W.Frag) (C : Addr) (sp : Sp) (E : XK) : R2 := fun x y H Q => ∃ a dx fs t, x = .ref a ∧ H a = some (.ins C dx fs) ∧ TyX K H y t ∧ PySem.W.notFirst K C t = true ∧ sp [x, y] H (fun z H' => ∃ k : Bool, z = .bl k ∧ Q z H') E
theorem op_eqOwnT (hs : PySem.W.findIn X.K (.ref C) "__eq__" = some (some (.ref g))) (hf : PySem.W.isFn X.K (.ref g) = true) (F : FnR X.prog X.w X.K X.mg X.base CX n g sp) (hr : Room n X.A) (hx : Passes CX X E) : OpR X (compareOp .Eq) (rEqOwnT X.K C sp E) := by
  intro pins s σ H x y v u Q I rx ry h
  obtain ⟨a, dx, fs, t, rfl, ha, ty, nf, q⟩ := h
  cases (show v = Value.ref a from rx)
  obtain ⟨mA, O, _⟩ := ins_get I.hok ha
  obtain ⟨od, J, _⟩ := O.look
  obtain ⟨P, Z, p, _⟩ := kit_of I ry ty
  obtain ⟨m, hF⟩ := I.fr
  refine PySem.W.cmp_K (op := .Eq) (tb := t) hr.units0 hF I.ok.mod.kin J (Z.ty _ _ I.kIn p) nf hs hf ?_
  refine wpAny_mono (wpAny_call (run_own (us := [.ref a, u]) (ws := [.ref a, y]) F hr I.env0 hx I (.cons rfl (.cons ry .nil)) q)) (fun w s' z => ?_) fun _ _ x => x
  obtain ⟨z', H', I', rz, k, ek, qz⟩ := z
  subst ek
  exact SlX.cmpback rz ⟨.bl k, H', I', rz, qz⟩
end
end Sl

set_option Elab.async false
set_option linter.all false
set_option maxRecDepth 100000
set_option maxHeartbeats 400000
/-! ## for x in o, o of an own class whose __iter__ gives iter(tuple) -/
namespace Sl
open PySem PySem.Spec PyProof.Rows L2
/-- as FnR, where the promise may speak of how many places the heap has -/
def FnY (P : Program) (w : World) (K : PySem.W.Frag) (mg : Str → Option Value) (base : Heap) (CX : CXT) (k : Nat) (f : Addr) (sp : Nat → Sp) : Prop :=
  ∀ (A : Around) (outer : List PySem.Env) (s : Shared) (H : Hp) (us : List Value) (vs : List V) (Q : VK) (E : XK), Room k A → Env0 P w K mg base A outer s H → Vals vs us → sp s.heap.objs.size vs H Q E →
    codeAny (model P w) A (.call (.ref f) ⟨us, []⟩) (CR CX outer P w H s Q E) s
section
variable {P : Program} {w : World} {K : PySem.W.Frag} {mg : Str → Option Value} {base : Heap}
theorem okY {x qual : Str} {st : Stmt} {f : Addr} {fd : FuncData} {N ps : List Str} {k : Nat} {sp : Nat → Sp} (F : Fun K x qual st f fd) (S : FnScope N ps (defScope st)) (bd : Binds K fd ps []) (size : ∀ n xs G Q E, sp n xs G Q E → xs.length = ps.length)
    (body : ∀ (cdv : Value) (A : Around) (l : List PySem.Env) (z : Shared) (G : Hp) (xs : List V) (Q : VK) (E : XK), Room k (A.deeper (envOfC qual (defScope st) z.heap.objs.size f cdv)) → sp z.heap.objs.size xs G Q E →
      ∃ t, PSs (cxOf (L2.CX P w) P w K mg base N qual (defScope st) f cdv A l z G E) (defBody st) t ∧ t { nx := fun _ G' => Q .non G', rt := Q } (start N xs) G) :
    FnY P w K mg base (L2.CX P w) (k + 1) f sp := by
  obtain ⟨oc, od, kV, doc, pm, an, cdv, ct, osl, rfl, lk, hcd⟩ := F.ex
  intro A l z G us xs Q E hr e0 r hsp
  have hl := size _ _ _ _ _ hsp
  have inK : K.In z.heap := e0.mod.kin.keeps fun b o e => (e0.bs b o e).1
  have lim : z.heap.NoLimit := e0.mod.nolimit.keeps fun b o e => (e0.bs b o e).1
  have hb := bd z us inK (by rw [List.append_nil, ← r.length]; exact hl)
  rw [List.append_nil] at hb
  have kinds : ∀ y ∈ ps.zip us, (defScope st).names.lookup y.1 = some .local ∨ ((defScope st).names.lookup y.1 = some .cell ∧ ((cellsFrom (z.heap.objs.size + 1) (defScope st).names []).lookup y.1).isSome = true) := by
    intro ⟨n, v⟩ hy
    cases S.par n (List.of_mem_zip hy).1 with
    | inl q => exact Or.inl q
    | inr q => exact Or.inr ⟨q, PySem.W.cellsFrom_some _ _ _ (Or.inl q)⟩
  apply codeAny_call_function hr.depth (inK _ _ lk) rfl S.co S.gen rfl (PySem.W.codeRec_of inK hcd) (hb _ _ _ _ ?_)
  apply wpAny_newFunctionEnv_cells S.kind kinds
  intro env he z1 y
  subst he
  refine ⟨lim.keeps y.toInCall.keep, codeAny_func ?_⟩
  obtain ⟨t, ht, hq⟩ := body cdv A l z G xs Q E (hr.deeper _) hsp
  have I0 := inv_start (CX := L2.CX P w) (N := N) (qual := qual) (scope := defScope st) (f := f) (cd := cdv) (E := E) S hr.hd e0 hl r y
  apply wpAny_mono (ht.run [] z1 (start N xs) G _ I0 hq) ?_ (fun e z' hz => hz)
  intro fl z' hz
  match fl, hz with
  | .ret u, ⟨v, σ', G', J, rv, q⟩ => exact ⟨v, G', J.os, J.bare, J.base, J.hok, rv, q⟩
  | .next, ⟨σ', G', J, q⟩ => exact ⟨V.non, G', J.os, J.bare, J.base, J.hok, rfl, q⟩
  | .brk, ⟨_, _, _, q⟩ => exact q.elim
  | .cont, ⟨_, _, _, q⟩ => exact q.elim
end
/-- at it the iterator of the tuple at t, at its place i -/
def ItT (t it : Addr) (i : Nat) : HO := .ext fun h => h.IsTupleIter it t i
theorem itT_ok {P : Program} {w : World} {H : Hp} {h : Heap} {t it : Addr} {i : Nat} (e : h.IsTupleIter it t i) : ObjOk P w H h it (ItT t it i) := by
  refine ⟨e, ?_, fun h1 h2 q k => q.at fun o => k o⟩
  obtain ⟨o, ho, _⟩ := e
  exact ⟨o, ho⟩
section
variable {X : Cx} {pins : List (Addr × Obj)} {σ : L2.St} {H : Hp} {s : Shared} {t it : Addr} {i : Nat}
theorem itT_get (I : Inv X pins σ H s) (e : H it = some (ItT t it i)) : s.heap.IsTupleIter it t i := (I.hok it _ e).1
/-- iter(t) -/
def rIterT (K : PySem.W.Frag) (n : Nat) : List V → Hp → VK → Prop := fun xs H Q => ∃ (t : Addr) (zs : List V), xs = [.ref t] ∧ SqT K H t zs ∧ ∀ it, H it = Option.none → n ≤ it → Q (.ref it) (upd H it (ItT t it 0))
theorem call_iterT : CallR X (.builtin "iter") (rIterT X.K X.s_0.heap.objs.size) := by
  intro pins s σ H xs us Q I r h
  obtain ⟨l, zs, rfl, hq, q⟩ := h
  obtain ⟨u, rfl, ru⟩ := r.one
  cases (show u = Value.ref l from ru)
  obtain ⟨its, rv, pl, hz⟩ := I.tuple hq
  have e : wpAny (model X.prog X.w) X.A (call (.builtin "iter") [.ref l]) (fun u s' => u = .ref s.heap.objs.size ∧ s' = { s with heap := s.heap.push { cls := .type "tuple_iterator", data := .fields #[.ref l, .int 0 0] } }) (fun _ _ => False) s := by
    refine Calls.call_function_entry (by decide +kernel) (by decide +kernel) PySem.W.kdk_entry_iter (PySem.W.kdk_args_iter _) ?_
    unfold Builtin.«iter»
    refine wpAny_bind (m := someArgs "iter" 1 2 _) (wpAny_of_eq (a := [Value.ref l]) (by first | rfl | kernel_rfl!) ?_)
    show wpAny _ _ (pyIter (.ref l) >>= _) _ _ _
    refine wpAny_bind (wpAny_pyIter_tuple (show s.heap.IsTuple l its.toArray from pl) ?_)
    exact wpAny_pure ⟨_, rfl, rfl, rfl⟩
  refine wpAny_mono e (fun u s' h => ?_) fun _ _ z => z.elim
  obtain ⟨rfl, rfl⟩ := h
  exact ⟨.ref s.heap.objs.size, _, I.laid (t' := s.toks) (fun b u e => Heap.get?_push_of_some _ e) (Nat.le_refl _) (itT_ok ⟨_, Heap.get?_push_size _ rfl, rfl, rfl⟩), rfl, q _ (I.hok.fresh (Nat.le_refl _)) I.sz⟩
end
section
variable {X : Cx} {CX : CXT} {C g : Addr} {n : Nat} {sp : Nat → Sp} {E : XK}
/-- what an own __iter__ gives: a tuple's iterator -/
def spIt (K : PySem.W.Frag) (sp : Nat → Sp) (E : XK) (a : Addr) (H : Hp) (R : Addr → Hp → Prop) : Prop :=
  ∀ m, sp m [.ref a] H (fun v H' => ∃ (t it : Addr) (zs : List V), v = .ref it ∧ H' it = some (ItT t it 0) ∧ m ≤ it ∧ SqT K (ItX.dropH H' it) t zs ∧ R t (ItX.dropH H' it)) E
/-- the iterator of an own instance has come -/
theorem own_it {pins : List (Addr × Obj)} {σ : L2.St} {H : Hp} {s : Shared} {A : Around} {a dx : Addr} {fs : List (Str × V)} {R : Addr → Hp → Prop} {W : Value → Shared → Prop} (hs : PySem.W.findIn X.K (.ref C) "__iter__" = some (some (.ref g))) (hf : PySem.W.isFn X.K (.ref g) = true) (F : FnY X.prog X.w X.K X.mg X.base CX n g sp)
    (hr : Room n A) (hA : A.frames = X.A.frames) (hx : Passes CX X E) (I : Inv X pins σ H s) (ha : H a = some (.ins C dx fs)) (h : spIt X.K sp E a H R)
    (hW : ∀ (t it : Addr) (H' : Hp) (s' : Shared) (zs : List V), Inv X pins σ H' s' → s'.heap.IsTupleIter it t 0 → FpOk X pins H' it → s.heap.objs.size ≤ it → SqT X.K H' t zs → R t H' → W (.ref it) s') : wpAny (model X.prog X.w) A (pyIter (.ref a)) W X.xe s := by
  obtain ⟨mA, J, _⟩ := ins_get I.hok ha
  obtain ⟨od, J, _⟩ := J.look
  obtain ⟨m, hF⟩ := I.fr
  refine PySem.W.owit_iter hF I.ok.mod.kin J hs hf ?_
  have e0 : Env0 X.prog X.w X.K X.mg X.base A X.stack s H := by
    have e := I.env0
    exact ⟨by rw [hA]; exact e.frames, e.mod, e.bs, e.bsz, e.funs, e.frf, e.hok, e.bare⟩
  refine wpAny_call (codeAny_mono (F A X.stack s H [.ref a] [.ref a] _ E hr e0 (.cons rfl .nil) (h s.heap.objs.size)) fun r s' hq => ?_)
  cases r with
  | error e => exact hx pins σ H s e s' I hq
  | ok fl =>
    cases fl with
    | next => exact False.elim hq
    | brk => exact False.elim hq
    | cont => exact False.elim hq
    | ret u =>
      obtain ⟨v, H', I', rv, t, it, zs, ev, eit, hm, sq, q⟩ := I.after hq
      subst ev
      cases rv
      have st := itT_get I' eit
      have eit' := eit
      unfold ItT at eit'
      unfold PySem.W.OwitIt
      exact wpAny_specialOf st.typeIs PySem.F.slot_tuple_iterator_next.lookup (hW t it _ s' zs (ItX.inv_drop I' eit') st (ItX.inv_fp I' eit' (Nat.le_trans I.sz hm)) hm sq q)
/-- for x in o -/
def iOwn (K : PySem.W.Frag) (C : Addr) (sp : Nat → Sp) (E : XK) (te : TE) : TI := fun σ H R => te σ H fun x H1 => ∃ a dx fs, x = .ref a ∧ H1 a = some (.ins C dx fs) ∧ spIt K sp E a H1 fun t H' => R (Itt K t) H'
theorem pi_own {tg e : Expr} {te : TE} (hs : PySem.W.findIn X.K (.ref C) "__iter__" = some (some (.ref g))) (hf : PySem.W.isFn X.K (.ref g) = true) (F : FnY X.prog X.w X.K X.mg X.base CX n g sp) (hr : Room n X.A) (hx : Passes CX X E) (he : PE X e te) : PI X tg e (iOwn X.K C sp E te) := by
  refine ⟨fun pins s σ H R I h => ?_⟩
  refine thn (he.run pins s σ H _ I h) fun v s1 ⟨x, H1, I1, r1, a, dx, fs, ex, ha, q⟩ => ?_
  subst ex
  cases r1
  refine own_it hs hf F hr rfl hx I1 ha q fun t it H' s' zs I' st fp hm sq hR => ?_
  refine ⟨it, [it], _, _, H', rfl, I', turn_tuple t it, st, fun b hb => ?_, hR⟩
  have e : b = it := by simpa using hb
  rw [e]
  exact fp
end
end Sl

set_option Elab.async false
set_option linter.all false
set_option maxRecDepth 100000
set_option maxHeartbeats 400000
/-! ## what a caller knows of a def, a method, a property, a class -/
namespace Sl
open PySem PySem.Spec PyProof.Rows L2
section
variable (P : Program) (w : World) (K : PySem.W.Frag) (mg : Str → Option Value) (base : Heap)
/-- a def of the top that keeps sp at level n -/
structure Uf (x : Str) (ps : List Str) (n : Nat) (sp : Sp) where
  f : Addr
  fd : FuncData
  g : mg x = some (.ref f)
  kp : PySem.W.keepIn K (.ref f) = true
  b : Binds K fd ps []
  G : FnOk P w K mg base CX0 n f fd ps sp
/-- .. where no repr is under way -/
structure Ug (x : Str) (ps : List Str) (n : Nat) (sp : Sp) where
  f : Addr
  fd : FuncData
  g : mg x = some (.ref f)
  kp : PySem.W.keepIn K (.ref f) = true
  b : Binds K fd ps []
  G : FnG P w K mg base (L2.CX P w) n f fd ps sp
/-- a method of the class at C -/
structure Um (C : Addr) (m : Str) (ps : List Str) (n : Nat) (sp : Sp) where
  f : Addr
  fd : FuncData
  M : Meth K C m f
  b : Binds K fd ps []
  G : FnOk P w K mg base CX0 n f fd ps sp
/-- a property of the class at C -/
structure Up (C : Addr) (m : Str) (n : Nat) (sp : Sp) where
  p : Addr
  f : Addr
  fd : FuncData
  M : PropOf K C m p f
  b : Binds K fd ["self"] []
  G : FnOk P w K mg base CX0 n f fd ["self"] sp
/-- an own __iter__ -/
structure Uy (C : Addr) (n : Nat) (sp : Nat → Sp) where
  f : Addr
  M : Meth K C "__iter__" f
  G : FnY P w K mg base (L2.CX P w) n f sp
/-- the making of an instance, a class's own def -/
structure Ui (C : Addr) (x : Str) (n : Nat) (sp : Sp) where
  f : Addr
  g : mg x = some (.ref C)
  M : Mk K C f
  G : FnR P w K mg base CX0 n f sp
structure Uc (C : Addr) (x m : Str) (n : Nat) (sp : Sp) where
  f : Addr
  p : Addr
  mc : Value
  g : mg x = some (.ref C)
  rd : ClX.CRead K C mc
  cm : ClX.CMet K C mc m p f
  G : FnR P w K mg base CX0 n f sp
end
theorem Um.R {P : Program} {w : World} {K : PySem.W.Frag} {mg : Str → Option Value} {base : Heap} {C : Addr} {m : Str} {ps : List Str} {n : Nat} {sp : Sp} (u : Um P w K mg base C m ps n sp) : FnR P w K mg base CX0 n u.f sp :=
  (u.G.raw u.b .nil).imp fun vs H Q E h => by rw [List.append_nil]; exact h
/-- a def of the top (before its promise is shown) -/
structure Df (K : PySem.W.Frag) (mg : Str → Option Value) (x : Str) (st : Stmt) (ps : List Str) where
  f : Addr
  fd : FuncData
  F : Fun K x x st f fd
  b : Binds K fd ps []
  g : mg x = some (.ref f)
end Sl

set_option Elab.async false
set_option linter.all false
set_option maxRecDepth 100000
set_option maxHeartbeats 400000
/-! ## Data expressions and tests, read by what they give -/
namespace Sl
open PySem PySem.Spec PyProof.Rows L2
/-! ### data without bools: equality -/
mutual
def D.dat : D → Bool
  | .non => true
  | .int _ => true
  | .str x => PyData.strOk x
  | .tup ds => D.dats ds
  | _ => false
def D.dats : List D → Bool
  | [] => true
  | d :: ds => d.dat && D.dats ds
end
theorem dats_of : ∀ {ds : List D}, (∀ d ∈ ds, d.dat = true) → D.dats ds = true
  | [], _ => rfl
  | d :: ds, h => by
    unfold D.dats
    rw [h d List.mem_cons_self, dats_of fun x hx => h x (List.mem_cons_of_mem _ hx)]
    rfl
section
variable {K : PySem.W.Frag} {H : Hp}
mutual
theorem Rdd.dpD : ∀ (d : D) {v : V}, d.dat = true → Rdd K H v d → Dp K H v d.py
  | .non, _, _, h => by cases h; exact .non
  | .bl _, _, g, _ => by cases g
  | .int i, _, _, h => by cases h; exact .int i
  | .str x, _, _, h => by cases h; exact .str x
  | .tup ds, _, g, h => by
    cases h with
    | tup hs ha _ => exact .tup hs (RddAll.dpD ds g ha)
  | .lst, _, g, _ => by cases g
  | .dct, _, g, _ => by cases g
theorem RddAll.dpD : ∀ (ds : List D) {vs : List V}, D.dats ds = true → RddAll K H vs ds → DpAll K H vs (D.pys ds)
  | [], _, _, h => by cases h; exact .nil
  | d :: ds, _, g, h => by
    cases h with
    | cons h1 h2 =>
      have g := Bool.and_eq_true_iff.mp (show (d.dat && D.dats ds) = true from g)
      exact .cons (Rdd.dpD d g.1 h1) (RddAll.dpD ds g.2 h2)
end
end
mutual
theorem dat_lay : ∀ d : D, d.dat = true → d.py.canLay0 = true
  | .non, _ => rfl
  | .bl _, g => by cases g
  | .int _, _ => rfl
  | .str x, g => g
  | .tup ds, g => dats_lay ds g
  | .lst, g => by cases g
  | .dct, g => by cases g
theorem dats_lay : ∀ ds : List D, D.dats ds = true → PyData.canLayAll0 (D.pys ds) = true
  | [], _ => rfl
  | d :: ds, g => by
    have g := Bool.and_eq_true_iff.mp (show (d.dat && D.dats ds) = true from g)
    show (d.py.canLay0 && PyData.canLayAll0 (D.pys ds)) = true
    rw [dat_lay d g.1, dats_lay ds g.2]
    rfl
end
mutual
theorem dat_eqv : ∀ (d e : D), d.dat = true → e.dat = true → (PyData.eqv d.py e.py = true ↔ d = e)
  | .non, e, _, he => by
    cases e with
    | non => exact ⟨fun _ => rfl, fun _ => rfl⟩
    | bl _ => cases he
    | lst => cases he
    | dct => cases he
    | _ => exact ⟨fun h => (by cases h), fun h => (by cases h)⟩
  | .bl _, _, g, _ => by cases g
  | .int i, e, _, he => by
    cases e with
    | int j =>
      show (i == j) = true ↔ _
      rw [beq_iff_eq]
      exact ⟨fun h => (by rw [h]), fun h => (by cases h; rfl)⟩
    | bl _ => cases he
    | lst => cases he
    | dct => cases he
    | _ => exact ⟨fun h => (by cases h), fun h => (by cases h)⟩
  | .str x, e, _, he => by
    cases e with
    | str y =>
      show (x == y) = true ↔ _
      rw [beq_iff_eq]
      exact ⟨fun h => (by rw [h]), fun h => (by cases h; rfl)⟩
    | bl _ => cases he
    | lst => cases he
    | dct => cases he
    | _ => exact ⟨fun h => (by cases h), fun h => (by cases h)⟩
  | .tup ds, e, g, he => by
    cases e with
    | tup es =>
      show PyData.eqvAll (D.pys ds) (D.pys es) = true ↔ _
      rw [dats_eqv ds es g he]
      exact ⟨fun h => (by rw [h]), fun h => (by cases h; rfl)⟩
    | bl _ => cases he
    | lst => cases he
    | dct => cases he
    | _ => exact ⟨fun h => (by cases h), fun h => (by cases h)⟩
  | .lst, _, g, _ => by cases g
  | .dct, _, g, _ => by cases g
theorem dats_eqv : ∀ (ds es : List D), D.dats ds = true → D.dats es = true → (PyData.eqvAll (D.pys ds) (D.pys es) = true ↔ ds = es)
  | [], [], _, _ => ⟨fun _ => rfl, fun _ => rfl⟩
  | [], _ :: _, _, _ => ⟨fun h => (by cases h), fun h => (by cases h)⟩
  | _ :: _, [], _, _ => ⟨fun h => (by cases h), fun h => (by cases h)⟩
  | d :: ds, e :: es, g, he => by
    have g := Bool.and_eq_true_iff.mp (show (d.dat && D.dats ds) = true from g)
    have he := Bool.and_eq_true_iff.mp (show (e.dat && D.dats es) = true from he)
    show (PyData.eqv d.py e.py && PyData.eqvAll (D.pys ds) (D.pys es)) = true ↔ _
    rw [Bool.and_eq_true_iff, dat_eqv d e g.1 he.1, dats_eqv ds es g.2 he.2]
    exact ⟨fun ⟨a, b⟩ => by rw [a, b], fun h => by cases h; exact ⟨rfl, rfl⟩⟩
end
theorem dat_shaped {d : D} (g : d.dat = true) (h : d.dep ≤ 60) : SeqAt.shaped d.py = true := by
  unfold SeqAt.shaped
  rw [dat_lay d g]
  have := dep_py d
  exact decide_eq_true (by omega)
theorem dats_shaped {ds : List D} (g : D.dats ds = true) (h : D.deps ds ≤ 60) : SeqAt.shaped (.list (D.pys ds)) = true := by
  have e : SeqAt.shaped (.list (D.pys ds)) = (PyData.canLayAll0 (D.pys ds) && decide (PyData.depthAll (D.pys ds) + 1 ≤ 64)) := rfl
  rw [e, dats_lay ds g]
  have := deps_py ds
  exact decide_eq_true (by omega)
/-! ### expressions -/
section
variable {K : PySem.W.Frag} {σ : L2.St} {G : Hp}
/-- a test that gives b and changes nothing -/
def Gt (σ : L2.St) (G : Hp) (tt : TT) (b : Bool) : Prop := ∀ (H : Hp) (Q : Bool → Hp → Prop), Same G H → (∀ H', Same H H' → Q b H') → tt σ H Q
/-- at p stands a list of these data -/
def LsD (K : PySem.W.Frag) (G : Hp) (p : Addr) (ds : List D) : Prop := ∃ us, G p = some (.lst us) ∧ RddAll K G us ds
theorem LsD.same {G' : Hp} {p : Addr} {ds : List D} (h : LsD K G p ds) (s : Same G G') : LsD K G' p ds := by
  obtain ⟨us, h1, h2⟩ := h
  exact ⟨us, s _ _ h1, RddAll.ex (.same s) _ h2⟩
theorem RddAll.atI {xs : List V} {ds : List D} {H : Hp} (h : RddAll K H xs ds) {i : Int} {d : D} (e : atI ds i = some d) : ∃ x, L2.atI xs i = some x ∧ Rdd K H x d := by
  unfold L2.atI at e ⊢
  rw [h.length]
  obtain ⟨j, h1, h2⟩ := Option.bind_eq_some_iff.mp e
  rw [h1, Option.bind_some]
  exact h.at h2
theorem Gv.mono {G' : Hp} {te : TE} {d : D} (h : Gv K σ G te d) (s : Same G G') : Gv K σ G' te d := fun H Q s2 q => h H Q (s.trans s2) q
theorem gv_len {te : TE} {ds : List D} (h : Gv K σ G te (.tup ds)) : Gv K σ G (tCB (fun xs H Q => ∃ p ys, xs = [.ref p] ∧ (SqL K H p ys ∨ SqT K H p ys) ∧ Q (.int (ys.length : Nat)) H) (tCons te tNil)) (.int (ds.length : Nat)) := fun H Q s q =>
  h H _ s fun v H1 s1 r1 => by
    obtain ⟨a, xs, rfl, hs, hx, _⟩ := r1.tupd'
    exact ⟨a, xs, rfl, .inr hs, by rw [hx.length]; exact q _ _ s1 (.int _)⟩
theorem gv_lenL {i : Nat} {p : Addr} {ds : List D} (h : σ[i]? = some (some (.ref p))) (l : LsD K G p ds) : Gv K σ G (tCB (fun xs H Q => ∃ p ys, xs = [.ref p] ∧ (SqL K H p ys ∨ SqT K H p ys) ∧ Q (.int (ys.length : Nat)) H) (tCons (tVar i) tNil)) (.int (ds.length : Nat)) := fun H Q s q => by
  obtain ⟨us, h1, h2⟩ := l.same s
  exact ⟨_, h, p, us, rfl, .inl (SqL.of h1), by rw [h2.length]; exact q _ _ (Same.refl _) (.int _)⟩
theorem gv_ix {te ti : TE} {ds : List D} {i : Int} {d : D} (h : Gv K σ G te (.tup ds)) (hi : Gv K σ G ti (.int i)) (e : atI ds i = some d) : Gv K σ G (tOp (rIxT K) te ti) d := fun H Q s q =>
  h H _ s fun v H1 s1 r1 => hi H1 _ (s.trans s1) fun u H2 s2 r2 => by
    cases r2
    obtain ⟨a, xs, rfl, hs, hx, _⟩ := (Rdd.ex (.same s2) _ r1).tupd'
    obtain ⟨x, ex, rx⟩ := hx.atI e
    exact ⟨a, xs, i, x, rfl, rfl, hs, ex, q _ _ (s1.trans s2) rx⟩
theorem gv_ixL {j : Nat} {p : Addr} {ti : TE} {ds : List D} {i : Int} {d : D} (h : σ[j]? = some (some (.ref p))) (l : LsD K G p ds) (hi : Gv K σ G ti (.int i)) (e : atI ds i = some d) : Gv K σ G (tOp (rIxL K) (tVar j) ti) d := fun H Q s q =>
  ⟨_, h, hi H _ s fun u H2 s2 r2 => by
    cases r2
    obtain ⟨us, h1, h2⟩ := l.same (s.trans s2)
    obtain ⟨x, ex, rx⟩ := h2.atI e
    exact ⟨p, us, i, x, rfl, rfl, SqL.of h1, ex, q _ _ s2 rx⟩⟩
theorem gv_cat {ta tb : TE} {ds es : List D} (h1 : Gv K σ G ta (.tup ds)) (h2 : Gv K σ G tb (.tup es)) (hz : ds.length + es.length ≤ 100000) : Gv K σ G (tOp (rCatA K) ta tb) (.tup (ds ++ es)) := fun H Q s q =>
  h1 H _ s fun v H1 s1 r1 => h2 H1 _ (s.trans s1) fun u H2 s2 r2 => by
    obtain ⟨a, xs, rfl, ha, hx, _⟩ := (Rdd.ex (.same s2) _ r1).tupd'
    obtain ⟨b, ys, rfl, hb, hy, _⟩ := r2.tupd'
    have l1 := hx.length
    have l2 := hy.length
    have hl : sizeLine = 16777216 := sizeLine_eq
    have s12 := s1.trans s2
    refine ⟨a, b, xs, ys, rfl, rfl, ha, hb, by omega, fun e => ?_, fun e e2 => ?_, fun e e2 p np => ?_⟩
    · subst e
      cases hx
      exact q _ _ s12 r2
    · subst e2
      cases hy
      rw [List.append_nil] at q
      exact q _ _ s12 (Rdd.ex (.same s2) _ r1)
    · have sp := Same.new (o := .tup (xs ++ ys)) np
      exact q _ _ (s12.trans sp) (.tup (SqT.of upd_same) ((RddAll.ex (.same sp) _ hx).app' (RddAll.ex (.same sp) _ hy)) (by rw [List.length_append]; exact hz))
theorem RddAll.tk {H : Hp} : ∀ {vs : List V} {ds : List D} (k : Nat), RddAll K H vs ds → RddAll K H (vs.take k) (ds.take k)
  | _, _, 0, _ => .nil
  | _, _, k + 1, .nil => .nil
  | _, _, k + 1, .cons a b => .cons a (b.tk k)
theorem RddAll.dr {H : Hp} : ∀ {vs : List V} {ds : List D} (k : Nat), RddAll K H vs ds → RddAll K H (vs.drop k) (ds.drop k)
  | _, _, 0, h => h
  | _, _, k + 1, .nil => .nil
  | _, _, k + 1, .cons a b => b.dr k
theorem gv_slTo {te tn : TE} {ds : List D} {n : Nat} (h : Gv K σ G te (.tup ds)) (hn : Gv K σ G tn (.int (n : Nat))) : Gv K σ G (L2.tSl (rSlA K) te tNoPart (tPart tn)) (.tup (ds.take n)) := fun H Q s q =>
  h H _ s fun v H1 s1 r1 => hn H1 _ (s.trans s1) fun u H2 s2 r2 => by
    cases r2
    have r1' := Rdd.ex (.same s2) _ r1
    obtain ⟨a, xs, rfl, ha, hx, hz⟩ := r1'.tupd'
    have s12 := s1.trans s2
    have e := hx.length
    refine ⟨_, rfl, a, xs, rfl, ha, fun ⟨_, hw⟩ => ?_, fun _ p np => ?_⟩
    · rw [HT.sIx_nat] at hw
      rw [List.take_of_length_le (by omega)] at q
      exact q _ _ s12 r1'
    · have sp := Same.new (o := .tup (cutV xs none (some ((n : Nat) : Int)))) np
      refine q _ _ (s12.trans sp) (.tup (SqT.of upd_same) ?_ (by rw [List.length_take]; omega))
      have ec : cutV xs none (some ((n : Nat) : Int)) = xs.take n := by
        unfold cutV
        rw [HT.sIx_nat, HT.sIx_none, List.drop_zero, Nat.sub_zero]
        by_cases hh : n ≤ xs.length
        · rw [Nat.min_eq_left hh]
        · rw [Nat.min_eq_right (by omega), List.take_of_length_le (by omega), List.take_of_length_le (by omega)]
      rw [ec] at sp ⊢
      exact (RddAll.ex (.same sp) _ hx).tk n
theorem gv_slFrom {te tn : TE} {ds : List D} {n : Nat} (h : Gv K σ G te (.tup ds)) (hn : Gv K σ G tn (.int (n : Nat))) : Gv K σ G (L2.tSl (rSlA K) te (tPart tn) tNoPart) (.tup (ds.drop n)) := fun H Q s q =>
  h H _ s fun v H1 s1 r1 => hn H1 _ (s.trans s1) fun u H2 s2 r2 => by
    cases r2
    have r1' := Rdd.ex (.same s2) _ r1
    obtain ⟨a, xs, rfl, ha, hx, hz⟩ := r1'.tupd'
    have s12 := s1.trans s2
    have e := hx.length
    refine ⟨_, rfl, a, xs, rfl, ha, fun ⟨hw, _⟩ => ?_, fun _ p np => ?_⟩
    · rw [HT.sIx_nat] at hw
      have : ds.drop n = ds := by
        by_cases h0 : n = 0
        · rw [h0, List.drop_zero]
        · have : ds = [] := List.eq_nil_of_length_eq_zero (by omega)
          rw [this, List.drop_nil]
      rw [this] at q
      exact q _ _ s12 r1'
    · have sp := Same.new (o := .tup (cutV xs (some ((n : Nat) : Int)) none)) np
      refine q _ _ (s12.trans sp) (.tup (SqT.of upd_same) ?_ (by rw [List.length_drop]; omega))
      have ec : cutV xs (some ((n : Nat) : Int)) none = xs.drop n := by
        unfold cutV
        rw [HT.sIx_nat, HT.sIx_none]
        by_cases hh : n ≤ xs.length
        · rw [Nat.min_eq_left hh, List.take_of_length_le (by rw [List.length_drop]; omega)]
        · rw [Nat.min_eq_right (by omega), Nat.sub_self, List.take_zero, List.drop_eq_nil_of_le (by omega)]
      rw [ec] at sp ⊢
      exact (RddAll.ex (.same sp) _ hx).dr n
theorem gv_slMid {te tm tn : TE} {ds : List D} {m n : Nat} (h : Gv K σ G te (.tup ds)) (hm : Gv K σ G tm (.int (m : Nat))) (hn : Gv K σ G tn (.int (n : Nat))) : Gv K σ G (L2.tSl (rSlA K) te (tPart tm) (tPart tn)) (.tup ((ds.drop m).take (n - m))) := fun H Q s q =>
  h H _ s fun v H1 s1 r1 => hm H1 _ (s.trans s1) fun u0 H2 s2 r0 => by
    cases r0
    refine ⟨_, rfl, hn H2 _ ((s.trans s1).trans s2) fun u H3 s3 r2 => ?_⟩
    cases r2
    have r1' := Rdd.ex (.same (s2.trans s3)) _ r1
    obtain ⟨a, xs, rfl, ha, hx, hz⟩ := r1'.tupd'
    have s12 := (s1.trans s2).trans s3
    have e := hx.length
    refine ⟨_, rfl, a, xs, rfl, ha, fun ⟨hw, hw2⟩ => ?_, fun _ p np => ?_⟩
    · rw [HT.sIx_nat] at hw hw2
      have : (ds.drop m).take (n - m) = ds := by
        by_cases h0 : m = 0
        · rw [h0, List.drop_zero, List.take_of_length_le (by omega)]
        · have : ds = [] := List.eq_nil_of_length_eq_zero (by omega)
          rw [this, List.drop_nil, List.take_nil]
      rw [this] at q
      exact q _ _ s12 r1'
    · have sp := Same.new (o := .tup (cutV xs (some ((m : Nat) : Int)) (some ((n : Nat) : Int)))) np
      refine q _ _ (s12.trans sp) (.tup (SqT.of upd_same) ?_ (by rw [List.length_take, List.length_drop]; omega))
      have ec : cutV xs (some ((m : Nat) : Int)) (some ((n : Nat) : Int)) = (xs.drop m).take (n - m) := by
        unfold cutV
        rw [HT.sIx_nat, HT.sIx_nat]
        by_cases hh : m ≤ xs.length
        · rw [Nat.min_eq_left hh]
          by_cases h2 : n ≤ xs.length
          · rw [Nat.min_eq_left h2]
          · rw [Nat.min_eq_right (by omega), List.take_of_length_le (by rw [List.length_drop]; omega), List.take_of_length_le (by rw [List.length_drop]; omega)]
        · rw [Nat.min_eq_right (show xs.length ≤ m by omega), List.drop_eq_nil_of_le (Nat.le_refl xs.length), List.drop_eq_nil_of_le (show xs.length ≤ m by omega), List.take_nil, List.take_nil]
      rw [ec] at sp ⊢
      exact ((RddAll.ex (.same sp) _ hx).dr m).tk (n - m)
theorem gv_neg {ta : TE} {i : Int} (h : Gv K σ G ta (.int i)) : Gv K σ G (tUn (rU fun i => .int (-i)) ta) (.int (-i)) := fun H Q s q =>
  h H _ s fun v H1 s1 r1 => by
    cases r1
    exact ⟨i, rfl, q _ _ s1 (.int _)⟩
theorem gv_ifE {tt : TT} {ta tb : TE} {b : Bool} {d : D} (h : Gt σ G tt b) (h1 : b = true → Gv K σ G ta d) (h2 : b = false → Gv K σ G tb d) : Gv K σ G (tIf tt ta tb) d := fun H Q s q =>
  h H _ s fun H1 s1 => by
    cases b with
    | true => exact h1 rfl H1 Q (s.trans s1) fun v H2 s2 r => q v H2 (s1.trans s2) r
    | false => exact h2 rfl H1 Q (s.trans s1) fun v H2 s2 r => q v H2 (s1.trans s2) r
/-- a call whose promise takes data to data -/
theorem gv_call {sp : Sp} {E : XK} {ta : TA} {ds : List D} {d : D} (h : Gva K σ G ta ds) (hsp : ∀ vs H Q, Same G H → RddAll K H vs ds → (∀ v H', Same H H' → Rdd K H' v d → Q v H') → sp vs H Q E) : Gv K σ G (tCall sp [] E ta) d := fun H Q s q =>
  h H _ s fun vs H1 s1 r1 => by
    rw [List.append_nil]
    exact hsp vs H1 Q (s.trans s1) r1 fun v H2 s2 r2 => q v H2 (s1.trans s2) r2
/-! ### tests -/
theorem gt_eqI {ta tb : TE} {i j : Int} (h1 : Gv K σ G ta (.int i)) (h2 : Gv K σ G tb (.int j)) : Gt σ G (tTest (tOp rEq ta tb)) (decide (i = j)) := fun H Q s q =>
  h1 H _ s fun v H1 s1 r1 => h2 H1 _ (s.trans s1) fun u H2 s2 r2 => by
    cases r1
    cases r2
    refine ⟨rfl, _, rfl, ?_⟩
    rw [show decide (V.int i = V.int j) = decide (i = j) from by by_cases h : i = j <;> simp [h]]
    exact q _ (s1.trans s2)
theorem gt_neI {ta tb : TE} {i j : Int} (h1 : Gv K σ G ta (.int i)) (h2 : Gv K σ G tb (.int j)) : Gt σ G (tTest (tOp rNe ta tb)) (!decide (i = j)) := fun H Q s q =>
  h1 H _ s fun v H1 s1 r1 => h2 H1 _ (s.trans s1) fun u H2 s2 r2 => by
    cases r1
    cases r2
    refine ⟨rfl, _, rfl, ?_⟩
    rw [show decide (V.int i = V.int j) = decide (i = j) from by by_cases h : i = j <;> simp [h]]
    exact q _ (s1.trans s2)
theorem gt_eqS {ta tb : TE} {x y : Str} (h1 : Gv K σ G ta (.str x)) (h2 : Gv K σ G tb (.str y)) : Gt σ G (tTest (tOp rEq ta tb)) (decide (x = y)) := fun H Q s q =>
  h1 H _ s fun v H1 s1 r1 => h2 H1 _ (s.trans s1) fun u H2 s2 r2 => by
    cases r1
    cases r2
    refine ⟨rfl, _, rfl, ?_⟩
    rw [show decide (V.str x = V.str y) = decide (x = y) from by by_cases h : x = y <;> simp [h]]
    exact q _ (s1.trans s2)
theorem gt_neS {ta tb : TE} {x y : Str} (h1 : Gv K σ G ta (.str x)) (h2 : Gv K σ G tb (.str y)) : Gt σ G (tTest (tOp rNe ta tb)) (!decide (x = y)) := fun H Q s q =>
  h1 H _ s fun v H1 s1 r1 => h2 H1 _ (s.trans s1) fun u H2 s2 r2 => by
    cases r1
    cases r2
    refine ⟨rfl, _, rfl, ?_⟩
    rw [show decide (V.str x = V.str y) = decide (x = y) from by by_cases h : x = y <;> simp [h]]
    exact q _ (s1.trans s2)
theorem gt_cmpI {g : Int → Int → Bool} {ta tb : TE} {i j : Int} (h1 : Gv K σ G ta (.int i)) (h2 : Gv K σ G tb (.int j)) : Gt σ G (tTest (tOp (rI0 fun i j => .bl (g i j)) ta tb)) (g i j) := fun H Q s q =>
  h1 H _ s fun v H1 s1 r1 => h2 H1 _ (s.trans s1) fun u H2 s2 r2 => by
    cases r1
    cases r2
    exact ⟨i, j, rfl, rfl, _, rfl, q _ (s1.trans s2)⟩
theorem gt_eqD {ta tb : TE} {d e : D} {b : Bool} (h1 : Gv K σ G ta d) (h2 : Gv K σ G tb e) (g1 : d.dat = true) (g2 : e.dat = true) (l1 : d.dep ≤ 60) (l2 : e.dep ≤ 60) (hb : b = true ↔ d = e) : Gt σ G (tTest (tOp (rEqD K) ta tb)) b := fun H Q s q =>
  h1 H _ s fun v H1 s1 r1 => h2 H1 _ (s.trans s1) fun u H2 s2 r2 => by
    have hv : PyData.eqv d.py e.py = b := by
      rw [Bool.eq_iff_iff, dat_eqv d e g1 g2]
      exact hb.symm
    refine ⟨d.py, e.py, Rdd.dpD d g1 (Rdd.ex (.same s2) _ r1), Rdd.dpD e g2 r2, dat_shaped g1 l1, dat_shaped g2 l2, _, rfl, ?_⟩
    rw [hv]
    exact q _ (s1.trans s2)
theorem gt_neD {ta tb : TE} {d e : D} {b : Bool} (h1 : Gv K σ G ta d) (h2 : Gv K σ G tb e) (g1 : d.dat = true) (g2 : e.dat = true) (l1 : d.dep ≤ 60) (l2 : e.dep ≤ 60) (hb : b = true ↔ d = e) : Gt σ G (tTest (tOp (rNeD K) ta tb)) (!b) := fun H Q s q =>
  h1 H _ s fun v H1 s1 r1 => h2 H1 _ (s.trans s1) fun u H2 s2 r2 => by
    have hv : PyData.eqv d.py e.py = b := by
      rw [Bool.eq_iff_iff, dat_eqv d e g1 g2]
      exact hb.symm
    refine ⟨d.py, e.py, Rdd.dpD d g1 (Rdd.ex (.same s2) _ r1), Rdd.dpD e g2 r2, dat_shaped g1 l1, dat_shaped g2 l2, _, rfl, ?_⟩
    rw [hv]
    exact q _ (s1.trans s2)
theorem gt_not {tt : TT} {b : Bool} (h : Gt σ G tt b) : Gt σ G (tNot tt) (!b) := fun H Q s q => h H _ s q
theorem gt_and {t u : TT} {a b : Bool} (h : Gt σ G t a) (h2 : a = true → Gt σ G u b) : Gt σ G (tAnd t u) (a && b) := fun H Q s q =>
  h H _ s fun H1 s1 => by
    cases a with
    | true => exact h2 rfl H1 Q (s.trans s1) fun H2 s2 => q H2 (s1.trans s2)
    | false => exact q H1 s1
theorem gt_or {t u : TT} {a b : Bool} (h : Gt σ G t a) (h2 : a = false → Gt σ G u b) : Gt σ G (tOr t u) (a || b) := fun H Q s q =>
  h H _ s fun H1 s1 => by
    cases a with
    | true => exact q H1 s1
    | false => exact h2 rfl H1 Q (s.trans s1) fun H2 s2 => q H2 (s1.trans s2)
theorem gt_val {te : TE} {b : Bool} (h : Gv K σ G te (.bl b)) : Gt σ G (tB te) b := fun H Q s q =>
  h H _ s fun v H1 s1 r1 => by
    cases r1
    exact ⟨b, rfl, q _ s1⟩
theorem Gt.mono {G' : Hp} {tt : TT} {b : Bool} (h : Gt σ G tt b) (s : Same G G') : Gt σ G' tt b := fun H Q s2 q => h H Q (s.trans s2) q
/-! ### statements -/
theorem stmt_cut {t : TS} {D0 : Ends} {σ : L2.St} {H : Hp} (C : L2.St → Hp → Prop) (h1 : ∀ D1 : Ends, D1.rt = D0.rt → (∀ σ' H', C σ' H' → D1.nx σ' H') → t D1 σ H) (h2 : ∀ σ' H', C σ' H' → D0.nx σ' H') : t D0 σ H := h1 D0 rfl h2
theorem nx_ {D0 : Ends} (h : D0.nx σ G) : tNext D0 σ G := h
theorem sq_ {t u : TS} {D0 : Ends} (h : t { D0 with nx := u D0 } σ G) : tSeq t u D0 σ G := h
theorem tif_gt {tt : TT} {t u : TS} {b : Bool} {D0 : Ends} (h : Gt σ G tt b) (q : ∀ H', Same G H' → if b = true then t D0 σ H' else u D0 σ H') : tIfS tt t u D0 σ G := h G _ (Same.refl _) q
theorem tret_gv {te : TE} {d : D} {D0 : Ends} (h : Gv K σ G te d) (q : ∀ v H', Same G H' → Rdd K H' v d → D0.rt v H') : tRet te D0 σ G := h G _ (Same.refl _) q
theorem tasg_gv {te : TE} {d : D} {i : Nat} {D0 : Ends} (h : Gv K σ G te d) (q : ∀ v H', Same G H' → Rdd K H' v d → D0.nx (σ.set i (some v)) H') : tAsg te (gName i) D0 σ G := h G _ (Same.refl _) q
end
end Sl

set_option Elab.async false
set_option linter.all false
set_option maxRecDepth 100000
set_option maxHeartbeats 400000
/-! ## Lists of data that a def makes and fills -/
namespace Sl
open PySem PySem.Spec PyProof.Rows L2
theorem iD_dats (l : List Nat) : D.dats (iD l) = true := dats_of fun d hd => by
  obtain ⟨i, _, rfl⟩ := List.mem_map.mp hd
  rfl
theorem deps_le {n : Nat} : ∀ {ds : List D}, (∀ d ∈ ds, d.dep ≤ n) → D.deps ds ≤ n
  | [], _ => Nat.zero_le _
  | d :: ds, h => by
    have h1 := h d List.mem_cons_self
    have h2 := deps_le (ds := ds) fun x hx => h x (List.mem_cons_of_mem _ hx)
    show max d.dep (D.deps ds) ≤ n
    omega
theorem iD_deps (l : List Nat) : D.deps (iD l) ≤ 0 := deps_le fun d hd => by
  obtain ⟨i, _, rfl⟩ := List.mem_map.mp hd
  exact Nat.le_refl _
abbrev LsT := List (Addr × List V × List D)
/-- what stood in H0 stands in H; at the addresses of L, which are new, stand lists of data -/
structure TrD (K : PySem.W.Frag) (H0 H : Hp) (L : LsT) : Prop where
  same : Same H0 H
  hold : ∀ x ∈ L, H x.1 = some (.lst x.2.1) ∧ RddAll K H x.2.1 x.2.2
  nd : (L.map (·.1)).Nodup
  fr : ∀ x ∈ L, H0 x.1 = none
section
variable {K : PySem.W.Frag} {H0 H H' : Hp} {L : LsT} {σ : L2.St} {i j : Nat} {a p : Addr} {us : List V} {ds : List D} {d : D}
theorem TrD.nil (H : Hp) : TrD K H H [] := ⟨Same.refl _, (fun x h => by cases h), List.nodup_nil, (fun x h => by cases h)⟩
theorem TrD.at (t : TrD K H0 H L) (e : L[j]? = some (a, us, ds)) : H a = some (.lst us) ∧ RddAll K H us ds := t.hold _ (List.mem_of_getElem? e)
theorem TrD.ls (t : TrD K H0 H L) (e : L[j]? = some (a, us, ds)) : LsD K H a ds := ⟨us, t.at e⟩
theorem TrD.go (t : TrD K H0 H L) (s : Same H H') : TrD K H0 H' L := ⟨t.same.trans s, fun x hx => ⟨s _ _ (t.hold x hx).1, RddAll.ex (.same s) _ (t.hold x hx).2⟩, t.nd, t.fr⟩
theorem TrD.new (t : TrD K H0 H L) (n : H p = none) (r : RddAll K H us ds) : TrD K H0 (upd H p (.lst us)) ((p, us, ds) :: L) := by
  have s := Same.new (o := .lst us) n
  refine ⟨t.same.trans s, fun x hx => ?_, ?_, fun x hx => ?_⟩
  · rcases List.mem_cons.mp hx with rfl | hx
    · exact ⟨upd_same, RddAll.ex (.same s) _ r⟩
    · exact ⟨s _ _ (t.hold x hx).1, RddAll.ex (.same s) _ (t.hold x hx).2⟩
  · refine List.nodup_cons.mpr ⟨fun hm => ?_, t.nd⟩
    obtain ⟨x, hx, e⟩ := List.mem_map.mp hm
    have := (t.hold x hx).1
    rw [e, n] at this
    cases this
  · rcases List.mem_cons.mp hx with rfl | hx
    · exact t.same.fr n
    · exact t.fr x hx
theorem TrD.app (t : TrD K H0 H L) (n : H p = none) (h : H' p = some (.lst us)) (s : Same H H') (r : RddAll K H' us ds) : TrD K H0 H' ((p, us, ds) :: L) := by
  refine ⟨t.same.trans s, fun x hx => ?_, ?_, fun x hx => ?_⟩
  · rcases List.mem_cons.mp hx with rfl | hx
    · exact ⟨h, r⟩
    · exact ⟨s _ _ (t.hold x hx).1, RddAll.ex (.same s) _ (t.hold x hx).2⟩
  · refine List.nodup_cons.mpr ⟨fun hm => ?_, t.nd⟩
    obtain ⟨x, hx, e⟩ := List.mem_map.mp hm
    have := (t.hold x hx).1
    rw [e, n] at this
    cases this
  · rcases List.mem_cons.mp hx with rfl | hx
    · exact t.same.fr n
    · exact t.fr x hx
theorem TrD.tail {x : Addr × List V × List D} (t : TrD K H0 H (x :: L)) : TrD K H0 H L := ⟨t.same, fun y hy => t.hold y (List.mem_cons_of_mem _ hy), (List.nodup_cons.mp t.nd).2, fun y hy => t.fr y (List.mem_cons_of_mem _ hy)⟩
theorem TrD.perm {L' : LsT} (p : L'.Perm L) (t : TrD K H0 H L) : TrD K H0 H L' := ⟨t.same, fun x hx => t.hold x (p.mem_iff.mp hx), ((p.map _).nodup_iff).mpr t.nd, fun x hx => t.fr x (p.mem_iff.mp hx)⟩
theorem TrD.swap {x y : Addr × List V × List D} (t : TrD K H0 H (x :: y :: L)) : TrD K H0 H (y :: x :: L) := t.perm (.swap ..)
theorem TrD.ne {b : Addr} {vs : List V} {es : List D} (t : TrD K H0 H ((a, us, ds) :: (b, vs, es) :: L)) : a ≠ b := fun e => by
  have := (List.nodup_cons.mp t.nd).1
  rw [e] at this
  exact this List.mem_cons_self
/-- the j-th list takes a new value -/
theorem TrD.put {ws : List V} {es : List D} (t : TrD K H0 H L) (e : L[j]? = some (a, us, ds)) (r : RddAll K H ws es) : TrD K H0 (upd H a (.lst ws)) (L.set j (a, ws, es)) := by
  have ha := (t.at e).1
  have ex : Ex H (upd H a (.lst ws)) := Off.ex (a := a) .put ha upd_same
  have hj := (List.getElem?_eq_some_iff.mp e).1
  have ef : (L.set j (a, ws, es)).map (·.1) = L.map (·.1) := by
    apply List.ext_getElem?
    intro k
    rw [List.getElem?_map, List.getElem?_map, List.getElem?_set]
    split
    · next h =>
      subst h
      rw [e]
      rfl
    · rfl
  have other : ∀ k x, k ≠ j → L[k]? = some x → x.1 ≠ a := fun k x hk hx z => by
    have h1 : (L.map (·.1))[k]? = some a := by rw [List.getElem?_map, hx, ← z]; rfl
    have h2 : (L.map (·.1))[j]? = some a := by rw [List.getElem?_map, e]; rfl
    obtain ⟨l1, e1⟩ := List.getElem?_eq_some_iff.mp h1
    obtain ⟨l2, e2⟩ := List.getElem?_eq_some_iff.mp h2
    exact hk ((List.getElem_inj t.nd).mp (e1.trans e2.symm))
  refine ⟨fun b o hb => ?_, fun x hx => ?_, by rw [ef]; exact t.nd, fun x hx => ?_⟩
  · rw [upd_ne (ne_of_none hb (t.fr _ (List.mem_of_getElem? e)))]
    exact t.same b o hb
  · obtain ⟨k, hk⟩ := List.getElem?_of_mem hx
    rw [List.getElem?_set] at hk
    split at hk
    · cases hk
      exact ⟨upd_same, RddAll.ex ex _ r⟩
    · next hne =>
      have := other k x (fun z => hne z.symm) hk
      have hm := t.hold x (List.mem_of_getElem? hk)
      exact ⟨by rw [upd_ne this]; exact hm.1, RddAll.ex ex _ hm.2⟩
  · obtain ⟨k, hk⟩ := List.getElem?_of_mem hx
    rw [List.getElem?_set] at hk
    split at hk
    · cases hk
      exact t.fr (a, us, ds) (List.mem_of_getElem? e)
    · exact t.fr _ (List.mem_of_getElem? hk)
/-- xs.append(e) -/
theorem tapp_gv {te : TE} {D0 : Ends} (t : TrD K H0 H L) (hv : σ[i]? = some (some (.ref a))) (e : L[j]? = some (a, us, ds)) (hz : ds.length ≤ 1000000) (h : Gv K σ H te d)
    (q : ∀ v H', TrD K H0 H' (L.set j (a, us ++ [v], ds ++ [d])) → Ex H H' → D0.nx σ H') : tDrop (tBM K "list" rAppend (tVar i) (tCons te tNil)) D0 σ H := by
  have sl := sizeLine_eq
  refine ⟨_, hv, .inl ⟨rfl, _, SqL.of (t.at e).1⟩, ?_⟩
  refine h H _ (Same.refl _) fun v H1 s1 r1 => ?_
  have t1 := t.go s1
  have ⟨h1, h2⟩ := t1.at e
  refine ⟨a, us, v, rfl, rfl, h1, (by have := h2.length; omega), ?_⟩
  exact q v _ (t1.put e (RddAll.snoc h2 r1)) ((Ex.same s1).trans (Off.ex (a := a) .put h1 upd_same))
/-- xs = [] -/
theorem tnew {D0 : Ends} {x : Nat} (t : TrD K H0 H L) (q : ∀ p H', TrD K H0 H' ((p, [], []) :: L) → Same H H' → D0.nx (σ.set x (some (.ref p))) H') : tAsg (tLst tNil) (gName x) D0 σ H :=
  ⟨Nat.zero_le _, fun p np => q p _ (t.new np .nil) (Same.new np)⟩
theorem gt_neNil (h : σ[i]? = some (some (.ref p))) (l : LsD K H p ds) (g : D.dats ds = true) (dp : D.deps ds ≤ 60) : Gt σ H (tTest (tOp (rNeD K) (tVar i) (tLst tNil))) (!ds.isEmpty) := fun H1 Q s q => by
  obtain ⟨us, h1, h2⟩ := l.same s
  refine ⟨_, h, Nat.zero_le _, fun e ne => ?_⟩
  have se := Same.new (o := .lst []) ne
  refine ⟨.list (D.pys ds), .list [], .lst (SqL.of (se _ _ h1)) (RddAll.dpD ds g (RddAll.ex (.same se) _ h2)), .lst (SqL.of upd_same) .nil, dats_shaped g dp, rfl, _, rfl, ?_⟩
  have : PyData.eqv (.list (D.pys ds)) (.list []) = ds.isEmpty := by cases ds <;> rfl
  rw [this]
  exact q _ se
theorem gt_eqNil (h : σ[i]? = some (some (.ref p))) (l : LsD K H p ds) (g : D.dats ds = true) (dp : D.deps ds ≤ 60) : Gt σ H (tTest (tOp (rEqD K) (tVar i) (tLst tNil))) ds.isEmpty := fun H1 Q s q => by
  obtain ⟨us, h1, h2⟩ := l.same s
  refine ⟨_, h, Nat.zero_le _, fun e ne => ?_⟩
  have se := Same.new (o := .lst []) ne
  refine ⟨.list (D.pys ds), .list [], .lst (SqL.of (se _ _ h1)) (RddAll.dpD ds g (RddAll.ex (.same se) _ h2)), .lst (SqL.of upd_same) .nil, dats_shaped g dp, rfl, _, rfl, ?_⟩
  have : PyData.eqv (.list (D.pys ds)) (.list []) = ds.isEmpty := by cases ds <;> rfl
  rw [this]
  exact q _ se
theorem lit_neNil {Q : Bool → Hp → Prop} (l : LsD K H p ds) (g : D.dats ds = true) (dp : D.deps ds ≤ 60) (q : ∀ H', Same H H' → Q (!ds.isEmpty) H') : tLst tNil σ H fun y H2 => rNeD K (.ref p) y H2 fun x H' => ∃ k, x = .bl k ∧ Q k H' := by
  obtain ⟨us, h1, h2⟩ := l
  refine ⟨Nat.zero_le _, fun e ne => ?_⟩
  have se := Same.new (o := .lst []) ne
  refine ⟨.list (D.pys ds), .list [], .lst (SqL.of (se _ _ h1)) (RddAll.dpD ds g (RddAll.ex (.same se) _ h2)), .lst (SqL.of upd_same) .nil, dats_shaped g dp, rfl, _, rfl, ?_⟩
  have : PyData.eqv (.list (D.pys ds)) (.list []) = ds.isEmpty := by cases ds <;> rfl
  rw [this]
  exact q _ se
theorem lit_eqNil {Q : Bool → Hp → Prop} (l : LsD K H p ds) (g : D.dats ds = true) (dp : D.deps ds ≤ 60) (q : ∀ H', Same H H' → Q ds.isEmpty H') : tLst tNil σ H fun y H2 => rEqD K (.ref p) y H2 fun x H' => ∃ k, x = .bl k ∧ Q k H' := by
  obtain ⟨us, h1, h2⟩ := l
  refine ⟨Nat.zero_le _, fun e ne => ?_⟩
  have se := Same.new (o := .lst []) ne
  refine ⟨.list (D.pys ds), .list [], .lst (SqL.of (se _ _ h1)) (RddAll.dpD ds g (RddAll.ex (.same se) _ h2)), .lst (SqL.of upd_same) .nil, dats_shaped g dp, rfl, _, rfl, ?_⟩
  have : PyData.eqv (.list (D.pys ds)) (.list []) = ds.isEmpty := by cases ds <;> rfl
  rw [this]
  exact q _ se
/-- ys = list(xs) -/
theorem tcopy {D0 : Ends} {x : Nat} (t : TrD K H0 H L) (hv : σ[i]? = some (some (.ref a))) (e : L[j]? = some (a, us, ds)) (q : ∀ p H', TrD K H0 H' ((p, us, ds) :: L) → Same H H' → D0.nx (σ.set x (some (.ref p))) H') :
    tAsg (tCB (fun xs H Q => ∃ p ys, xs = [.ref p] ∧ (SqL K H p ys ∨ SqT K H p ys) ∧ ∀ l, H l = none → Q (.ref l) (upd H l (.lst ys))) (tCons (tVar i) tNil)) (gName x) D0 σ H :=
  ⟨_, hv, a, us, rfl, .inl (SqL.of (t.at e).1), fun l nl => q l _ (t.new nl (t.at e).2) (Same.new nl)⟩
end
end Sl

set_option Elab.async false
set_option linter.all false
set_option maxRecDepth 100000
set_option maxHeartbeats 400000
/-! ## Lists of data made of lists of data; sorted lists of tuples of digits -/
namespace Sl
open PySem PySem.Spec PyProof.Rows L2
section
variable {K : PySem.W.Frag} {σ : L2.St} {H : Hp}
theorem ttest_raw {r : R2} {ta tb : TE} {Q : Bool → Hp → Prop} (h : ta σ H fun x H1 => tb σ H1 fun y H2 => r x y H2 fun z H3 => ∃ k, z = .bl k ∧ Q k H3) : tTest (tOp r ta tb) σ H Q := h
theorem tasg_raw {te : TE} {g : TG} {D0 : Ends} (h : te σ H fun v H1 => g v σ H1 D0.nx) : tAsg te g D0 σ H := h
theorem top_raw {r : R2} {ta tb : TE} {Q : VK} (h : ta σ H fun x H1 => tb σ H1 fun y H2 => r x y H2 Q) : tOp r ta tb σ H Q := h
theorem tret_raw {te : TE} {D0 : Ends} (h : te σ H D0.rt) : tRet te D0 σ H := h
theorem tand_raw {ta tb : TE} {Q : VK} (h : ta σ H fun x H1 => ∃ c, x = .bl c ∧ if c = true then tb σ H1 Q else Q (.bl false) H1) : tAndV ta tb σ H Q := h
theorem tcb_raw {f : List V → Hp → VK → Prop} {ta : TA} {Q : VK} (h : ta σ H fun xs H1 => f xs H1 Q) : tCB f ta σ H Q := h
theorem tlst_raw {ta : TA} {Q : VK} (h : ta σ H fun xs H1 => xs.length ≤ sizeLine ∧ ∀ p, H1 p = none → Q (.ref p) (upd H1 p (.lst xs))) : tLst ta σ H Q := h
theorem tcons_lst {ta tb : TA} {ds : List D} {Q : List V → Hp → Prop} (h : Gva K σ H ta ds) (hz : ds.length ≤ 100000) (q : ∀ p vs H', Same H H' → H' p = some (.lst vs) → RddAll K H' vs ds → tb σ H' fun xs H2 => Q (.ref p :: xs) H2) : tCons (tLst ta) tb σ H Q :=
  lst_gv h (Same.refl H) hz fun p vs H' _ s h r => q p vs H' s h r
theorem tcons_lstN {ta tb : TA} {ds : List D} {Q : List V → Hp → Prop} (h : Gva K σ H ta ds) (hz : ds.length ≤ 100000) (q : ∀ p vs H', H p = none → Same H H' → H' p = some (.lst vs) → RddAll K H' vs ds → tb σ H' fun xs H2 => Q (.ref p :: xs) H2) : tCons (tLst ta) tb σ H Q :=
  lst_gv h (Same.refl H) hz q
/-- [e for x in xs] -/
theorem tlc_map {i j : Nat} {p : Addr} {ds : List D} {te : TE} {vs : List Nat} {Q : VK} (F : D → D) (hi : σ[i]? = some (some (.ref p))) (l : LsD K H p ds) (hz : ds.length ≤ 100000)
    (hw : ∀ x : V, wipe ((wipe σ vs).set j (some x)) vs = wipe σ vs)
    (he : ∀ (G : Hp) (x : V) (d : D), Same H G → d ∈ ds → Rdd K G x d → Gv K ((wipe σ vs).set j (some x)) G te (F d))
    (q : ∀ D0 H', H D0 = none → Same H H' → LsD K H' D0 (ds.map F) → Q (.ref D0) H') : tLc (iList K (tVar i)) (gName j) tYes te vs σ H Q := by
  obtain ⟨us, hp, hus⟩ := l
  have lu := hus.length
  refine ⟨_, hi, p, rfl, ⟨us, SqL.of hp⟩, fun D0 nD => ?_⟩
  refine lcJL (K := K) (J := Same) (Pd := fun k x => ∃ d, ds[k]? = some d ∧ x = F d) jr_same (Same.refl _) (by omega) (fun G s => SqL.of (s _ _ hp)) nD ?_ ?_
  · intro k x G Q2 Z2 hx s hQ
    obtain ⟨d, hd, rx⟩ := hus.get hx
    refine ⟨hw x, iteT (B := Z2 G) ?_⟩
    exact he G x d s (List.mem_of_getElem? hd) (Rdd.ex (.same s) _ rx) G _ (Same.refl _) fun y G2 s2 r2 => hQ y G2 _ s2 r2 ⟨d, hd, rfl⟩
  · intro G ys es s hD r le w
    have e : es = ds.map F := by
      apply List.ext_getElem?
      intro k
      rw [List.getElem?_map]
      cases hk : es[k]? with
      | none =>
        have := List.getElem?_eq_none_iff.mp hk
        rw [List.getElem?_eq_none (by omega)]
        rfl
      | some x =>
        obtain ⟨d, hd, rfl⟩ := w k x hk
        rw [hd]
        rfl
    subst e
    exact q D0 G nD s ⟨ys, hD, r⟩
theorem RddAll.perm {xs ys : List V} (p : ys.Perm xs) : ∀ {ds : List D}, RddAll K H xs ds → ∃ es, RddAll K H ys es ∧ es.Perm ds := by
  induction p with
  | nil =>
    intro ds h
    cases h
    exact ⟨[], .nil, .nil⟩
  | cons x _ ih =>
    intro ds h
    cases h with
    | cons h1 h2 =>
      obtain ⟨es, e1, e2⟩ := ih h2
      exact ⟨_ :: es, .cons h1 e1, e2.cons _⟩
  | swap x y l =>
    intro ds h
    cases h with
    | cons h1 h2 =>
      cases h2 with
      | cons h3 h4 => exact ⟨_, .cons h3 (.cons h1 h4), .swap ..⟩
  | trans _ _ ih1 ih2 =>
    intro ds h
    obtain ⟨es, e1, e2⟩ := ih2 h
    obtain ⟨fs, f1, f2⟩ := ih1 e1
    exact ⟨fs, f1, f2.trans e2⟩
end
theorem iD_inj : ∀ {l m : List Nat}, iD l = iD m → l = m
  | [], [], _ => rfl
  | [], _ :: _, h => by cases h
  | _ :: _, [], h => by cases h
  | a :: l, b :: m, h => by
    have h : D.int (a : Nat) :: iD l = D.int (b : Nat) :: iD m := h
    injection h with h1 h2
    injection h1 with h1
    rw [iD_inj h2, show a = b by omega]
end Sl

set_option Elab.async false
set_option linter.all false
set_option maxRecDepth 100000
set_option maxHeartbeats 3200000
/-! ## set(t), t a tuple of ints, as a set that can be sorted -/
namespace Sl
open PySem PySem.Spec PyProof.Rows L2 PySem.W
section
variable {P : Program} {w : World} {A : Around} {E : Value → Shared → Prop} {s : Shared}
theorem init_intsT {l : Addr} {items : Array Value} (ns : List Int) (hh : A.handled = none) (hl : s.heap.IsTuple l items) (hit : IntsAre items.toList ns) (hb : ns.length + 1 < scanBound) :
    codeAny (model P w) A (.call (.builtin "set.__init__") ⟨[.ref s.heap.objs.size, .ref l], []⟩) (wants (fun r s' => r = .none ∧ SetIn w s.heap s.heap.objs.size ns s s') E) { s with heap := s.heap.push (setNew w) } := by
  have hisz : items.size = ns.length := by
    have q := IntsAre.length hit
    rwa [Array.length_toList] at q
  have hS : (s.heap.push (setNew w)).get? s.heap.objs.size = some (setNew w) := Heap.get?_push_size _ rfl
  have hT : Shared.TypeIs { s with heap := s.heap.push (setNew w) } (.ref s.heap.objs.size) "set" := ⟨_, hS, rfl⟩
  have hl1 : (s.heap.push (setNew w)).IsTuple l items := hl.push _
  have hlS : l < s.heap.objs.size := by
    obtain ⟨o, ho, _⟩ := hl
    exact Heap.lt_size ho
  have z1 : (s.heap.push (setNew w)).objs.size = s.heap.objs.size + 1 := Heap.size_push ..
  refine codeAny_call_builtin F.called_set.init.plain F.entry_set_init (check_set_init_1 hT ?_)
  obtain ⟨⟨ocls, odict, odata, oslots⟩, hol, hcl, nl, hdl⟩ := hl
  simp only at hcl hdl
  subst hcl hdl
  have hol' : (s.heap.push (setNew w)).get? l = some { cls := .type "tuple", dict := odict, data := .seq items nl, slots := oslots } := Heap.get?_push_of_some _ hol
  have hsls := F.sub_tuple_set
  have hslf := F.sub_tuple_frozenset
  have hne : (Value.type "tuple" == Value.type "dict") = false := by decide
  unfold Builtin.«set.__init__» noKeywords Builtin.Frozenset.updateFrom
  generalize hPI : pyIter = PI
  wp_walk
  subst hPI
  refine wpAny_pyIter_tuple hl1 ?_
  refine wpAny_bind (wpAny_runValue ?_)
  have hh3 : A.in1.in1.handled = none := by simp [hh]
  have fresh : s.heap.objs.size ∉ [(s.heap.push (setNew w)).objs.size, l] := by
    rw [z1]
    simp only [List.mem_cons, List.not_mem_nil, or_false, not_or]
    exact ⟨Nat.ne_of_lt (Nat.lt_succ_self _), Nat.ne_of_gt hlS⟩
  have hneI : l ≠ (s.heap.push (setNew w)).objs.size := by
    rw [z1]
    exact Nat.ne_of_lt (Nat.lt_succ_of_lt hlS)
  refine set_update_ints ((Walks.tuple hh3 _ l hneI items).toS) s.heap.objs.size fresh ns hisz hb ?hv (items.size - 0) 0 _ (by omega) (Nat.zero_le _) ⟨⟨_, Heap.get?_push_size _ rfl, rfl, rfl⟩, hl1.push _⟩ ?hS0 ?hR
  case hS0 => exact ⟨0, Nat.le_refl 0, setR_new_at (Heap.get?_push_of_some _ hS)⟩
  case hv =>
    intro i v hv
    have hi : i < ns.length := by rw [← hisz]; exact (Array.getElem?_eq_some_iff.mp hv).1
    obtain ⟨t, e⟩ := IntsAre.int_at hit i v (by rw [Array.getElem?_toList]; exact hv)
    exact ⟨ns[i], t, List.getElem?_eq_getElem hi, by rw [e, List.getD_eq_getElem?_getD, List.getElem?_eq_getElem hi] <;> rfl⟩
  case hR =>
    intro s' c hm hc hS'
    obtain ⟨h', g2, d', tk', os'⟩ := s'
    have eg : g2 = s.gens := hm.gens
    have ed : d' = s.drawn := hm.drawn
    have eo : os' = s.os := hm.os
    subst eg ed eo
    refine wpAny_pure (wpAny_pure ⟨rfl, h', tk', c, rfl, hS', by rw [← hisz]; exact hc, fun b o e => ?_⟩)
    have hb0 : b < s.heap.objs.size := Heap.lt_size e
    exact hm.heap b o (by
      rw [z1]
      simp only [List.mem_cons, List.not_mem_nil, or_false, not_or]
      exact ⟨Nat.ne_of_lt hb0, Nat.ne_of_lt (Nat.lt_succ_of_lt hb0)⟩) (Heap.get?_push_of_some _ (Heap.get?_push_of_some _ e))
theorem call_set_intsT {l : Addr} {items : Array Value} (ns : List Int) {Q : Value → Shared → Prop} (hh : A.handled = none) (hl : s.heap.IsTuple l items) (hit : IntsAre items.toList ns) (hb : ns.length + 1 < scanBound)
    (h : ∀ s', SetIn w s.heap s.heap.objs.size ns s s' → Q (.ref s.heap.objs.size) s') : wpAny (model P w) A (call (.type "set") [.ref l]) Q E s := by
  obtain ⟨c, tl, hmro⟩ := F.called_set.mro
  have hmade := F.called_set.made
  have hsub := F.called_set.sub
  have h1 := F.called_set.notType
  have h2 := F.called_set.canCreate
  have hct := F.typeCall_set_1 (.ref l)
  have hli := F.called_set.init.lookup
  have hbi := F.called_set.init.bind (.ref s.heap.objs.size)
  have hS : (s.heap.push (setNew w)).get? s.heap.objs.size = some (setNew w) := Heap.get?_push_size _ rfl
  have hT : Shared.TypeIs { s with heap := s.heap.push (setNew w) } (.ref s.heap.objs.size) "set" := ⟨_, hS, rfl⟩
  refine wpAny_call (codeAny_of_tree (wpAny_pure ⟨Code.quiet_builtin _ (by decide +kernel), codeAny_builtin F.entry_type_call ?_⟩))
  rw [Around.under_plain (weight_type_call_type "set" [.ref l] []) rfl]
  repeat (any_goals (first | assumption | wp_step))

  refine codeAny_mono (code_set_led1 (.ref l) (E := E) (Q₁ := fun r s' => r = .ref s.heap.objs.size ∧ s' = { s with heap := s.heap.push (setNew w) }) ⟨rfl, rfl⟩) fun r s₁ hr => ?_
  cases r with
  | error e => exact hr
  | ok fl =>
    cases fl with
    | ret obj =>
      obtain ⟨rfl, rfl⟩ := hr
      repeat (any_goals (first | assumption | wp_step))

      refine codeAny_mono (init_intsT (E := E) ns (by simp [hh]) hl hit hb) fun r₂ s₂ hr₂ => ?_
      cases r₂ with
      | error e => exact hr₂
      | ok fl₂ =>
        cases fl₂ with
        | ret r =>
          obtain ⟨rfl, h'⟩ := hr₂
          repeat (any_goals (first | assumption | wp_step))
          exact h _ h'
        | _ => exact hr₂.elim
    | _ => exact hr.elim
end
/-- set(e), e a list of ints -/
def rSetIntsT (K : Frag) (w : World) : List V → Hp → VK → Prop := fun vs H Q => ∃ (l : Addr) (ns : List Int), vs = [V.ref l] ∧ SqT K H l (ns.map V.int) ∧ ns.length ≤ 4000 ∧ ∀ p c, (∀ m : List Int, (∀ k ∈ ns, k ∈ m) → c ≤ m.length) → H p = none → Q (.ref p) (upd H p (SetO w p (fun j => decide (j ∈ ns)) c))
theorem cr_setIntsT {X : Cx} (hc : X.calm = true) : CallR X (.type "set") (rSetIntsT X.K X.w) := by
  intro pins s σ H vs us Q I r h
  obtain ⟨l, ns, rfl, hq, hz, q⟩ := h
  rw [Vals.ref1 r]
  obtain ⟨its, rv, pl, _⟩ := I.tuple hq
  refine call_set_intsT ns (I.ok.hd hc) pl (by simpa using RZ.intsAre_vals rv) (by unfold scanBound; omega) fun s' ⟨h', tk, c, e, R, hcn, k⟩ => ?_
  subst e
  have n := I.hok.fresh (Nat.le_refl s.heap.objs.size)
  have few : ∀ m : List Int, (∀ k ∈ ns, k ∈ m) → c ≤ m.length := fun m hm => by
    obtain ⟨o, es, ep, t, _, _, _, _, nd, mem, _, _, sz, _⟩ := R
    have := nd_len nd fun k hk => hm k (of_decide_eq_true ((mem k).mpr hk))
    rw [List.length_map, Array.length_toList] at this
    omega
  refine ⟨.ref s.heap.objs.size, upd H s.heap.objs.size (SetO X.w s.heap.objs.size (fun j => decide (j ∈ ns)) c), I.laid (t' := tk) k (Nat.le_refl _) (setO_new R), rfl, q _ c few n⟩
end Sl

set_option Elab.async false
set_option linter.all false
set_option maxRecDepth 100000
set_option maxHeartbeats 400000
/-! ## sorted sets, equal lists of data -/
namespace Sl
open PySem PySem.Spec PyProof.Rows L2
theorem asc_sorted {l : List Nat} {ns : List Int} (a : l.Pairwise (· < ·)) (b : ns.Pairwise (· < ·)) (h : ∀ k : Int, k ∈ ns ↔ k ∈ l.map fun i => ((i : Nat) : Int)) : ns = l.map fun i => ((i : Nat) : Int) := by
  have a' : (l.map fun i => ((i : Nat) : Int)).Pairwise (· < ·) := List.pairwise_map.mpr (a.imp fun h => by omega)
  have one : ∀ {a b : List Int}, a.Pairwise (· < ·) → b.Pairwise (· < ·) → (∀ x, x ∈ a ↔ x ∈ b) → a = b := fun {a} => by
    induction a with
    | nil =>
      intro b _ _ h
      cases b with
      | nil => rfl
      | cons y b => exact absurd ((h y).mpr List.mem_cons_self) (by simp)
    | cons x a ih =>
      intro b ha hb h
      cases b with
      | nil => exact absurd ((h x).mp List.mem_cons_self) (by simp)
      | cons y b =>
        have ⟨hx, ha'⟩ := List.pairwise_cons.mp ha
        have ⟨hy, hb'⟩ := List.pairwise_cons.mp hb
        have e : x = y := by
          rcases List.mem_cons.mp ((h x).mp List.mem_cons_self) with e | e
          · exact e
          · rcases List.mem_cons.mp ((h y).mpr List.mem_cons_self) with e2 | e2
            · exact e2.symm
            · have := hy x e
              have := hx y e2
              omega
        subst e
        rw [ih ha' hb' fun z => ⟨fun hz => ?_, fun hz => ?_⟩]
        · rcases List.mem_cons.mp ((h z).mp (List.mem_cons_of_mem _ hz)) with e | e
          · have := hx z hz
            omega
          · exact e
        · rcases List.mem_cons.mp ((h z).mpr (List.mem_cons_of_mem _ hz)) with e | e
          · have := hy z hz
            omega
          · exact e
  exact one b a' h
section
variable {K : PySem.W.Frag} {σ : L2.St} {G : Hp}
theorem rNe_dat {H : Hp} {x y : V} {d : D} {Q : VK} (r1 : Rdd K H x d) (r2 : Rdd K H y d) (g : d.dat = true) (l : d.dep ≤ 60) (q : Q (.bl false) H) : rNeD K x y H Q :=
  ⟨d.py, d.py, Rdd.dpD d g r1, Rdd.dpD d g r2, dat_shaped g l, dat_shaped g l, by rw [(dat_eqv d d g g).mpr rfl]; exact q⟩
theorem rEq_dat {H : Hp} {x y : V} {d : D} {Q : VK} (r1 : Rdd K H x d) (r2 : Rdd K H y d) (g : d.dat = true) (l : d.dep ≤ 60) (q : Q (.bl true) H) : rEqD K x y H Q :=
  ⟨d.py, d.py, Rdd.dpD d g r1, Rdd.dpD d g r2, dat_shaped g l, dat_shaped g l, by rw [(dat_eqv d d g g).mpr rfl]; exact q⟩
theorem gt_sortedSet {w : World} {te : TE} {l : List Nat} (h : Gv K σ G te (.tup (iD l))) (asc : l.Pairwise (· < ·)) (hl : l.length < 64) :
    Gt σ G (tTest (tOp (rNeD K) (tCB (fun xs H Q => ∃ p ys, xs = [.ref p] ∧ (SqL K H p ys ∨ SqT K H p ys) ∧ ∀ l, H l = none → Q (.ref l) (upd H l (.lst ys))) (tCons te tNil)) (tCB (rSortedSet w) (tCons (tCB (rSetIntsT K w) (tCons te tNil)) tNil)))) false := fun H Q s q =>
  h H _ s fun v H1 s1 r1 => by
    obtain ⟨a, xs, rfl, hs, hx, _⟩ := r1.tupd'
    have exs := iD_ints hx
    refine ⟨a, xs, rfl, .inr hs, fun p1 n1 => ?_⟩
    have sp := Same.new (o := .lst xs) n1
    have hp1 : (upd H1 p1 (.lst xs)) p1 = some (.lst xs) := upd_same
    generalize upd H1 p1 (.lst xs) = H2 at sp hp1 ⊢
    refine h H2 _ ((s.trans s1).trans sp) fun v H3 s3 r3 => ?_
    obtain ⟨a3, xs3, rfl, hs3, hx3, _⟩ := r3.tupd'
    have exs3 := iD_ints hx3
    refine ⟨a3, l.map fun i => ((i : Nat) : Int), rfl, (by rw [List.map_map]; rw [exs3] at hs3; exact hs3), by rw [List.length_map]; omega, fun p2 c few n2 => ?_⟩
    have hc := few (l.map fun i => ((i : Nat) : Int)) fun k hk => hk
    rw [List.length_map] at hc
    have s4 := Same.new (o := SetO w p2 (fun j => decide (j ∈ l.map fun i => ((i : Nat) : Int))) c) n2
    refine ⟨p2, _, c, rfl, upd_same, by omega, fun ns p3 ha hm _ n3 => ?_⟩
    have ens : ns = l.map fun i => ((i : Nat) : Int) := asc_sorted asc ha fun k => by rw [hm k, decide_eq_true_eq]
    have e2 : ns.map V.int = iL l := by rw [ens, List.map_map]; rfl
    rw [e2]
    have s5 := Same.new (o := .lst (iL l)) n3
    have s35 := s4.trans s5
    have hp15 := s35 _ _ (s3 _ _ hp1)
    have d1 : LsD K (upd (upd H3 p2 (SetO w p2 (fun j => decide (j ∈ l.map fun i => ((i : Nat) : Int))) c)) p3 (.lst (iL l))) p1 (iD l) := ⟨_, hp15, by rw [exs]; exact ints_iD _⟩
    have d2 : LsD K (upd (upd H3 p2 (SetO w p2 (fun j => decide (j ∈ l.map fun i => ((i : Nat) : Int))) c)) p3 (.lst (iL l))) p3 (iD l) := ⟨_, upd_same, ints_iD _⟩
    obtain ⟨u1, h1, h1'⟩ := d1
    obtain ⟨u2, h2, h2'⟩ := d2
    have sh := dats_shaped (iD_dats l) (Nat.le_trans (iD_deps l) (by decide))
    refine ⟨.list (D.pys (iD l)), .list (D.pys (iD l)), .lst (SqL.of h1) (RddAll.dpD _ (iD_dats l) h1'), .lst (SqL.of h2) (RddAll.dpD _ (iD_dats l) h2'), sh, sh, _, rfl, ?_⟩
    have : PyData.eqv (.list (D.pys (iD l))) (.list (D.pys (iD l))) = true := (dats_eqv _ _ (iD_dats l) (iD_dats l)).mpr rfl
    rw [this]
    exact q _ (((s1.trans sp).trans s3).trans s35)
end
section
variable {K : PySem.W.Frag} {σ : L2.St} {G : Hp}
theorem eqv_dats {H : Hp} {x y : Addr} {ds : List D} (l : LsD K H x ds) (m : LsD K H y ds) (g : D.dats ds = true) (dp : D.deps ds ≤ 60) : ∃ d e, Dp K H (.ref x) d ∧ Dp K H (.ref y) e ∧ SeqAt.shaped d = true ∧ SeqAt.shaped e = true ∧ PyData.eqv d e = true := by
  obtain ⟨u1, h1, h1'⟩ := l
  obtain ⟨u2, h2, h2'⟩ := m
  have sh := dats_shaped g dp
  exact ⟨.list (D.pys ds), .list (D.pys ds), .lst (SqL.of h1) (RddAll.dpD _ g h1'), .lst (SqL.of h2) (RddAll.dpD _ g h2'), sh, sh, (dats_eqv _ _ g g).mpr rfl⟩
theorem gt_neLst {i : Nat} {p : Addr} {ds : List D} {ta : TA} (h : σ[i]? = some (some (.ref p))) (l : LsD K G p ds) (h2 : Gva K σ G ta ds) (g : D.dats ds = true) (dp : D.deps ds ≤ 60) (hz : ds.length ≤ 100000) : Gt σ G (tTest (tOp (rNeD K) (tVar i) (tLst ta))) false := fun H Q s q =>
  ⟨_, h, lst_gv h2 s hz fun p2 vs H1 n2 s1 hp r1 => by
    obtain ⟨d, e, e1, e2, e3, e4, e5⟩ := eqv_dats ((l.same s).same s1) ⟨vs, hp, r1⟩ g dp
    refine ⟨d, e, e1, e2, e3, e4, _, rfl, ?_⟩
    rw [e5]
    exact q _ s1⟩
end
end Sl

set_option Elab.async false
set_option linter.all false
set_option maxRecDepth 100000
set_option maxHeartbeats 400000
/-! ## Comprehensions over zip of two tuples; tuples repeated; is None -/
namespace Sl
open PySem PySem.Spec PyProof.Rows L2
section
variable {K : PySem.W.Frag} {J : Hp → Hp → Prop} {a b D0 : Addr} {xs ys : List V} {g : TG} {tt : TT} {te : TE} {vs : List Nat} {σ : L2.St} {H1 : Hp} {Qd : Hp → Prop} {Pd : Nat → D → Prop}
theorem lcJZ (jr : Jr J) (j0 : J H1 H1) (hl : xs.length = ys.length) (hz : xs.length ≤ 100000) (hX : SqT K H1 a xs) (hY : SqT K H1 b ys) (hD : H1 D0 = none)
    (hs : ∀ (i : Nat) (x y : V) (T : Addr) (H : Hp) (Q : VK) (Z : Hp → Prop), xs[i]? = some x → ys[i]? = some y → J H1 H → H T = none → (∀ z H' d, J H H' → Rdd K H' z d → Pd i d → Q z H') →
      g (.ref T) (wipe σ vs) (upd H T (.tup [x, y])) fun σ2 H2 => wipe σ2 vs = wipe σ vs ∧ tt σ2 H2 fun b H3 => if b = true then te σ2 H3 Q else Z H3)
    (hd : ∀ H ys ds, J H1 H → H D0 = some (.lst ys) → RddAll K H ys ds → ds.length = xs.length → (∀ j d, ds[j]? = some d → Pd j d) → Qd H) :
    ∃ W : Nat → Nat → Hp → Prop, (∃ m, W 0 m (upd H1 D0 (.lst []))) ∧ ∀ i m H, W i m H →
      ((RZ.ItzT K a b).stop i H ∧ Qd H) ∨ ((RZ.ItzT K a b).go i H ∧ ∃ Nx : Hp → Prop, (∀ H', Nx H' → ∃ m', m' < m ∧ W (i + 1) m' H') ∧ ∀ x H', (RZ.ItzT K a b).yld i H x H' → g x (wipe σ vs) H' fun σ2 H2 => wipe σ2 vs = wipe σ vs ∧ tt σ2 H2 fun b H3 =>
        if b = true then te σ2 H3 fun y H4 => ∃ acc, H4 D0 = some (.lst acc) ∧ acc.length < sizeLine ∧ Nx (upd H4 D0 (.lst (acc ++ [y]))) else Nx H3) := by
  refine ⟨fun i m H => m = xs.length - i ∧ i ≤ xs.length ∧ Accd K J H1 D0 Pd i H, ⟨xs.length, rfl, Nat.zero_le _, accd_start jr j0 hD⟩, ?_⟩
  rintro i m H ⟨rfl, hi, p⟩
  have qx := (jr.ex p.1).tup hX
  have qy := (jr.ex p.1).tup hY
  by_cases hlt : i < xs.length
  · have hx : xs[i]? = some xs[i] := List.getElem?_eq_getElem hlt
    have hlt2 : i < ys.length := by omega
    have hy : ys[i]? = some ys[i] := List.getElem?_eq_getElem hlt2
    refine .inr ⟨⟨xs, ys, _, _, qx, qy, hx, hy⟩, Accd K J H1 D0 Pd (i + 1), fun H' p' => ⟨xs.length - (i + 1), by omega, rfl, hlt, p'⟩, fun v H' y => ?_⟩
    obtain ⟨T, x', y', rfl, hT, rfl, f1, f2⟩ := y
    exact hs i x' y' T H _ _ (f1 xs qx) (f2 ys qy) p.1 hT fun v H' d j r pd => accd_turn jr hD (by omega) p j r pd
  · have e : i = xs.length := by omega
    subst e
    obtain ⟨j1, zs, ds, h1, h2, h3, h4⟩ := p
    exact .inl ⟨⟨xs, ys, qx, qy, Or.inl (Nat.le_refl _)⟩, hd H zs ds j1 h1 h2 h3 h4⟩
end
section
variable {K : PySem.W.Frag} {σ : L2.St} {G : Hp}
theorem RddAll.rp {H : Hp} {vs : List V} {ds : List D} (h : RddAll K H vs ds) : ∀ k : Nat, RddAll K H (List.replicate k vs).flatten (List.replicate k ds).flatten
  | 0 => .nil
  | k + 1 => by
    rw [List.replicate_succ, List.replicate_succ, List.flatten_cons, List.flatten_cons]
    exact h.app' (h.rp k)
theorem rep_flat_len {α : Type} (k : Nat) (l : List α) : ((List.replicate k l).flatten).length = k * l.length := by
  rw [List.length_flatten, List.map_replicate, List.sum_replicate_nat]
/-- a tuple with items times n -/
theorem gv_repA {ta tk : TE} {ds : List D} {k : Nat} (h1 : Gv K σ G ta (.tup ds)) (h2 : Gv K σ G tk (.int (k : Nat))) (hne : ds ≠ []) (k1 : k ≤ 1000) (hz : ds.length ≤ 1000) (hk : k * ds.length ≤ 100000) : Gv K σ G (tOp (rRepA K) ta tk) (.tup (List.replicate k ds).flatten) := fun H Q s q =>
  h1 H _ s fun v H1 s1 r1 => h2 H1 _ (s.trans s1) fun u H2 s2 r2 => by
    cases r2
    have r1' := Rdd.ex (.same s2) _ r1
    obtain ⟨a, xs, rfl, hs, ha, _⟩ := id r1'.tupd'
    have e := ha.length
    refine ⟨a, _, xs, rfl, rfl, hs, fun z => hne ?_, by omega, by omega, by omega, fun z => ?_, fun _ p np => ?_⟩
    · rw [z] at e
      exact List.eq_nil_of_length_eq_zero e.symm
    · have k1 : k = 1 := by omega
      subst k1
      rw [List.replicate_one, List.flatten_cons, List.flatten_nil, List.append_nil] at q
      exact q _ _ (s1.trans s2) r1'
    · rw [Int.toNat_natCast] at *
      have sp := Same.new (o := .tup (List.replicate k xs).flatten) np
      refine q _ _ ((s1.trans s2).trans sp) (.tup (SqT.of upd_same) ((RddAll.ex (.same sp) _ ha).rp k) ?_)
      rw [rep_flat_len]
      exact hk
/-- is None, is not None -/
def D.isNon : D → Bool
  | .non => true
  | _ => false
theorem rdd_non {H : Hp} {v : V} {d : D} (g : d.dat = true) (r : Rdd K H v d) : decide (v = .non) = d.isNon := by
  cases r with
  | non => rfl
  | lst t => cases g
  | dct t => cases g
  | _ => rfl
theorem gt_isN {te : TE} {d : D} (g : d.dat = true) (h : Gv K σ G te d) : Gt σ G (tTest (tOp (fun x y H Q => y = .non ∧ Q (.bl (decide (x = .non))) H) te (tC .non))) d.isNon := fun H Q s q =>
  h H _ s fun v H1 s1 r1 => by
    unfold tC
    dsimp only
    exact ⟨rfl, _, rfl, by rw [rdd_non g r1]; exact q H1 s1⟩
theorem gt_notN {te : TE} {d : D} (g : d.dat = true) (h : Gv K σ G te d) : Gt σ G (tTest (tOp (fun x y H Q => y = .non ∧ Q (.bl (!decide (x = .non))) H) te (tC .non))) (!d.isNon) := fun H Q s q =>
  h H _ s fun v H1 s1 r1 => by
    unfold tC
    dsimp only
    exact ⟨rfl, _, rfl, by rw [rdd_non g r1]; exact q H1 s1⟩
theorem gt_notInI {j : Nat} {te : TE} {i : Nat} {p : Addr} {ms : List Nat} (hj : σ[j]? = some (some (.ref p))) (h : Gv K σ G te (.int (i : Nat))) (l : LsD K G p (iD ms)) : Gt σ G (tTest (tOp (rIn K true) te (tVar j))) (!decide (i ∈ ms)) := fun H Q s q =>
  h H _ s fun v H1 s1 r1 => by
    cases r1
    obtain ⟨us, h1, h2⟩ := l.same (s.trans s1)
    have e : us = iL ms := iD_ints h2
    subst e
    refine ⟨_, hj, p, _, rfl, .inl (SqL.of h1), rfl, flat_iL ms, _, rfl, ?_⟩
    show Q (!inV (.int (i : Nat)) (iL ms)) H1
    rw [inV_iL]
    exact q H1 s1
end
end Sl

set_option Elab.async false
set_option linter.all false
set_option maxRecDepth 100000
set_option maxHeartbeats 400000
/-! ## _law_is_owned -/
namespace Sl
open PySem PySem.Spec PyProof.Rows L2
/-- what stands fast while the ways that do not pass f are gone -/
structure Srch (ns : List GN) (f at_ : Nat) (kn ws : List Nat) : Prop where
  nd : kn.Nodup
  lt : ∀ x ∈ kn, x < ns.length
  lw : ∀ x ∈ ws, x < ns.length
  ne : ∀ x ∈ kn, x ≠ at_ ∧ x ≠ f
  cl : ∀ x ∈ kn, ∀ c ∈ kd ns x, c ∈ kn ∨ c ∈ ws ∨ c = f
  z : 0 ∈ kn ∨ 0 ∈ ws ∨ 0 = f
  snd : ∀ x ∈ ws, Nd ns f at_ x → Nd ns f at_ 0
theorem srch_start {ns : List GN} {f at_ : Nat} (pos : 0 < ns.length) : Srch ns f at_ [] [0] :=
  ⟨List.nodup_nil, (fun x h => by cases h), (fun x h => by rw [List.mem_singleton.mp h]; exact pos), (fun x h => by cases h), (fun x h => by cases h), .inr (.inl (List.mem_singleton.mpr rfl)), (fun x h => by rw [List.mem_singleton.mp h]; exact id)⟩
theorem no_self {ns : List GN} {f at_ : Nat} (h : at_ ≠ f) : ¬ Nd ns f at_ f := fun n => by
  cases n with
  | var => exact h rfl
  | up _ _ ne => exact ne rfl
/-- nothing waits: the variable is owned -/
theorem Srch.done {ns : List GN} {f at_ : Nat} {kn : List Nat} (s : Srch ns f at_ kn []) (h : at_ ≠ f) : ¬ Nd ns f at_ 0 := by
  have key : ∀ x, Nd ns f at_ x → x ∉ kn := fun x n => by
    induction n with
    | var => exact fun hk => (s.ne _ hk).1 rfl
    | @up i c n hc ne ih =>
      intro hk
      rcases s.cl _ hk c hc with h1 | h1 | h1
      · exact ih h1
      · cases h1
      · subst h1
        exact no_self h n
  intro n
  rcases s.z with h1 | h1 | h1
  · exact key 0 n h1
  · cases h1
  · rw [h1] at n
    exact no_self h n
theorem Srch.skip {ns : List GN} {f at_ x : Nat} {kn ws : List Nat} (s : Srch ns f at_ kn (ws ++ [x])) (hx : x ∈ kn ∨ x = f) : Srch ns f at_ kn ws := by
  refine ⟨s.nd, s.lt, fun y hy => s.lw y (List.mem_append_left _ hy), s.ne, fun y hy c hc => ?_, ?_, fun y hy => s.snd y (List.mem_append_left _ hy)⟩
  · rcases s.cl y hy c hc with h | h | h
    · exact .inl h
    · rcases List.mem_append.mp h with h | h
      · exact .inr (.inl h)
      · rw [List.mem_singleton.mp h]
        exact hx.elim .inl fun e => .inr (.inr e)
    · exact .inr (.inr h)
  · rcases s.z with h | h | h
    · exact .inl h
    · rcases List.mem_append.mp h with h | h
      · exact .inr (.inl h)
      · rw [List.mem_singleton.mp h]
        exact hx.elim .inl fun e => .inr (.inr e)
    · exact .inr (.inr h)
theorem Srch.go {ns : List GN} {f at_ x : Nat} {kn ws : List Nat} (s : Srch ns f at_ kn (ws ++ [x])) (rng : ∀ g ∈ ns, Rng ns.length g) (hk : x ∉ kn) (hf : x ≠ f) (ha : x ≠ at_) : Srch ns f at_ (kn ++ [x]) (ws ++ kd ns x) := by
  have hx := s.lw x (List.mem_append_right _ (List.mem_singleton.mpr rfl))
  have lift : ∀ {c : Nat}, (c ∈ kn ∨ c ∈ ws ++ [x] ∨ c = f) → c ∈ kn ++ [x] ∨ c ∈ ws ++ kd ns x ∨ c = f := fun {c} h => by
    rcases h with h | h | h
    · exact .inl (List.mem_append_left _ h)
    · rcases List.mem_append.mp h with h | h
      · exact .inr (.inl (List.mem_append_left _ h))
      · exact .inl (List.mem_append_right _ h)
    · exact .inr (.inr h)
  refine ⟨List.nodup_append.mpr ⟨s.nd, List.nodup_cons.mpr ⟨(fun z => by cases z), List.nodup_nil⟩, fun a h b hb e => ?_⟩, fun y hy => ?_, fun y hy => ?_, fun y hy => ?_, fun y hy c hc => ?_, lift s.z, fun y hy n => ?_⟩
  · rw [List.mem_singleton.mp hb] at e
    exact hk (e ▸ h)
  · rcases List.mem_append.mp hy with h | h
    · exact s.lt y h
    · rw [List.mem_singleton.mp h]
      exact hx
  · rcases List.mem_append.mp hy with h | h
    · exact s.lw y (List.mem_append_left _ h)
    · exact kd_rng rng _ _ h
  · rcases List.mem_append.mp hy with h | h
    · exact s.ne y h
    · rw [List.mem_singleton.mp h]
      exact ⟨ha, hf⟩
  · rcases List.mem_append.mp hy with h | h
    · exact lift (s.cl y h c hc)
    · rw [List.mem_singleton.mp h] at hc
      exact .inr (.inl (List.mem_append_right _ hc))
  · rcases List.mem_append.mp hy with h | h
    · exact s.snd y (List.mem_append_left _ h) n
    · exact s.snd x (List.mem_append_right _ (List.mem_singleton.mpr rfl)) (.up n h hf)
theorem natV_dec {x y : Nat} : decide (V.int (x : Nat) = V.int (y : Nat)) = decide (x = y) := by
  rw [Bool.eq_iff_iff]
  simp only [decide_eq_true_eq]
  exact ⟨fun h => by injection h with h; omega, fun h => by rw [h]⟩
abbrev sLOwned : Stmt := topT 41
theorem scLOwned : FnScope ["_law_nodes", "_law_at", "_law_owner", "_law_known", "_law_waits", "_law_here"] ["_law_nodes", "_law_at"] (defScope sLOwned) := ⟨rfl, rfl, rfl, by decide +kernel, rfl, by decide +kernel, by decide +kernel⟩
section
variable {P : Program} {w : World} {K : PySem.W.Frag} {mg : Str → Option Value} {base : Heap}
open Classical in
def spLOwned (K : PySem.W.Frag) : Sp := fun vs H Q _ => ∃ (u : V) (i f : Nat) (ns : List GN), vs = [u, .int (i : Nat)] ∧ Rdd K H u (.tup (ns.map ndD)) ∧ (∀ g ∈ ns, Rng ns.length g) ∧ 0 < ns.length ∧ ns.length ≤ 100 ∧ ns[i]? = some (.V f) ∧ i ≠ f ∧ ∀ H', Same H H' → Q (.bl (decide (¬ Nd ns f i 0))) H'
open Classical in
theorem ok_lOwned (B : Bt mg) (ULb : Uf P w K mg base "_law_below" ["_law_node"] 1 (spLBelow K)) {f : Addr} {fd : FuncData} (F : Fun K "_law_is_owned" "_law_is_owned" sLOwned f fd) : FnOk P w K mg base CX0 2 f fd ["_law_nodes", "_law_at"] (spLOwned K) := by
  refine F.ok scLOwned (fun vs H Q E h => ?_) (fun cdv A outer s H vs Q E hr h => ?_)
  · obtain ⟨u, i, f, ns, rfl, _⟩ := h
    rfl
  · obtain ⟨u, i, f0, ns, rfl, hu, rng, pos, hn, hi, nif, q⟩ := h
    have sl := sizeLine_eq
    have h1 := hr.mono (by decide : 1 ≤ 1)
    refine ⟨_, (pss_cons (ps_par3 (i := 2) (j := 3) (l := 4) (by rfl) scLOwned.nd rfl rfl rfl (by decide) (by decide) (by decide) rfl rfl rfl (pa_cons (pe_ix ix_tup (pe_ix ix_tup (pv 0) (pv 1) (fun _ _ => rfl)) pe_int (fun _ _ => rfl)) (pa_cons (pe_lst pa_nil) (pa_cons (pe_lst (pa_cons pe_int pa_nil)) pa_nil))) (by rfl))
        (pss_cons (ps_while PassesOwn.never (pt_cmpR (op_neD hr.units) (pv 4) (pe_lst pa_nil) (nomark _))
        (pss_cons (ps_set (i := 5) scLOwned.nd rfl (Or.inl rfl) (pe_bm0 PySem.F.plainAttrs_list PySem.F.slot_list_pop PySem.F.type_list_pop mt_pop (pv 4)))
        (pss_cons (ps_if (pt_cmpR op_eq (pv 5) (pv 1) (nomark _))
          (pss_one (ps_ret pe_bl)) pss_nil)
        (pss_one (ps_if (PW.pt (pw_and (pt_cmpR op_notIn_seq (pv 5) (pv 3) (by rfl)) (pw_and1 (pt_cmpR op_ne (pv 5) (pv 2) (nomark _)))))
          (pss_cons (ps_expr (pe_bm PySem.F.plainAttrs_list PySem.F.slot_list_append PySem.F.type_list_append mt_append (pv 3) (pa_cons (pv 5) pa_nil)))
        (pss_one (ps_expr (pe_bm PySem.F.plainAttrs_list PySem.F.slot_list_extend PySem.F.type_list_extend mt_extend (pv 4) (pa_cons (pe_call ULb.G h1 (by rfl) ULb.g ULb.kp ULb.b .nil pass0 (pa_cons (pe_ix ix_tup (pv 0) (pv 5) (fun _ _ => rfl)) pa_nil)) pa_nil))))) pss_nil)))))
        (pss_one (ps_ret pe_bl)))), ?_⟩
    obtain ⟨a, xs, rfl, ha, hx, _⟩ := hu.tupd'
    have node : ∀ {G : Hp} {k : Nat} {g : GN}, Same H G → ns[k]? = some g → ∃ v, atI xs ((k : Nat) : Int) = some v ∧ Rdd K G v (ndD g) := fun {G k g} s hk => by
      obtain ⟨v, hv, rv⟩ := hx.atI (i := ((k : Nat) : Int)) (d := ndD g) (atI_nat (by rw [List.getElem?_map, hk]; rfl))
      exact ⟨v, hv, Rdd.ex (.same s) _ rv⟩
    obtain ⟨nv, hnv, rnv⟩ := node (Same.refl H) hi
    obtain ⟨c0, wsv, rfl, hc0, hwsv, _⟩ := rnv.tupd'
    obtain ⟨w1, w2, rfl, q1, q2⟩ := hwsv.pair
    cases q1
    cases q2
    refine ⟨_, rfl, _, rfl, a, xs, _, _, rfl, rfl, ha, hnv, c0, _, (1 : Int), _, rfl, rfl, hc0, atI_nat (j := 1) rfl, (by show 0 ≤ sizeLine; omega), fun k0 nk0 => ?_⟩
    have s1 := Same.new (o := .lst []) nk0
    have hk1 : (upd H k0 (.lst [])) k0 = some (.lst (iL [])) := upd_same
    generalize upd H k0 (.lst []) = H1 at s1 hk1 ⊢
    refine ⟨(by show 1 ≤ sizeLine; omega), fun w0 nw => ⟨_, _, _, rfl, ?_⟩⟩
    have s2 := Same.new (o := .lst [V.int 0]) nw
    have hw2 : (upd H1 w0 (.lst [V.int 0])) w0 = some (.lst (iL [0])) := upd_same
    have hk2 := s2 _ _ hk1
    have kw : k0 ≠ w0 := ne_of_none hk1 nw
    have nw0 := none_of s1 nw
    have s02 := s1.trans s2
    generalize upd H1 w0 (.lst [V.int 0]) = H2 at s02 hw2 hk2 ⊢
    refine ⟨fun μ σ G => ∃ (g5 : Option V) (kn ws : List Nat), μ = 4 * (ns.length - kn.length) + ws.length ∧ σ = [some (.ref a), some (.int (i : Nat)), some (.int (f0 : Nat)), some (.ref k0), some (.ref w0), g5] ∧ Same H G ∧ G k0 = some (.lst (iL kn)) ∧ G w0 = some (.lst (iL ws)) ∧ ws.length ≤ 3 * kn.length + 1 ∧ Srch ns f0 i kn ws,
      ⟨_, none, [], [0], rfl, rfl, s02, hk2, hw2, Nat.le_refl 1, srch_start pos⟩, ?_⟩
    rintro μ σ G ⟨g5, kn, ws, rfl, rfl, sG, hk, hw, l3, sr⟩
    have lm := nd_len' sr.nd sr.lt
    refine ⟨_, rfl, (by show 0 ≤ sizeLine; omega), fun e0 ne0 => ?_⟩
    have se := Same.new (o := .lst []) ne0
    have he0 : (upd G e0 (.lst [])) e0 = some (.lst []) := upd_same
    generalize upd G e0 (.lst []) = G1 at se he0 ⊢
    have sG1 := sG.trans se
    have hk1 := se _ _ hk
    have hw1 := se _ _ hw
    refine eqI_nil hw1 he0 ⟨_, rfl, ?_⟩
    rcases List.eq_nil_or_concat ws with rfl | ⟨ws, x, rfl⟩
    · refine iteF ?_
      have := q G1 sG1
      rw [decide_eq_true (sr.done nif)] at this
      exact this
    rw [List.concat_eq_append] at *
    have es : iL (ws ++ [x]) = iL ws ++ [V.int (x : Nat)] := by
      unfold iL
      rw [List.map_append]
      rfl
    have hx' := sr.lw x (List.mem_append_right _ (List.mem_singleton.mpr rfl))
    rw [show (!(ws ++ [x]).isEmpty) = true by simp]
    rw [es] at hw1
    rw [List.length_append, List.length_singleton] at l3 ⊢
    refine iteT ⟨fun σ2 G2 => ∃ (kn2 ws2 : List Nat), 4 * (ns.length - kn2.length) + ws2.length < 4 * (ns.length - kn.length) + (ws.length + 1) ∧ ∃ (g5 : Option V), σ2 = [some (.ref a), some (.int (i : Nat)), some (.int (f0 : Nat)), some (.ref k0), some (.ref w0), g5] ∧ Same H G2 ∧ G2 k0 = some (.lst (iL kn2)) ∧ G2 w0 = some (.lst (iL ws2)) ∧ ws2.length ≤ 3 * kn2.length + 1 ∧ Srch ns f0 i kn2 ws2, ?_, ?_⟩
    · rintro σ2 G2 ⟨kn2, ws2, l2, g5, rest⟩
      exact ⟨_, l2, g5, kn2, ws2, rfl, rest⟩
    refine ⟨_, rfl, .inl ⟨rfl, _, SqL.of hw1⟩, w0, _, .int (x : Nat), rfl, rfl, hw1, by simp, ?_⟩
    rw [List.dropLast_concat]
    have sG2 : Same H (upd G1 w0 (.lst (iL ws))) := jr_same.put sG1 nw0
    have hk2 : (upd G1 w0 (.lst (iL ws))) k0 = some (.lst (iL kn)) := by rw [upd_ne kw]; exact hk1
    have hw2 : (upd G1 w0 (.lst (iL ws))) w0 = some (.lst (iL ws)) := upd_same
    generalize upd G1 w0 (.lst (iL ws)) = G2 at sG2 hk2 hw2 ⊢
    refine ⟨_, rfl, _, rfl, rfl, _, rfl, ?_⟩
    rw [natV_dec]
    by_cases hxi : x = i
    · subst hxi
      rw [decide_eq_true rfl]
      refine iteT ?_
      have := q G2 sG2
      rw [decide_eq_false (fun z => z (sr.snd x (List.mem_append_right _ (List.mem_singleton.mpr rfl)) .var))] at this
      exact this
    rw [decide_eq_false hxi]
    refine iteF ⟨_, rfl, _, rfl, k0, iL kn, rfl, .inl (SqL.of hk2), rfl, flat_iL' kn, ?_⟩
    rw [if_pos rfl, inV_iL]
    by_cases hm : x ∈ kn
    · rw [decide_eq_true hm]
      exact ⟨_, rfl, iteF (iteF ⟨kn, ws, by omega, _, rfl, sG2, hk2, hw2, by omega, sr.skip (.inl hm)⟩)⟩
    rw [decide_eq_false hm]
    refine ⟨_, rfl, iteT ⟨_, rfl, _, rfl, rfl, _, rfl, ?_⟩⟩
    rw [natV_dec]
    by_cases hxf : x = f0
    · rw [decide_eq_true hxf]
      exact iteF ⟨kn, ws, by omega, _, rfl, sG2, hk2, hw2, by omega, sr.skip (.inr hxf)⟩
    rw [decide_eq_false hxf]
    have go := sr.go rng hm hxf hxi
    have lim : (iL kn).length = kn.length := List.length_map ..
    have lm2 := nd_len' go.nd go.lt
    rw [List.length_append, List.length_singleton] at lm2
    refine iteT ⟨_, rfl, .inl ⟨rfl, _, SqL.of hk2⟩, .int (x : Nat), rfl, k0, iL kn, _, rfl, rfl, hk2, by omega, ?_⟩
    have sG3 : Same H (upd G2 k0 (.lst (iL kn ++ [V.int (x : Nat)]))) := jr_same.put sG2 nk0
    have hk3 : (upd G2 k0 (.lst (iL kn ++ [V.int (x : Nat)]))) k0 = some (.lst (iL (kn ++ [x]))) := by
      rw [upd_same]
      unfold iL
      rw [List.map_append]
      rfl
    have hw3 : (upd G2 k0 (.lst (iL kn ++ [V.int (x : Nat)]))) w0 = some (.lst (iL ws)) := by rw [upd_ne (Ne.symm kw)]; exact hw2
    generalize upd G2 k0 (.lst (iL kn ++ [V.int (x : Nat)])) = G3 at sG3 hk3 hw3 ⊢
    have hat := nAt_get hx'
    have kdx : kd ns x = gk (nAt ns x) := kd_at hat
    have gr := gk_rng (rng _ (List.mem_of_getElem? hat))
    obtain ⟨y, hy, ry⟩ := node sG3 hat
    refine ⟨_, rfl, .inl ⟨rfl, _, SqL.of hw3⟩, _, rfl, _, rfl, a, xs, _, _, rfl, rfl, (Ex.same sG3).tup ha, hy, y, nAt ns x, rfl, ry, fun p G4 s4 np hp => ?_⟩
    refine ⟨w0, p, _, _, rfl, rfl, s4 _ _ hw3, hp, ?_, ?_⟩
    · have e1 : (iL ws).length = ws.length := List.length_map ..
      have e2 : (iL (gk (nAt ns x))).length = (gk (nAt ns x)).length := List.length_map ..
      have g1 := gr.1
      omega
    rw [kdx] at go
    refine ⟨kn ++ [x], ws ++ gk (nAt ns x), ?_, _, rfl, jr_same.put (sG3.trans s4) nw0, by rw [upd_ne kw]; exact s4 _ _ hk3, ?_, ?_, go⟩
    · simp only [List.length_append, List.length_singleton]
      have g1 := gr.1
      omega
    · rw [upd_same]
      unfold iL
      rw [List.map_append]
    · simp only [List.length_append, List.length_singleton]
      have g1 := gr.1
      omega
end
end Sl

set_option Elab.async false
set_option linter.all false
set_option maxRecDepth 100000
set_option maxHeartbeats 400000
/-! ## filters of numbers; _law_is_graph -/
namespace Sl
open PySem PySem.Spec PyProof.Rows L2
theorem eqE_nil {K : PySem.W.Frag} {H : Hp} {l p : Addr} {is : List Nat} {Q : VK} (hl : H l = some (.lst (iL is))) (hp : H p = some (.lst [])) (q : Q (.bl is.isEmpty) H) : rEqD K (.ref l) (.ref p) H Q := by
  have ⟨h1, h2⟩ := ints_lay is
  refine ⟨.list (is.map fun i => .int (i : Nat)), .list [], .lst (SqL.of hl) (ints_dp is), .lst (SqL.of hp) .nil, ?_, by rfl, ?_⟩
  · unfold SeqAt.shaped
    simp only [PyData.canLay0, PyData.depth, h1, h2, Bool.true_and]
    exact decide_eq_true (by omega)
  have e : PyData.eqv (.list (is.map fun i => .int (i : Nat))) (.list []) = is.isEmpty := by
    rw [eqv_nil]
    cases is <;> simp
  rw [e]
  exact q
theorem fm_filtN (p : Nat → Bool) : ∀ l : List Nat, (l.map fun k => if p k = true then some (V.int (k : Nat)) else none).filterMap id = iL (l.filter p)
  | [] => rfl
  | a :: l => by
    rw [List.map_cons, List.filterMap_cons]
    cases h : p a with
    | true =>
      rw [List.filter_cons_of_pos h]
      simp only [if_true, id]
      rw [fm_filtN p l]
      rfl
    | false =>
      rw [List.filter_cons_of_neg (by rw [h]; exact Bool.false_ne_true)]
      simp only [Bool.false_eq_true, if_false, id]
      exact fm_filtN p l
section
variable {K : PySem.W.Frag} {σ : L2.St} {H : Hp}
/-- [k for k in ks if ..] -/
theorem tlc_filterN {i j : Nat} {a : Addr} {l : List Nat} {tt : TT} {vs : List Nat} {Q : VK} (p : Nat → Bool) (hi : σ[i]? = some (some (.ref a))) (hq : H a = some (.lst (iL l))) (hz : l.length ≤ 100000)
    (hw : ∀ x : V, wipe ((wipe σ vs).set j (some x)) vs = wipe σ vs) (hv : ∀ x : V, ((wipe σ vs).set j (some x))[j]? = some (some x))
    (he : ∀ (G : Hp) (k : Nat), Same H G → k ∈ l → Gt ((wipe σ vs).set j (some (.int (k : Nat)))) G tt (p k))
    (q : ∀ D0 H', H D0 = none → Same H H' → H' D0 = some (.lst (iL (l.filter p))) → Q (.ref D0) H') : tLc (iList K (tVar i)) (gName j) tt (tVar j) vs σ H Q := by
  have ll : (iL l).length = l.length := List.length_map ..
  refine ⟨_, hi, a, rfl, ⟨_, SqL.of hq⟩, fun D0 nD => ?_⟩
  refine lcL (K := K) (l.map fun k => if p k = true then some (V.int (k : Nat)) else none) (by rw [List.length_map, ll]) (by omega) (SqL.of hq) nD ?_ ?_
  · intro k x G Q2 Z2 hx s hQ hZ
    unfold iL at hx
    rw [List.getElem?_map] at hx
    obtain ⟨c, hc, rfl⟩ := Option.map_eq_some_iff.mp hx
    refine ⟨hw _, he G c s (List.mem_of_getElem? hc) G _ (Same.refl _) fun G2 s2 => ?_⟩
    cases h : p c with
    | true => exact iteT ⟨_, hv _, hQ _ G2 (by rw [List.getElem?_map, hc]; simp [h]) s2⟩
    | false => exact iteF (hZ G2 (by rw [List.getElem?_map, hc]; simp [h]) s2)
  · intro G s hD
    rw [fm_filtN] at hD
    exact q D0 G nD s hD
end
/-- the variables' places -/
def vSp (ns : List GN) (i : Nat) : List Nat := (List.range i).filter fun k => (nAt ns k).own.isSome
def vOw (ns : List GN) (k : Nat) : Nat := ((nAt ns k).own).getD 0
theorem vSp_own {ns : List GN} : ∀ i, i ≤ ns.length → (vSp ns i).map (vOw ns) = own (ns.take i)
  | 0, _ => rfl
  | i + 1, h => by
    have hi : i < ns.length := h
    have e := nAt_get hi
    have ih := vSp_own (ns := ns) i (by omega)
    unfold vSp at ih ⊢
    unfold own at ih ⊢
    rw [List.range_succ, List.filter_append, List.map_append, ih, List.take_add_one, e, List.filterMap_append]
    congr 1
    cases h2 : (nAt ns i).own with
    | none => simp [h2]
    | some f => simp [h2, vOw]
theorem mem_vSp {ns : List GN} {k : Nat} : k ∈ vSp ns ns.length ↔ ∃ f, ns[k]? = some (.V f) := by
  unfold vSp
  rw [List.mem_filter, List.mem_range]
  constructor
  · rintro ⟨h, e⟩
    have e2 := nAt_get h
    cases g : nAt ns k with
    | W _ _ => rw [g] at e; cases e
    | F _ => rw [g] at e; cases e
    | V f => exact ⟨f, by rw [e2, g]⟩
  · rintro ⟨f, e⟩
    have h := (List.getElem?_eq_some_iff.mp e).1
    have e2 := nAt_get h
    rw [e] at e2
    exact ⟨h, by rw [← Option.some.inj e2]; rfl⟩
theorem vOw_at {ns : List GN} {k f : Nat} (e : ns[k]? = some (.V f)) : vOw ns k = f := by
  have h := (List.getElem?_eq_some_iff.mp e).1
  have e2 := nAt_get h
  rw [e] at e2
  unfold vOw
  rw [← Option.some.inj e2]
  rfl
abbrev sLIsG : Stmt := topT 42
theorem scLIsG : FnScope ["_law_nodes", "_law_spots", "_law_owners", "_law_at", "_law_node", "_law_one"] ["_law_nodes"] (defScope sLIsG) := ⟨rfl, rfl, rfl, by decide +kernel, rfl, by decide +kernel, by decide +kernel⟩
section
variable {P : Program} {w : World} {K : PySem.W.Frag} {mg : Str → Option Value} {base : Heap}
open Classical in
def spLIsG (K : PySem.W.Frag) : Sp := fun vs H Q _ => ∃ (u : V) (ns : List GN), vs = [u] ∧ Rdd K H u (.tup (ns.map ndD)) ∧ (∀ g ∈ ns, Rng ns.length g) ∧ 0 < ns.length ∧ ns.length ≤ 100 ∧ ∀ H', Same H H' → Q (.bl (decide (GV ns))) H'
open Classical in
theorem ok_lIsG (B : Bt mg) (UIo : Uf P w K mg base "_law_is_owned" ["_law_nodes", "_law_at"] 2 (spLOwned K)) {f : Addr} {fd : FuncData} (F : Fun K "_law_is_graph" "_law_is_graph" sLIsG f fd) : FnOk P w K mg base CX0 3 f fd ["_law_nodes"] (spLIsG K) := by
  refine F.ok scLIsG (fun vs H Q E h => ?_) (fun cdv A outer s H vs Q E hr h => ?_)
  · obtain ⟨u, ns, rfl, _⟩ := h
    rfl
  · obtain ⟨u, ns, rfl, hu, rng, pos, hn, q⟩ := h
    have sl := sizeLine_eq
    refine ⟨_, (pss_cons (ps_setLc (i := 1) (own := [("_law_at", 3), ("_law_node", 4)]) (g := gTup K 2 (gCons (gName 3) (gCons (gName 4) gNil))) (tt := tTest (tOp rEq (tOp (rIxT K) (tVar 4) (tC (.int 0))) (tC (.str "var")))) (te := tVar 3) rfl scLIsG.nd rfl rfl (sw_true rfl rfl rfl (by decide +kernel)) (pi_enumT (by rfl) B.enum (pa_cons (pv 0) pa_nil)) (blkOk_by (own := [("_law_at", 3), ("_law_node", 4)]) (N := ["_law_nodes", "_law_spots", "_law_owners", "_law_at", "_law_node", "_law_one"]) (sc := defScope sLIsG) (by decide +kernel)) (fun _ _ _ _ _ => (pg_tup rfl (pgs_cons (pg_name (i := 3) scLIsG.nd rfl (Or.inl rfl)) (pgs_cons (pg_name (i := 4) scLIsG.nd rfl (Or.inl rfl)) pgs_nil)))) (fun _ _ _ _ _ => pts_one (by exact (pt_cmpR op_eq (pe_ix ix_tup (pv 4) pe_int (fun _ _ => rfl)) pe_str (nomark _)))) (fun _ _ _ _ _ => by exact (pv 3)))
        (pss_cons (ps_setLc (i := 2) (own := [("_law_at", 3)]) (g := gName 3) (tt := tYes) (te := tOp (rIxT K) (tOp (rIxT K) (tVar 0) (tVar 3)) (tC (.int 1))) rfl scLIsG.nd rfl rfl (sw_true rfl rfl rfl (by decide +kernel)) (pi_list (pv 1)) (blkOk_by (own := [("_law_at", 3)]) (N := ["_law_nodes", "_law_spots", "_law_owners", "_law_at", "_law_node", "_law_one"]) (sc := defScope sLIsG) (by decide +kernel)) (fun _ _ _ _ _ => pg_name (i := 3) scLIsG.nd rfl (Or.inl rfl)) (fun _ _ _ _ _ => pts_nil) (fun _ _ _ _ _ => by exact (pe_ix ix_tup (pe_ix ix_tup (pv 0) (pv 3) (fun _ _ => rfl)) pe_int (fun _ _ => rfl))))
        (pss_cons (ps_if (PW.pt (pw_or (pt_cmpR op_eq (pe_ix ix_tup (pe_ix ix_tup (pv 0) pe_int (fun _ _ => rfl)) pe_int (fun _ _ => rfl)) pe_str (nomark _)) (pw_or1 (pt_cmpR op_ne (pe_lenSetA (by rfl) B.len (by rfl) B.set (pv 2)) (pe_callB call_len_seq (by rfl) B.len PySem.boot_len (pa_cons (pv 2) pa_nil)) (nomark _)))))
          (pss_one (ps_ret pe_bl)) pss_nil)
        (pss_cons (ps_if (pt_cmpR (op_neD hr.units) (pe_lc (own := [("_law_one", 5)]) (g := gName 5) (tt := tTest (tOp rNe (tOp (rIxT K) (tOp (rIxT K) (tVar 0) (tVar 5)) (tC (.int 0))) (tC (.str "fun")))) (te := tVar 5) rfl scLIsG.nd (pi_list (pv 2)) (blkOk_by (own := [("_law_one", 5)]) (N := ["_law_nodes", "_law_spots", "_law_owners", "_law_at", "_law_node", "_law_one"]) (sc := defScope sLIsG) (by decide +kernel)) (fun _ _ _ _ _ => pg_name (i := 5) scLIsG.nd rfl (Or.inl rfl)) (fun _ _ _ _ _ => pts_one (by exact (pt_cmpR op_ne (pe_ix ix_tup (pe_ix ix_tup (pv 0) (pv 5) (fun _ _ => rfl)) pe_int (fun _ _ => rfl)) pe_str (nomark _)))) (fun _ _ _ _ _ => by exact (pv 5))) (pe_lst pa_nil) (nomark _))
          (pss_one (ps_ret pe_bl)) pss_nil)
        (pss_one (ps_ret (pe_cmpR (op_eqD hr.units) (pe_lc (own := [("_law_at", 3)]) (g := gName 3) (tt := tNot (tB (tCall (spLOwned K) [] E0 (tCons (tVar 0) (tCons (tVar 3) tNil))))) (te := tVar 3) rfl scLIsG.nd (pi_list (pv 1)) (blkOk_by (own := [("_law_at", 3)]) (N := ["_law_nodes", "_law_spots", "_law_owners", "_law_at", "_law_node", "_law_one"]) (sc := defScope sLIsG) (by decide +kernel)) (fun _ _ _ _ _ => pg_name (i := 3) scLIsG.nd rfl (Or.inl rfl)) (fun _ _ _ _ _ => pts_one (by exact (pt_not (pt_val (pe_call UIo.G hr (by rfl) UIo.g UIo.kp UIo.b .nil pass0 (pa_cons (pv 0) (pa_cons (pv 3) pa_nil))))))) (fun _ _ _ _ _ => by exact (pv 3))) (pe_lst pa_nil) (nomark _)))))))), ?_⟩
    obtain ⟨b0, us, rfl, hsu, hxu, _⟩ := id hu.tupd'
    have lu : us.length = ns.length := by rw [hxu.length, List.length_map]
    have node : ∀ {G : Hp} {k : Nat} {g : GN}, Same H G → ns[k]? = some g → ∃ v, atI us ((k : Nat) : Int) = some v ∧ Rdd K G v (ndD g) := fun {G k g} s hk => by
      obtain ⟨v, hv, rv⟩ := hxu.atI (i := ((k : Nat) : Int)) (d := ndD g) (atI_nat (by rw [List.getElem?_map, hk]; rfl))
      exact ⟨v, hv, Rdd.ex (.same s) _ rv⟩
    have kind : ∀ {G : Hp} {v : V} {g : GN} (z : Str), Rdd K G v (ndD g) → ∃ c0 ws x, v = .ref c0 ∧ SqT K G c0 ws ∧ atI ws (0 : Int) = some (.str x) ∧ (x = "fun" ↔ g.isF = true) ∧ (x = "var" ↔ g.own.isSome = true) ∧ ∀ f, g = .V f → atI ws (1 : Int) = some (.int (f : Nat)) := fun {G v g} z rv => by
      cases g with
      | W z cs =>
        obtain ⟨c0, ws, rfl, hc, hw, _⟩ := rv.tupd'
        obtain ⟨x1, x2, x3, rfl, r1, r2, r3⟩ := hw.trip
        cases r1
        exact ⟨c0, _, _, rfl, hc, atI_nat (j := 0) rfl, ⟨fun h => absurd h (by decide +kernel), fun h => by cases h⟩, ⟨fun h => absurd h (by decide +kernel), fun h => by cases h⟩, fun f e => by cases e⟩
      | F c =>
        obtain ⟨c0, ws, rfl, hc, hw, _⟩ := rv.tupd'
        obtain ⟨x1, x2, rfl, r1, r2⟩ := hw.pair
        cases r1
        exact ⟨c0, _, _, rfl, hc, atI_nat (j := 0) rfl, ⟨fun h => rfl, fun h => rfl⟩, ⟨fun h => absurd h (by decide +kernel), fun h => by cases h⟩, fun f e => by cases e⟩
      | V c =>
        obtain ⟨c0, ws, rfl, hc, hw, _⟩ := rv.tupd'
        obtain ⟨x1, x2, rfl, r1, r2⟩ := hw.pair
        cases r1
        cases r2
        exact ⟨c0, _, _, rfl, hc, atI_nat (j := 0) rfl, ⟨fun h => absurd h (by decide +kernel), fun h => by cases h⟩, ⟨fun h => rfl, fun h => rfl⟩, fun f e => by cases e; exact atI_nat (j := 1) rfl⟩
    have no : ¬ GV ns → ∀ H', Same H H' → Q (.bl false) H' := fun n H' s => by
      have := q H' s
      rwa [decide_eq_false n] at this
    refine ⟨_, rfl, b0, us, rfl, hsu, fun D0 nD => ?_⟩
    refine lcET (K := K) (xs := us) (fun i G => Same H G ∧ G D0 = some (.lst (iL (vSp ns i)))) ?_ ?_ ?_ ?_ ?_
    · exact ⟨jr_same.put (Same.refl _) nD, upd_same⟩
    · rintro i G ⟨sG, _⟩
      exact (Ex.same sG).tup hsu
    · rintro i G T y ⟨sG, h1⟩ nT
      have sT := Same.new (o := .tup [V.int (i : Nat), y]) nT
      exact ⟨sG.trans sT, sT _ _ h1⟩
    · rintro i y T G hy ⟨sG, h1⟩ hT
      obtain ⟨d, hd, ry⟩ := hxu.get hy
      rw [List.getElem?_map] at hd
      obtain ⟨g, hgi, rfl⟩ := Option.map_eq_some_iff.mp hd
      have hi := (List.getElem?_eq_some_iff.mp hgi).1
      have eg : nAt ns i = g := Option.some.inj ((nAt_get hi).symm.trans hgi)
      have ryG := Rdd.ex (Ex.same sG) _ ry
      have lf : (vSp ns i).length ≤ i := by
        have := List.length_filter_le (fun i => (nAt ns i).own.isSome) (List.range i)
        rwa [List.length_range] at this
      obtain ⟨c0, ws, x, rfl, hc, e0, _, ev, e1⟩ := kind "" ryG
      refine ⟨T, _, rfl, SqT.of hT, rfl, _, _, rfl, _, _, rfl, rfl, rfl, ?_⟩
      refine ⟨_, rfl, c0, ws, (0 : Int), _, rfl, rfl, hc, e0, rfl, _, rfl, ?_⟩
      rw [str_dec]
      by_cases hv : x = "var"
      · rw [decide_eq_true hv]
        refine iteT ⟨_, rfl, _, h1, by unfold iL; rw [List.length_map]; omega, jr_same.put sG nD, ?_⟩
        unfold vSp
        rw [List.range_succ, List.filter_append, List.filter_cons_of_pos (by rw [eg]; exact ev.mp hv)]
        unfold iL
        rw [List.map_append]
        exact upd_same
      · rw [decide_eq_false hv]
        refine iteF ⟨sG, ?_⟩
        unfold vSp
        rw [List.range_succ, List.filter_append, List.filter_cons_of_neg (by rw [eg]; exact fun z => hv (ev.mpr z))]
        simp
        exact h1
    rintro G1 ⟨s1, hD1⟩
    rw [lu] at hD1
    -- the owners
    have ln : (vSp ns ns.length).length ≤ ns.length := by
      have := List.length_filter_le (fun i => (nAt ns i).own.isSome) (List.range ns.length)
      rwa [List.length_range] at this
    have lil : ∀ l : List Nat, (iL l).length = l.length := fun l => List.length_map ..
    have eow : (vSp ns ns.length).map (vOw ns) = own ns := by rw [vSp_own _ (Nat.le_refl _), List.take_length]
    refine ⟨_, rfl, D0, rfl, ⟨_, SqL.of hD1⟩, fun D2 nD2 => ?_⟩
    refine lcL (K := K) ((vSp ns ns.length).map fun k => some (V.int (vOw ns k : Nat))) (by rw [List.length_map, lil]) (by rw [lil]; omega) (SqL.of hD1) nD2 ?_ ?_
    · intro k x G Q2 Z2 hx s hQ hZ
      unfold iL at hx
      rw [List.getElem?_map] at hx
      obtain ⟨c, hc, rfl⟩ := Option.map_eq_some_iff.mp hx
      obtain ⟨f, hf⟩ := mem_vSp.mp (List.mem_of_getElem? hc)
      obtain ⟨v, hv, rv⟩ := node (s1.trans s) hf
      obtain ⟨c0, ws, x, rfl, hc0, e0, _, _, e1⟩ := kind "" rv
      have e1' := e1 f rfl
      refine ⟨rfl, iteT (B := Z2 G) ⟨_, rfl, _, rfl, b0, us, _, _, rfl, rfl, (Ex.same (s1.trans s)).tup hsu, hv, c0, ws, (1 : Int), _, rfl, rfl, hc0, e1', hQ _ G ?_ (Same.refl _)⟩⟩
      rw [List.getElem?_map, hc, ← vOw_at hf]
      rfl
    intro G2 s2 hD2
    rw [fm_al2, show (vSp ns ns.length).map (fun k => V.int (vOw ns k : Nat)) = iL (own ns) by rw [← eow]; unfold iL; rw [List.map_map]; rfl] at hD2
    have s02 := s1.trans s2
    have hD12 := s2 _ _ hD1
    -- the root is a variable, or two variables have one owner
    have h0 := nAt_get pos
    obtain ⟨v, hv, rv⟩ := node s02 h0
    obtain ⟨c0, ws, x, rfl, hc0, e0, _, ev, e1⟩ := kind "" rv
    refine ⟨_, rfl, b0, us, (0 : Int), _, rfl, rfl, (Ex.same s02).tup hsu, hv, c0, ws, (0 : Int), _, rfl, rfl, hc0, e0, rfl, _, rfl, ?_⟩
    rw [str_dec]
    by_cases hxv : x = "var"
    · rw [decide_eq_true hxv]
      refine iteT (iteT (no (fun gv => ?_) G2 s02))
      have hs := ev.mp hxv
      cases hg : nAt ns 0 with
      | W _ _ => rw [hg] at hs; cases hs
      | F _ => rw [hg] at hs; cases hs
      | V f => exact gv.free f 0 (by rw [h0, hg]) .var
    rw [decide_eq_false hxv]
    have oz := own_le ns
    refine iteF ⟨_, rfl, D2, (own ns).map fun f => ((f : Nat) : Int), rfl, SqL.of (by rw [hD2]; unfold iL; rw [List.map_map]; rfl), by rw [List.length_map]; omega, _, rfl, D2, _, rfl, .inl (SqL.of hD2), rfl, _, rfl, ?_⟩
    rw [int_dec, lil]
    have ez : decide (((PySem.W.ossOf ((own ns).map fun f => ((f : Nat) : Int))).length : Int) = ((own ns).length : Nat)) = decide (own ns).Nodup := by
      have e := oss_iff ((own ns).map fun f => ((f : Nat) : Int))
      rw [List.length_map] at e
      have e2 : ((own ns).map fun f => ((f : Nat) : Int)).Nodup ↔ (own ns).Nodup := nd_ints (own ns)
      rw [Bool.eq_iff_iff]
      simp only [decide_eq_true_eq]
      rw [← e2, ← e]
      omega
    rw [ez]
    by_cases hnd : (own ns).Nodup
    case neg =>
      rw [decide_eq_false hnd]
      exact iteT (no (fun gv => hnd gv.own) G2 s02)
    rw [decide_eq_true hnd]
    refine iteF ?_
    -- an owner that is no function
    unfold tNext tSeq tIfS
    dsimp only
    refine ttest_raw ?_
    refine tlc_filterN (fun k => !(nAt ns k).isF) (a := D2) (l := own ns) rfl hD2 (by omega) (fun _ => rfl) (fun _ => rfl) (fun G k s hk H3 Q3 s3 q3 => ?_) (fun D3 G3 n3 s3 hD3 => ?_)
    · have hk' : k < ns.length := by
        unfold own at hk
        obtain ⟨g, hg, e⟩ := List.mem_filterMap.mp hk
        cases g with
        | W _ _ => cases e
        | F _ => cases e
        | V f =>
          cases e
          exact rng _ hg
      have s03 := (s02.trans s).trans s3
      obtain ⟨v, hv, rv⟩ := node s03 (nAt_get hk')
      obtain ⟨c0, ws, x, rfl, hc0, e0, ef, ev, e1⟩ := kind "" rv
      refine ⟨_, rfl, _, rfl, b0, us, _, _, rfl, rfl, (Ex.same s03).tup hsu, hv, c0, ws, (0 : Int), _, rfl, rfl, hc0, e0, rfl, _, rfl, ?_⟩
      rw [str_dec]
      have : decide (x = "fun") = (nAt ns k).isF := by
        rw [Bool.eq_iff_iff, decide_eq_true_eq]
        exact ef
      rw [this]
      exact q3 H3 (Same.refl _)
    refine ⟨(by show 0 ≤ sizeLine; omega), fun e0 ne0 => ?_⟩
    have se := Same.new (o := .lst []) ne0
    have he0 : (upd G3 e0 (.lst [])) e0 = some (.lst []) := upd_same
    generalize upd G3 e0 (.lst []) = G4 at se he0 ⊢
    have s04 := (s02.trans s3).trans se
    refine eqI_nil (se _ _ hD3) he0 ⟨_, rfl, ?_⟩
    by_cases hbad : ((own ns).filter fun k => !(nAt ns k).isF) = []
    case neg =>
      have e : (!((own ns).filter fun k => !(nAt ns k).isF).isEmpty) = true := by
        cases h : (own ns).filter fun k => !(nAt ns k).isF with
        | nil => exact absurd h hbad
        | cons _ _ => rfl
      rw [e]
      refine iteT (no (fun gv => hbad ?_) G4 s04)
      refine List.filter_eq_nil_iff.mpr fun k hk => ?_
      have h := gv.ar
      unfold arB at h
      rw [Bool.and_eq_true] at h
      unfold own at hk
      obtain ⟨g, hg, e⟩ := List.mem_filterMap.mp hk
      cases g with
      | W _ _ => cases e
      | F _ => cases e
      | V f =>
        cases e
        have hb := List.all_eq_true.mp h.1 _ hg
        have hb : (match ns[k]? with | some g => g.isF | none => false) = true := hb
        rw [nAt_get (rng _ hg)] at hb
        rw [show (nAt ns k).isF = true from hb]
        exact Bool.false_ne_true
    have isf : ∀ k ∈ own ns, (nAt ns k).isF = true := fun k hk => by
      have := List.filter_eq_nil_iff.mp hbad k hk
      cases h : (nAt ns k).isF with
      | true => rfl
      | false =>
        rw [h] at this
        exact absurd rfl this
    have inown : ∀ {f : Nat}, GN.V f ∈ ns → f ∈ own ns := fun {f} h => List.mem_filterMap.mpr ⟨_, h, rfl⟩
    have ar : arB ns = true := by
      unfold arB
      rw [decide_eq_true hnd, Bool.and_true]
      refine List.all_eq_true.mpr fun g hg => ?_
      cases g with
      | W _ _ => rfl
      | F _ => rfl
      | V f =>
        show (match ns[f]? with | some g => g.isF | none => false) = true
        rw [nAt_get (rng _ hg)]
        exact isf f (inown hg)
    have hgv : GV ns ↔ Free ns := ⟨fun g => g.free, fun h => ⟨pos, hn, rng, ar, h⟩⟩
    rw [hbad]
    refine iteF ?_
    refine tret_raw (top_raw ?_)
    have hD14 := se _ _ (s3 _ _ hD12)
    refine tlc_filterN (fun k => !(decide (¬ Nd ns (vOw ns k) k 0))) (a := D0) (l := vSp ns ns.length) rfl hD14 (by omega) (fun _ => rfl) (fun _ => rfl) (fun G k s hk H5 Q5 s5 q5 => ?_) (fun D5 G5 n5 s5 hD5 => ?_)
    · obtain ⟨f, hf⟩ := mem_vSp.mp hk
      have s05 := (s04.trans s).trans s5
      have hfl := rng _ (List.mem_of_getElem? hf)
      have ne : k ≠ f := fun e => by
        have h1 := isf f (inown (List.mem_of_getElem? hf))
        have h2 := nAt_get hfl
        rw [← e, hf] at h2
        rw [← e, ← Option.some.inj h2] at h1
        cases h1
      refine ⟨_, rfl, _, rfl, .ref b0, k, f, ns, rfl, Rdd.ex (.same s05) _ hu, rng, pos, hn, hf, ne, fun H6 s6 => ⟨_, rfl, ?_⟩⟩
      have := q5 H6 s6
      rwa [vOw_at hf] at this
    refine ⟨(by show 0 ≤ sizeLine; omega), fun e1 ne1 => ?_⟩
    have sf := Same.new (o := .lst []) ne1
    have he1 : (upd G5 e1 (.lst [])) e1 = some (.lst []) := upd_same
    generalize upd G5 e1 (.lst []) = G6 at sf he1 ⊢
    refine eqE_nil (sf _ _ hD5) he1 ?_
    have e : ((vSp ns ns.length).filter fun k => !(decide (¬ Nd ns (vOw ns k) k 0))).isEmpty = decide (GV ns) := by
      rw [Bool.eq_iff_iff, decide_eq_true_eq, hgv, List.isEmpty_iff, List.filter_eq_nil_iff]
      constructor
      · intro h f v hv n
        have := h v (mem_vSp.mpr ⟨f, hv⟩)
        rw [vOw_at hv, decide_eq_false (fun z => z n)] at this
        exact this rfl
      · intro h k hk
        obtain ⟨f, hf⟩ := mem_vSp.mp hk
        rw [vOw_at hf, decide_eq_true (h f k hf)]
        exact Bool.false_ne_true
    rw [e]
    exact q G6 ((s04.trans s5).trans sf)
end
end Sl

set_option Elab.async false
set_option linter.all false
set_option maxRecDepth 100000
set_option maxHeartbeats 1000000
/-! ## the ends of iterators while an exception is handled -/
namespace Sl
open PySem PySem.Spec PyProof.Rows HotX
section
variable {prog : Program} {w : World} {A : Around} {E : Value → Shared → Prop} {s : Shared}
theorem HotAt.keep {x1 : Addr} {h h' : Heap} (hot : HotAt A x1 h) (k : ∀ o, h.get? x1 = some o → h'.get? x1 = some o) : HotAt A x1 h' := by
  obtain ⟨hh, o, vs, h1, h2, h3⟩ := hot
  exact ⟨hh, o, vs, k o h1, h2, h3⟩
/-- a StopIteration is made and raised -/
theorem stop_made {α : Type} {x1 : Addr} {Q : α → Shared → Prop} (hot : HotAt A x1 s.heap)
    (hE : ∀ h' e, (∀ b o, s.heap.get? b = some o → h'.get? b = some o) → (∃ o, h'.get? e = some o ∧ o.cls = .type "StopIteration") → E (.ref e) { s with heap := h' }) :
    wpAny (model prog w) A (newExc (.type "StopIteration") [] >>= fun e => (raiseNew e : Sem α)) Q E s := by
  obtain ⟨hh, o1, vs1, h1, d1, c1⟩ := hot
  refine wpAny_bind ?_
  simp only [newExc, newTuple]
  refine wpAny_bind (wpAny_newObj_type ?_ (by size_fits))
  refine wpAny_bind (m := firstArgMember _ _) (wpAny_of_eq (a := Value.none) (by first | rfl | (simp only [firstArgMember]; rfl)) ?_)
  refine wpAny_newObj_type ?_ (by size_fits)
  refine raiseNew_hot ⟨hh, o1, vs1, Heap.get?_push_of_some _ (Heap.get?_push_of_some _ h1), d1, c1⟩ (Nat.ne_of_lt (Heap.lt_size (Heap.get?_push_of_some _ h1))) (Heap.get?_push_size _ rfl) rfl (by first | (simp; done) | (simp; omega) | (simp only [Array.size_append]; simp; omega)) ?_
  refine hE _ _ (fun b o e => ?_) ⟨_, Heap.get?_update_self _ (Heap.get?_push_size _ rfl) rfl, rfl⟩
  rw [Heap.get?_update_other _ _ (Nat.ne_of_gt (Heap.lt_size (Heap.get?_push_of_some _ e)))]
  exact Heap.get?_push_of_some _ (Heap.get?_push_of_some _ e)
theorem next_list_end_hot {it l x1 : Addr} {i : Nat} {items : Array Value} {Q : Option Value → Shared → Prop} (hot : HotAt A x1 s.heap) (nx : x1 ≠ it) (hit : s.heap.IsListIter it l i) (hl : s.heap.IsList l items) (hx : items[i]? = none)
    (hQ : ∀ h', Heap.ExtBut it s.heap h' → Q none { s with heap := h' }) : wpAny (model prog w) A (pyNext (.ref it)) Q E s := by
  obtain ⟨o, ho, hc, hd⟩ := id hit
  obtain ⟨ol, hol, _, nl, hdl⟩ := hl
  unfold pyNext
  refine wpAny_bind (wpAny_attempt (wpAny_callSpecial?_slot (name := Str.ofString "__next__") hit.typeIs slot_listiter_next (wpAny_call_entry slot_listiter_next hit.typeIs entry_listiter_next ?_ (args_listiter_next _))))
  show wpAny _ _ (field (.ref it) 0 >>= _) _ _ s
  refine wpAny_bind (wpAny_field ho hd (x := .ref l) rfl ?_)
  show wpAny _ _ (if (Value.ref l == Value.none) = true then _ else _) _ _ s
  rw [if_neg (show ¬ ((Value.ref l == Value.none) = true) from Bool.false_ne_true)]
  show wpAny _ _ (field (.ref it) 1 >>= _) _ _ s
  refine wpAny_bind (wpAny_field ho hd (x := .int i 0) rfl ?_)
  show wpAny _ _ (seqItems? (.ref l) >>= _) _ _ s
  refine wpAny_bind (wpAny_seqItems hol hdl ?_)
  simp only [Int.toNat_natCast, hx]
  refine wpAny_bind (wpAny_rule (wpAny_bind (wpAny_setField ho hd (by simp) ?_)))
  have sb := Heap.SameBut.update (h := s.heap) (a := it) (f := Obj.mapFields (·.setIfInBounds 0 Value.none))
  refine stop_made (x1 := x1) (HotAt.keep hot fun o e => (Heap.get?_update_other _ _ (Ne.symm nx)).trans e) fun h' e k st => ?_
  refine wpAny_bind (wpAny_isInstance (T := "StopIteration") (b := true) st isSubtype_stop ?_)
  exact wpAny_pure (hQ _ fun b o hb e => k b o ((Heap.get?_update_other _ _ (Ne.symm hb)).trans e))
end
end Sl

set_option Elab.async false
set_option linter.all false
set_option maxRecDepth 100000
set_option maxHeartbeats 1000000
/-! ## tuples taken apart, walks, while an exception is handled -/
namespace Sl
open PySem PySem.Spec PyProof.Rows HotX
section
variable {prog : Program} {w : World} {A : Around} {E : Value → Shared → Prop} {s : Shared}
/-- behind the last item: the iterator lets its tuple go, a StopIteration flies -/
theorem nextOf_tuple_hot {it t x1 : Addr} {i : Nat} {items : Array Value} {Q : Value → Shared → Prop} (hot : HotAt A x1 s.heap) (nx : x1 ≠ it) (hit : s.heap.IsTupleIter it t i) (ht : s.heap.IsTuple t items) (hx : items[i]? = none)
    (hE : ∀ h' e, Heap.ExtBut it s.heap h' → (∃ o, h'.get? e = some o ∧ o.cls = .type "StopIteration") → E (.ref e) { s with heap := h' }) : wpAny (model prog w) A (Builtin.SmallTypes.nextOf (.ref it)) Q E s := by
  obtain ⟨o, ho, hc, hd⟩ := id hit
  obtain ⟨ol, hol, _, nl, hdl⟩ := ht
  unfold Builtin.SmallTypes.nextOf
  refine wpAny_bind (wpAny_callSpecial?_slot (name := Str.ofString "__next__") hit.typeIs F.slot_tuple_iterator_next (wpAny_call_entry F.slot_tuple_iterator_next hit.typeIs F.entry_tuple_iterator_next ?_ (F.args_tuple_iterator_next_1 _)))
  show wpAny _ _ (field (.ref it) 0 >>= _) _ _ s
  refine wpAny_bind (wpAny_field ho hd (x := .ref t) rfl ?_)
  show wpAny _ _ (if (Value.ref t == Value.none) = true then _ else _) _ _ s
  rw [if_neg (show ¬ ((Value.ref t == Value.none) = true) from Bool.false_ne_true)]
  show wpAny _ _ (field (.ref it) 1 >>= _) _ _ s
  refine wpAny_bind (wpAny_field ho hd (x := .int i 0) rfl ?_)
  show wpAny _ _ (seqItems? (.ref t) >>= _) _ _ s
  refine wpAny_bind (wpAny_seqItems hol hdl ?_)
  simp only [Int.toNat_natCast, hx]
  refine wpAny_bind (wpAny_rule (wpAny_bind (wpAny_setField ho hd (by simp) ?_)))
  refine stop_made (x1 := x1) (HotAt.keep hot fun o e => (Heap.get?_update_other _ _ (Ne.symm nx)).trans e) fun h' e k st => ?_
  exact hE _ _ (fun b o hb e => k b o ((Heap.get?_update_other _ _ (Ne.symm hb)).trans e)) st
theorem next_tup_hot {it t x1 : Addr} {i : Nat} {items : Array Value} {Q : Option Value → Shared → Prop} (hot : HotAt A x1 s.heap) (nx : x1 ≠ it) (hit : IsTupIter s.heap it t i) (ht : IsTup s.heap t items) (hx : items[i]? = none)
    (hQ : ∀ h', Heap.ExtBut it s.heap h' → Q none { s with heap := h' }) : wpAny (model prog w) A (pyNext (.ref it)) Q E s := by
  obtain ⟨o, ho, hc, hd⟩ := id hit
  obtain ⟨ol, hol, _, nl, hdl⟩ := ht
  unfold pyNext
  refine wpAny_bind (wpAny_attempt (wpAny_callSpecial?_slot (name := Str.ofString "__next__") hit.typeIs slot_tupleiter_next (wpAny_call_entry slot_tupleiter_next hit.typeIs entry_tupleiter_next ?_ (args_tupleiter_next _))))
  show wpAny _ _ (field (.ref it) 0 >>= _) _ _ s
  refine wpAny_bind (wpAny_field ho hd (x := .ref t) rfl ?_)
  show wpAny _ _ (if (Value.ref t == Value.none) = true then _ else _) _ _ s
  rw [if_neg (show ¬ ((Value.ref t == Value.none) = true) from Bool.false_ne_true)]
  show wpAny _ _ (field (.ref it) 1 >>= _) _ _ s
  refine wpAny_bind (wpAny_field ho hd (x := .int i 0) rfl ?_)
  show wpAny _ _ (seqItems? (.ref t) >>= _) _ _ s
  refine wpAny_bind (wpAny_seqItems hol hdl ?_)
  simp only [Int.toNat_natCast, hx]
  refine wpAny_bind (wpAny_rule (wpAny_bind (wpAny_setField ho hd (by simp) ?_)))
  refine stop_made (x1 := x1) (HotAt.keep hot fun o e => (Heap.get?_update_other _ _ (Ne.symm nx)).trans e) fun h' e k st => ?_
  refine wpAny_bind (wpAny_isInstance (T := "StopIteration") (b := true) st isSubtype_stop ?_)
  exact wpAny_pure (hQ _ fun b o hb e => k b o ((Heap.get?_update_other _ _ (Ne.symm hb)).trans e))
theorem items_tup_hot {t x1 : Addr} {items : Array Value} {Q : List Value → Shared → Prop} (hot : HotAt A x1 s.heap) (ht : IsTup s.heap t items)
    (hQ : ∀ h', Heap.ExtBut s.heap.objs.size s.heap h' → Q items.toList { s with heap := h' }) : wpAny (model prog w) A (unpackItems (.ref t) items.size none) Q E s := by
  have old : ∀ {b : Addr} {o : Obj}, s.heap.get? b = some o → b ≠ s.heap.objs.size := fun e => Nat.ne_of_lt (Heap.lt_size e)
  have hlt : t ≠ s.heap.objs.size := by
    obtain ⟨o, ho, _⟩ := ht
    exact old ho
  obtain ⟨hh, ox, vx, hx1, hx2, hx3⟩ := hot
  have nx := old hx1
  unfold unpackItems notIterableAtAll
  refine wpAny_bind (wpAny_bind (wpAny_specialOf ht.typeIs slot_tuple_iter.lookup (wpAny_pure ?_)))
  simp only [Bool.false_eq_true, if_false]
  refine wpAny_bind (wpAny_holding (iter_tuple ht ?_))
  refine wpAny_bind (wpAny_holding (draw_tuple hlt items.size 0 _ _ ⟨_, Heap.get?_push_size _ rfl, rfl, rfl⟩ (ht.push _) (by omega) fun h₁ hit₁ hs₁ => ?_))
  rw [show List.take items.size (List.drop 0 items.toList) = items.toList by rw [List.drop_zero]; exact List.take_of_length_le (by simp), if_neg (by simp)]
  refine wpAny_bind (wpAny_holding (next_tup_hot (x1 := x1) ⟨hh, ox, vx, hs₁.extBut x1 ox nx (Heap.get?_push_of_some _ hx1), hx2, hx3⟩ nx hit₁ ((ht.push _).extBut hs₁.extBut hlt) (by simp) fun h₂ he₂ => ?_))
  simp only [Option.isSome_none, Bool.false_eq_true, if_false]
  exact wpAny_pure (hQ h₂ fun b o hb e => he₂ b o hb (hs₁.extBut b o hb (Heap.get?_push_of_some _ e)))
theorem assign_tup_hot {env : Env} {elts : List Expr} {k : Nat} {pos : Pos} {t x1 : Addr} {items : Array Value} {Q : Unit → Shared → Prop} (hot : HotAt A x1 s.heap) (ht : IsTup s.heap t items)
    (hn : (assignEach elts env).length = items.size) (hstar : (assignEach elts env).findIdx? (·.1) = none)
    (h : ∀ h', Heap.ExtBut s.heap.objs.size s.heap h' → wpAny (model prog w) A (assignInOrder ((assignEach elts env).map (·.2)) items.toList) Q E { s with heap := h' }) :
    wpAny (model prog w) A (assign (.Tuple elts k pos) env (.ref t)) Q E s := by
  rw [assign_Tuple]
  refine wpAny_bind (wpAny_standAt ?_)
  unfold unpack
  rw [hn, hstar]
  exact wpAny_bind (wpAny_holding (items_tup_hot hot ht h))
/-- a walk over a list -/
theorem walk_list_hot {x1 : Addr} (I l : Addr) (hne : l ≠ I) (nx : x1 ≠ I) (items : Array Value) :
    Walks prog w A I [I, l, x1] [I] items.size (fun i v => items[i]? = some v) (fun i h => h.IsListIter I l i ∧ h.IsList l items ∧ HotAt A x1 h) where
  sub := fun b hb => by simp at hb; simp [hb]
  frame := fun _ _ _ st hk => ⟨st.1.at fun o e => hk I (by simp) o e, st.2.1.at fun o e => hk l (by simp) o e, HotAt.keep st.2.2 fun o e => hk x1 (by simp) o e⟩
  item := fun i s Q E hi st hQ => wpAny_pyNext_list_item st.1 st.2.1 (x := items[i]) (by simp [hi]) fun h' hit' hs' =>
    hQ _ h' s.toks (by simp [hi]) ⟨hit', st.2.1.extBut hs'.extBut hne, HotAt.keep st.2.2 fun o e => hs'.extBut x1 o nx e⟩ (fun b o hb e => hs'.extBut b o (fun h => hb (by simp [h])) e)
  done := fun s Q E st hQ => next_list_end_hot st.2.2 nx st.1 st.2.1 (by simp) fun h' he' => hQ h' s.toks (fun b o hb e => he' b o (fun h => hb (by simp [h])) e)
  self := fun _ _ _ _ st hQ => wpAny_pyIter_listiter st.1 hQ
/-- .. over a tuple, item by item -/
theorem draws_tup_hot {x1 : Addr} (it t : Addr) (hne : t ≠ it) (nx : x1 ≠ it) (items : Array Value) :
    Draws prog w A it [it, t, x1] items.size (fun i v => items[i]? = some v) (fun i h => h.IsTupleIter it t i ∧ h.IsTuple t items ∧ HotAt A x1 h) where
  live := fun _ _ st => let ⟨o, ho, _⟩ := st.1; ⟨o, ho⟩
  frame := fun _ _ _ st hk => ⟨st.1.at fun o e => hk it (by simp) o e, st.2.1.at fun o e => hk t (by simp) o e, HotAt.keep st.2.2 fun o e => hk x1 (by simp) o e⟩
  item := fun i s Q E hi st hQ => wpAny_nextOf_tuple_item st.1 st.2.1 (x := items[i]) (by simp [hi]) fun h' hit' hs' =>
    hQ _ h' s.toks (by simp [hi]) ⟨hit', st.2.1.extBut hs'.extBut hne, HotAt.keep st.2.2 fun o e => hs'.extBut x1 o nx e⟩ hs'
  done := fun s Q E st hE => nextOf_tuple_hot st.2.2 nx st.1 st.2.1 (by simp) hE
end
end Sl

set_option Elab.async false
set_option linter.all false
set_option maxRecDepth 100000
set_option maxHeartbeats 3200000
/-! ## len(set(xs)) while an exception is handled -/
namespace Sl
open PySem PySem.Spec PyProof.Rows L2 L2H PySem.W HotX
section
variable {P : Program} {w : World} {A : Around} {E : Value → Shared → Prop} {s : Shared}
abbrev setB (b : Bool) : Obj := { cls := .type "set", dict := none, data := .set #[] 0 (.fresh 0 0 b) }
/-- the numbers that ns holds stand in a set at a, what stood in h stays -/
def MetIn (P : Program) (w : World) (h : Heap) (a : Addr) (ns : List Int) (n : Nat) (s0 : Shared) (s' : Shared) : Prop :=
  ∃ h' tk, s' = { s0 with heap := h', toks := tk } ∧ h'.SetOf (intKind P w) a (fun k => (firstMet (fun i => ns.getD i 0) n).any (· == k)) (firstMet (fun i => ns.getD i 0) n).length ∧ ∀ b o, h.get? b = some o → h'.get? b = some o
theorem init_met_hot {l x1 : Addr} {items : Array Value} {led : Bool} (ns : List Int) (hot : HotAt A x1 s.heap) (hl : s.heap.IsList l items) (hit : IntsAre items.toList ns) (hb : items.size + 1 < scanBound) :
    codeAny (model P w) A (.call (.builtin "set.__init__") ⟨[.ref s.heap.objs.size, .ref l], []⟩) (wants (fun r s' => r = .none ∧ MetIn P w s.heap s.heap.objs.size ns items.size s s') E) { s with heap := s.heap.push (setB led) } := by
  obtain ⟨hh, ox, vx, hx1, hx2, hx3⟩ := hot
  have hS : (s.heap.push (setB led)).get? s.heap.objs.size = some (setB led) := Heap.get?_push_size _ rfl
  have hT : Shared.TypeIs { s with heap := s.heap.push (setB led) } (.ref s.heap.objs.size) "set" := ⟨_, hS, rfl⟩
  have hl1 : (s.heap.push (setB led)).IsList l items := hl.push _
  have hlS : l < s.heap.objs.size := by
    obtain ⟨o, ho, _⟩ := hl
    exact Heap.lt_size ho
  have hxS : x1 < s.heap.objs.size := Heap.lt_size hx1
  have z1 : (s.heap.push (setB led)).objs.size = s.heap.objs.size + 1 := Heap.size_push ..
  refine codeAny_call_builtin F.called_set.init.plain F.entry_set_init (check_set_init_1 hT ?_)
  obtain ⟨⟨ocls, odict, odata, oslots⟩, hol, hcl, nl, hdl⟩ := hl
  simp only at hcl hdl
  subst hcl hdl
  have hol' : (s.heap.push (setB led)).get? l = some { cls := .type "list", dict := odict, data := .seq items nl, slots := oslots } := Heap.get?_push_of_some _ hol
  have hsls := F.sub_list_set
  have hslf := F.sub_list_frozenset
  have hne : (Value.type "list" == Value.type "dict") = false := by decide
  unfold Builtin.«set.__init__» noKeywords Builtin.Frozenset.updateFrom
  generalize hPI : pyIter = PI
  wp_walk
  subst hPI
  refine wpAny_pyIter_list hl1 ?_
  refine wpAny_bind (wpAny_runValue ?_)
  have below : ∀ {b : Addr}, b < s.heap.objs.size → b ≠ (s.heap.push (setB led)).objs.size := fun hb => by
    rw [z1]
    exact Nat.ne_of_lt (Nat.lt_succ_of_lt hb)
  have fresh : s.heap.objs.size ∉ [(s.heap.push (setB led)).objs.size, l, x1] := by
    rw [z1]
    simp only [List.mem_cons, List.not_mem_nil, or_false, not_or]
    exact ⟨Nat.ne_of_lt (Nat.lt_succ_self _), Nat.ne_of_gt hlS, Nat.ne_of_gt hxS⟩
  have hval : ∀ (i : Nat) (v : Value), items[i]? = some v → ∃ t, v = .int ((fun i => ns.getD i 0) i) t := fun i v hv => IntsAre.int_at hit i v (by rw [Array.getElem?_toList]; exact hv)
  refine codeAny_set_update_loopS ((walk_list_hot (x1 := x1) _ l (below hlS) (below hxS) items).toS) s.heap.objs.size fresh (fun i => ns.getD i 0) hval hb (items.size - 0) 0 _ (by omega) (Nat.zero_le _)
    ⟨⟨_, Heap.get?_push_size _ rfl, rfl, rfl⟩, hl1.push _, ⟨by simp [hh], ox, vx, Heap.get?_push_of_some _ (Heap.get?_push_of_some _ hx1), hx2, hx3⟩⟩ ?hS0 ?hR
  case hS0 => exact SetOf_congr ((setObjOf_fresh (knd := intKind P w) led).setOf (Heap.get?_push_of_some _ hS) (by unfold scanBound; omega)) (fun _ => rfl) rfl
  case hR =>
    intro s' hm hS'
    obtain ⟨h', g2, d', tk', os'⟩ := s'
    have eg : g2 = s.gens := hm.gens
    have ed : d' = s.drawn := hm.drawn
    have eo : os' = s.os := hm.os
    subst eg ed eo
    refine wpAny_pure (wpAny_pure ⟨rfl, h', tk', rfl, hS', fun b o e => ?_⟩)
    have hb0 : b < s.heap.objs.size := Heap.lt_size e
    exact hm.heap b o (by
      simp only [List.mem_cons, List.not_mem_nil, or_false, not_or]
      exact ⟨Nat.ne_of_lt hb0, below hb0⟩) (Heap.get?_push_of_some _ (Heap.get?_push_of_some _ e))
theorem call_met_hot {l x1 : Addr} {items : Array Value} (ns : List Int) {Q : Value → Shared → Prop} (hot : HotAt A x1 s.heap) (hl : s.heap.IsList l items) (hit : IntsAre items.toList ns) (hb : items.size + 1 < scanBound)
    (h : ∀ s', MetIn P w s.heap s.heap.objs.size ns items.size s s' → Q (.ref s.heap.objs.size) s') : wpAny (model P w) A (call (.type "set") [.ref l]) Q E s := by
  obtain ⟨c, tl, hmro⟩ := F.called_set.mro
  have hmade := F.called_set.made
  have hsub := F.called_set.sub
  have h1 := F.called_set.notType
  have h2 := F.called_set.canCreate
  have hct := F.typeCall_set_1 (.ref l)
  have hli := F.called_set.init.lookup
  have hbi := F.called_set.init.bind (.ref s.heap.objs.size)
  refine wpAny_call (codeAny_of_tree (wpAny_pure ⟨Code.quiet_builtin _ (by decide +kernel), codeAny_builtin F.entry_type_call ?_⟩))
  rw [Around.under_plain (weight_type_call_type "set" [.ref l] []) rfl]
  repeat (any_goals (first | assumption | wp_step))

  refine codeAny_mono (code_set_new_1 (.ref l) (E := E) (Q₁ := fun r s' => ∃ led : Bool, r = .ref s.heap.objs.size ∧ s' = { s with heap := s.heap.push (setB led) }) fun led => ⟨led, rfl, rfl⟩) fun r s₁ hr => ?_
  cases r with
  | error e => exact hr
  | ok fl =>
    cases fl with
    | ret obj =>
      obtain ⟨led, rfl, rfl⟩ := hr
      have hS : (s.heap.push (setB led)).get? s.heap.objs.size = some (setB led) := Heap.get?_push_size _ rfl
      have hT : Shared.TypeIs { s with heap := s.heap.push (setB led) } (.ref s.heap.objs.size) "set" := ⟨_, hS, rfl⟩
      repeat (any_goals (first | assumption | wp_step))

      refine codeAny_mono (init_met_hot (E := E) (x1 := x1) ns (by obtain ⟨hh, r⟩ := hot; exact ⟨by simp [hh], r⟩) hl hit hb) fun r₂ s₂ hr₂ => ?_
      cases r₂ with
      | error e => exact hr₂
      | ok fl₂ =>
        cases fl₂ with
        | ret r =>
          obtain ⟨rfl, h'⟩ := hr₂
          repeat (any_goals (first | assumption | wp_step))
          exact h _ h'
        | _ => exact hr₂.elim
    | _ => exact hr.elim
end
theorem pe_lenSetH {X : Cx} {a : Expr} {ta : TE} {p p2 q pos : Pos} (hg : Gl X "len") (hm : X.mg "len" = none) (hg2 : Gl X "set") (hm2 : X.mg "set" = none) (ha : PE X a ta) (hc : HotC X)
    (na : starEach [a] X.env = (false, eval a X.env) :: starEach [] X.env := by rfl) : PE X (.Call (.Name "len" p) [.Call (.Name "set" p2) [a] [] q] [] pos) (tLenSetA X.K ta) := by
  refine ⟨fun pins s σ H Q I h => Call_ (ld_blt I hg hm boot_len (callWith_builtin1 (args_cons (Call_ (ld_blt I hg2 hm2 boot_set (callWith_type1 (args_cons (thn (ha.run pins s σ H _ I h) fun v s1 ⟨x, H1, I1, r1, q1⟩ => args_nil ?_) na) na rfl))) rfl) rfl rfl))⟩
  obtain ⟨l, ns, rfl, hq, hl, q1⟩ := q1
  cases r1
  obtain ⟨its, r, pl, _⟩ := I1.list hq
  obtain ⟨x1, hot⟩ := hc.at I1
  have z : its.toArray.size = ns.length := by
    have := r.length
    rw [List.length_map] at this
    rw [List.size_toArray]
    omega
  refine call_met_hot ns hot pl.isList (by simpa using RZ.intsAre_vals r) (by unfold scanBound; omega) fun s' hs' => args_nil ?_
  obtain ⟨h', tk, rfl, hS, hk⟩ := hs'
  rw [z, oss_met] at hS
  obtain ⟨o, es, ep, t, ho, hex, hd, _, _, _, hf, hn⟩ := hS
  have I2 : Inv X pins σ H1 { s1 with heap := h', toks := tk } := I1.kept fun b o e => hk b o e
  exact call_len_set ho hex hd hf (by rw [hn]; have := oss_len ns; omega) ⟨.int (ossOf ns).length, H1, I2.tok _, ⟨_, by rw [hn]⟩, q1⟩
/-- a, b = t while an exception is handled -/
theorem pg_tupH {X : Cx} {es : List Expr} {k : Nat} {t : TGs} {n : Nat} {pos : Pos} (hc : HotC X) (h : PGs X es t)
    (hn : (assignEach es X.env).length = n := by rfl) (hst : (assignEach es X.env).findIdx? (·.1) = none := by rfl) : PG X (.Tuple es k pos) (gTup X.K n t) := by
  refine ⟨fun pins s σ H v u Q I r hw => ?_⟩
  obtain ⟨a, xs, e1, hq, hl, hw⟩ := hw
  subst e1
  cases r
  obtain ⟨its, rv, ht, hz⟩ := I.tuple hq
  obtain ⟨x1, hot⟩ := hc.at I
  refine assign_tup_hot hot ht (by simp [hn, ← hl, rv.length]) hst fun h' hx => ?_
  exact h.run pins _ σ H xs _ Q (I.kept (t' := s.toks) fun b o e => hx b o (Nat.ne_of_lt (Heap.lt_size e)) e) (by simpa using rv) hw
end Sl

set_option Elab.async false
set_option linter.all false
set_option maxRecDepth 100000
set_option maxHeartbeats 2000000
/-! ## list comprehensions while an exception is handled -/
namespace Sl
open PySem PySem.Spec PyProof.Rows L2 L2H HotX
/-- an iterator's turns, where an exception is handled -/
structure TurnH (P : Program) (w : World) (K : PySem.W.Frag) (tg : Expr) (J : It) (fp : List Addr) (it : Addr) (tn : Nat → Heap → Prop) : Prop where
  obj : ∀ i h, tn i h → ∀ b ∈ fp, ∃ o, h.get? b = some o ∧ ∀ v, o.data ≠ .cell v
  keep : ∀ i h h', tn i h → (∀ b ∈ fp, ∀ o, h.get? b = some o → h'.get? b = some o) → tn i h'
  item : ∀ (X : Cx), X.prog = P → X.w = w → X.K = K → HotC X → ∀ (i : Nat) (pins : List (Addr × Obj)) (s : Shared) (σ : L2.St) (H : Hp) (E : Value → Shared → Prop), Inv X pins σ H s → (∀ b ∈ fp, FpOk X pins H b) → tn i s.heap → J.go i H →
    wpAny (model P w) X.A (pyNext (.ref it)) (fun r s1 => ∃ u, r = some u ∧
      wpAny (model P w) X.A (letOwnedTupleGo tg (.ref it) u) (fun _ s2 => ∃ x H', Inv X pins σ H' s2 ∧ RelV x u ∧ J.yld i H x H' ∧ tn (i + 1) s2.heap ∧ ∀ b ∈ fp, H' b = none) E s1) E s
  done : ∀ (X : Cx), X.prog = P → X.w = w → X.K = K → HotC X → ∀ (i : Nat) (pins : List (Addr × Obj)) (s : Shared) (σ : L2.St) (H : Hp) (E : Value → Shared → Prop), Inv X pins σ H s → (∀ b ∈ fp, FpOk X pins H b) → tn i s.heap → J.stop i H →
    wpAny (model P w) X.A (pyNext (.ref it)) (fun r s1 => r = none ∧ Inv X pins σ H s1) E s
  self : ∀ (A : Around) (i : Nat) (s : Shared) (Q : Value → Shared → Prop) (E : Value → Shared → Prop), tn i s.heap → Q (.ref it) s → wpAny (model P w) A (pyIter (.ref it)) Q E s
structure PIH (X : Cx) (tg iter : Expr) (wi : TI) : Prop where
  run : ∀ (pins : List (Addr × Obj)) (s : Shared) (σ : L2.St) (H : Hp) (R : It → Hp → Prop), Inv X pins σ H s → wi σ H R →
    wpAny (model X.prog X.w) X.A (eval iter X.env) (fun v s1 => wpAny (model X.prog X.w) X.A (pyIter v) (fun itv s2 =>
      ∃ (it : Addr) (fp : List Addr) (tn : Nat → Heap → Prop) (J : It) (H' : Hp), itv = .ref it ∧ Inv X pins σ H' s2 ∧ TurnH X.prog X.w X.K tg J fp it tn ∧ tn 0 s2.heap ∧ (∀ b ∈ fp, FpOk X pins H' b) ∧ R J H') X.xe s1) X.xe s
theorem HotC.ne {X : Cx} {pins : List (Addr × Obj)} {σ : L2.St} {H : Hp} {s : Shared} (c : HotC X) (I : Inv X pins σ H s) {fp : List Addr} (hf : ∀ b ∈ fp, FpOk X pins H b) : ∃ x1, HotAt X.A x1 s.heap ∧ ∀ b ∈ fp, x1 ≠ b := by
  obtain ⟨p, ⟨hh, v1, e1, c1⟩, hp⟩ := c
  exact ⟨p.1, ⟨hh, p.2, v1, (I.pin p (List.mem_append_left _ hp)).1, e1, c1⟩, fun b hb => (hf b hb).2.2.2.2.2 p (List.mem_append_left _ hp)⟩
theorem turnH_list {P : Program} {w : World} {K : PySem.W.Frag} {tg : Expr} (a it : Addr) : TurnH P w K tg (Itl K a) [it] it (fun i h => h.IsListIter it a i) where
  obj := (turn_list (P := P) (w := w) (K := K) (tg := tg) a it).obj
  keep := (turn_list (P := P) (w := w) (K := K) (tg := tg) a it).keep
  item := by
    intro X hP hw hK hc i pins s σ H E I hf st hg
    subst hP hw hK
    obtain ⟨xs, x, hq, hx⟩ := hg
    obtain ⟨its, rv, p, hz⟩ := I.list hq
    obtain ⟨u, hu, ru⟩ := rv.get hx
    obtain ⟨f0, f1, f2, f3, f4, f5⟩ := hf it (by simp)
    refine wpAny_pyNext_list_item st p.isList (x := u) (by simpa using hu) fun h' st' sb => ?_
    have I1 : Inv X pins σ H { s with heap := h' } := I.turned (t' := s.toks) (fun b o hb e => (sb.2 b hb).trans e) f0 f1 f3 f4 f5
    obtain ⟨o, e, c, d⟩ := id st'
    exact ⟨u, rfl, go_of (s := { s with heap := h' }) e c d (by decide) ⟨x, H, I1, ru, ⟨rfl, fun ys hy => by rw [I.list_inj hy hq]; exact hx⟩, st', fun b hb => (hf b hb).1⟩⟩
  done := by
    intro X hP hw hK hc i pins s σ H E I hf st hg
    subst hP hw hK
    obtain ⟨x1, hot, nx⟩ := HotC.ne hc I hf
    obtain ⟨xs, hq, hx⟩ := hg
    obtain ⟨its, rv, p, hz⟩ := I.list hq
    obtain ⟨f0, f1, f2, f3, f4, f5⟩ := hf it (by simp)
    have hl := rv.length
    exact next_list_end_hot hot (nx it (by simp)) st p.isList (by simp; omega) fun h' eb => ⟨rfl, I.turned (t' := s.toks) (fun b o hb e => eb b o hb e) f0 f1 f3 f4 f5⟩
  self := (turn_list (P := P) (w := w) (K := K) (tg := tg) a it).self
theorem pih_list {X : Cx} {tg l : Expr} {tl : TE} (hl : PE X l tl) : PIH X tg l (iList X.K tl) := by
  refine ⟨fun pins s σ H R I h => ?_⟩
  refine thn (hl.run pins s σ H _ I h) fun v s1 ⟨x, H1, I1, r1, q1⟩ => ?_
  obtain ⟨a, e, ⟨xs, hq⟩, q⟩ := q1
  subst e
  cases r1
  obtain ⟨its, rv, p, hz⟩ := I1.list hq
  refine wpAny_pyIter_list p.isList ?_
  refine ⟨s1.heap.objs.size, [s1.heap.objs.size], _, _, H1, rfl, I1.kept (t' := s1.toks) fun b o e => Heap.get?_push_of_some _ e, turnH_list a _, ⟨_, Heap.get?_push_size _ rfl, rfl, rfl⟩, fun b hb => ?_, q⟩
  have e : b = s1.heap.objs.size := by simpa using hb
  subst e
  exact I1.fpOk (Nat.le_refl _) (I1.hok.fresh (Nat.le_refl _))
theorem turnH_enumT {P : Program} {w : World} {K : PySem.W.Frag} {elts : List Expr} {kk : Nat} {tpos : Pos} (a e it : Addr) :
    TurnH P w K (.Tuple elts kk tpos) (IteT K a) [e, it] e (fun i h => (∃ old, IsEnum h e it ((i : Nat) : Int) old) ∧ h.IsTupleIter it a i ∧ e ≠ it ∧ e ≠ a ∧ a ≠ it) where
  obj := (turn_enumT (P := P) (w := w) (K := K) (elts := elts) (kk := kk) (tpos := tpos) a e it).obj
  keep := (turn_enumT (P := P) (w := w) (K := K) (elts := elts) (kk := kk) (tpos := tpos) a e it).keep
  item := by
    intro X hP hw hK hc i pins s σ H E I hf st hg
    subst hP hw hK
    obtain ⟨x1, hot, nx⟩ := HotC.ne hc I hf
    obtain ⟨⟨old, he⟩, hit, hne, hea, hai⟩ := st
    obtain ⟨xs, x, hq, hx⟩ := hg
    obtain ⟨its, rv, p, hz⟩ := I.tuple hq
    obtain ⟨u, hu, ru⟩ := rv.get hx
    have hel : e < s.heap.objs.size := Heap.lt_size he
    have hil : it < s.heap.objs.size := by obtain ⟨_, q, _⟩ := hit; exact Heap.lt_size q
    have hlt := (List.getElem?_eq_some_iff.mp hu).1
    have DT : Draws X.prog X.w X.A.in1 it [it, a, x1] its.toArray.size (fun i v => its.toArray[i]? = some v) (fun i h => h.IsTupleIter it a i ∧ h.IsTuple a its.toArray ∧ HotAt X.A.in1 x1 h) := draws_tup_hot it a hai (nx it (by simp)) its.toArray
    have hot1 : HotAt X.A.in1 x1 s.heap := hot
    refine wpAny_pyNext_enum_itemD DT he ⟨hit, p, hot1⟩ (by rw [List.size_toArray]; exact hlt) hne (by simp [hne, hea, Ne.symm (nx e (by simp))]) fun y h' tk hy ho hit' hT hsz hk => ?_
    have ey : y = u := by
      have hy' : its[i]? = some y := by simpa using hy
      rw [hu] at hy'
      exact (Option.some.inj hy').symm
    subst ey
    refine ⟨_, rfl, wpAny_letOwnedTupleGo_enum (s := { s with heap := h', toks := tk + 1 }) ho fun h'' he' sb => ?_⟩
    have hT2 : h''.get? s.heap.objs.size = some { cls := .type "tuple", data := .seq #[.int i tk, y] } := (sb.2 _ (Nat.ne_of_gt hel)).trans hT
    have new : ObjOk X.prog X.w (upd H s.heap.objs.size (.tup [.int (i : Nat), x])) h'' s.heap.objs.size (.tup [.int (i : Nat), x]) :=
      ⟨by show 2 ≤ sizeLine; decide, [.int i tk, y], .cons ⟨_, rfl⟩ (.cons ru .nil), ⟨_, hT2, rfl, _, rfl⟩⟩
    have I1 : Inv X pins σ (upd H s.heap.objs.size (.tup [.int (i : Nat), x])) { s with heap := h'', toks := tk + 1 } :=
      I.turnedNew (ch := [e, it]) (fun b ob hb q => (sb.2 b (fun z => hb (by simp [z]))).trans (hk b ob (fun z => hb (by simp [z])) (fun z => hb (by simp [z])) q)) hf (Nat.le_refl _) new
    refine ⟨.ref s.heap.objs.size, _, I1, rfl, ⟨_, x, rfl, I.hok.fresh (Nat.le_refl _), rfl, fun ys hy => by rw [I.tuple_inj hy hq]; exact hx⟩, ⟨⟨y, ?_⟩, hit'.1.at fun o q => (sb.2 it (Ne.symm hne)).trans q, hne, hea, hai⟩, fun b hb => ?_⟩
    · have e1 : ((i + 1 : Nat) : Int) = (i : Int) + 1 := by omega
      rw [e1]; exact he'
    · have hb' : b < s.heap.objs.size := by
        have e' : b = e ∨ b = it := by simpa using hb
        rcases e' with z | z
        · rw [z]; exact hel
        · rw [z]; exact hil
      rw [upd_ne (Nat.ne_of_lt hb')]
      exact (hf b hb).1
  done := by
    intro X hP hw hK hc i pins s σ H E I hf st hg
    subst hP hw hK
    obtain ⟨x1, hot, nx⟩ := HotC.ne hc I hf
    obtain ⟨⟨old, he⟩, hit, hne, hea, hai⟩ := st
    obtain ⟨xs, hq, hx⟩ := hg
    obtain ⟨its, rv, p, hz⟩ := I.tuple hq
    obtain ⟨f0, f1, f2, f3, f4, f5⟩ := hf it (by simp)
    have hl := rv.length
    have DT : Draws X.prog X.w X.A.in1 it [it, a, x1] its.toArray.size (fun i v => its.toArray[i]? = some v) (fun i h => h.IsTupleIter it a i ∧ h.IsTuple a its.toArray ∧ HotAt X.A.in1 x1 h) := draws_tup_hot it a hai (nx it (by simp)) its.toArray
    have hot1 : HotAt X.A.in1 x1 s.heap := hot
    have ei : i = its.toArray.size := by rw [List.size_toArray]; omega
    exact wpAny_pyNext_enum_endD DT he ⟨ei ▸ hit, p, hot1⟩ fun h' eb => ⟨rfl, I.turned (t' := s.toks) (fun b o hb q => eb b o hb q) f0 f1 f3 f4 f5⟩
  self := (turn_enumT (P := P) (w := w) (K := K) (elts := elts) (kk := kk) (tpos := tpos) a e it).self
end Sl

set_option Elab.async false
set_option linter.all false
set_option maxRecDepth 100000
set_option maxHeartbeats 2000000
/-! ## the block of a list comprehension, with what is pinned around it -/
namespace Sl
open PySem PySem.Spec PyProof.Rows L2 L2H HotX
theorem pih_enumT {X : Cx} {e : Expr} {ta : TA} {p pos tpos : Pos} {elts : List Expr} {kk : Nat} (hg : Gl X "enumerate") (hm : X.mg "enumerate" = none) (ha : PA X [e] ta) (hs : starEach [e] X.env = [(false, eval e X.env)] := by rfl) :
    PIH X (.Tuple elts kk tpos) (.Call (.Name "enumerate" p) [e] [] pos) (iEnumT X.K ta) := by
  refine ⟨fun pins s σ H R I h => ?_⟩
  refine Call_ (ld_blt I hg hm boot_enumerate (PyProof.Rows.callWith_type1 (thn (ha.run pos pins s σ H _ I h) fun us s1 ⟨vs, H1, I1, r1, q1⟩ => ?_) hs rfl))
  obtain ⟨a, xs, ex, hq, q⟩ := q1
  subst ex
  cases r1 with
  | cons r rr =>
    cases rr
    cases r
    obtain ⟨its, rv, p', hz⟩ := I1.tuple hq
    have la : a < s1.heap.objs.size := by obtain ⟨o, ho, _⟩ := p'; exact Heap.lt_size ho
    refine call_enumerate_tup p' fun h' he hit hsz hk => wpAny_pyIter_enum he ?_
    have I2 : Inv X pins σ H1 { s1 with heap := h' } := I1.kept (t' := s1.toks) hk
    refine ⟨s1.heap.objs.size + 1, [s1.heap.objs.size + 1, s1.heap.objs.size], _, _, H1, rfl, I2, turnH_enumT a (s1.heap.objs.size + 1) s1.heap.objs.size, ⟨⟨.none, he⟩, hit, Nat.succ_ne_self _, Nat.ne_of_gt (Nat.lt_succ_of_lt la), Nat.ne_of_lt la⟩, fun b hb => ?_, q⟩
    have e' : b = s1.heap.objs.size + 1 ∨ b = s1.heap.objs.size := by simpa using hb
    have hle : s1.heap.objs.size ≤ b := by
      rcases e' with z | z
      · rw [z]; exact Nat.le_add_right _ _
      · rw [z]; exact Nat.le_refl _
    exact I1.fpOk hle (I1.hok.fresh hle)
/-- the block's context, what was pinned around it still pinned -/
abbrev blkP (X : Cx) (s : Shared) (H : Hp) (scope : Scope) (ce : Env) (fp : List Addr) : Cx := { X.blk s H scope ce fp with pn := X.pn }
theorem inv_blkP {X : Cx} {s0 s : Shared} {H0 H : Hp} {scope : Scope} {ce : Env} {fp : List Addr} {σ : L2.St} (I : Inv (X.blk s0 H0 scope ce fp) [] σ H s)
    (h : ∀ p ∈ X.pn, s.heap.get? p.1 = some p.2 ∧ H p.1 = none ∧ p.1 ≠ ce.locals ∧ p.1 ∉ frs X.stack ∧ ∀ v, p.2.data ≠ .cell v) : Inv (blkP X s0 H0 scope ce fp) [] σ H s :=
  ⟨⟨I.ok.mod, I.ok.kind, I.ok.glob, I.ok.blt, I.ok.above, I.ok.inj, I.ok.has, I.ok.cab, I.ok.hd, I.ok.frames, I.ok.stk, I.ok.exf, I.ok.bs, I.ok.bsz, I.ok.noex, I.ok.exfs, I.ok.funs, I.ok.frf⟩, I.os, I.bare, I.base, I.loc, I.cell, I.free, I.freeC,
    fun p hp => h p (by simpa using hp), I.hok, I.len⟩
theorem hot_blkP {X : Cx} {s : Shared} {H : Hp} {scope : Scope} {ce : Env} {fp : List Addr} (hc : HotC X) : HotC (blkP X s H scope ce fp) := hc
section
variable {X : Cx} {scope : Scope} {own : List (Str × Nat)} {fp : List Addr} {s0 : Shared} {H0 : Hp} {ce : Env}
theorem fp_blkP {σ : L2.St} {H : Hp} {s : Shared} (I : Inv (blkP X s0 H0 scope ce fp) [] σ H s) (np : ∀ b ∈ fp, ∀ p ∈ X.pn, p.1 ≠ b) (hn : ∀ b ∈ fp, H b = none) : ∀ b ∈ fp, FpOk (blkP X s0 H0 scope ce fp) [] H b := fun b hb =>
  ⟨hn b hb, (I.ok.exf b hb).1, I.ok.exfs b hb, .inl hb, fun x c e => (I.ok.exf b hb).2 x c e, fun p hp => np b hb p (by simpa using hp)⟩
/-- one turn and the next ones -/
theorem loopH {tg iter elt : Expr} {ifs : List Expr} {pos : Pos} {K : PySem.W.Frag} {J : It} {it D : Addr} {tn : Nat → Heap → Prop} {g : TG} {tt : TT} {te : TE} {σ : L2.St} {W : Nat → Nat → Hp → Prop} {Qd : Hp → Prop} {R : Result → Shared → Prop}
    (hc : HotC X) (T : TurnH X.prog X.w X.K tg J fp it tn) (np : ∀ b ∈ fp, ∀ p ∈ X.pn, p.1 ≠ b)
    (hg : PG (blkP X s0 H0 scope ce fp) tg g) (ht : PTs (blkP X s0 H0 scope ce fp) ifs tt) (he : PE (blkP X s0 H0 scope ce fp) elt te)
    (turn : ∀ i m H, W i m H → (J.stop i H ∧ Qd H) ∨ (J.go i H ∧ ∃ Nx : Hp → Prop, (∀ H', Nx H' → ∃ m', m' < m ∧ W (i + 1) m' H') ∧ ∀ x H', J.yld i H x H' → g x (wipe σ (own.map (·.2))) H' fun σ2 H2 => wipe σ2 (own.map (·.2)) = wipe σ (own.map (·.2)) ∧ tt σ2 H2 fun b H3 =>
      if b = true then te σ2 H3 fun y H4 => ∃ acc, H4 D = some (.lst acc) ∧ acc.length < sizeLine ∧ Nx (upd H4 D (.lst (acc ++ [y]))) else Nx H3))
    (hR : ∀ H s, Inv (blkP X s0 H0 scope ce fp) [] (wipe σ (own.map (·.2))) H s → Qd H → R (.ok .next) s)
    {m0 : Nat} {H4 : Hp} {s4 : Shared} (I4 : Inv (blkP X s0 H0 scope ce fp) [] (wipe σ (own.map (·.2))) H4 s4) (st4 : tn 0 s4.heap) (n4 : ∀ b ∈ fp, H4 b = none) (w4 : W 0 m0 H4) :
    codeAny (model X.prog X.w) X.A (.compLoop (.ListComp elt [⟨tg, iter, ifs, 0⟩] scope pos) 0 (.ref it) (.ref D) ce) R s4 := by
  refine compLoop_any (fun n s' => ∃ i H', Inv (blkP X s0 H0 scope ce fp) [] (wipe σ (own.map (·.2))) H' s' ∧ tn i s'.heap ∧ (∀ b ∈ fp, H' b = none) ∧ W i n H') ?_ m0 ⟨0, H4, I4, st4, n4, w4⟩
  rintro n s5 ⟨i, H5, I5, st5, n5, w5⟩
  rcases turn i n H5 w5 with ⟨stop, qq⟩ | ⟨go, Nx, hNx, step⟩
  · refine thnF (T.done (blkP X s0 H0 scope ce fp) rfl rfl rfl (hot_blkP hc) i [] s5 _ H5 (fun _ _ => False) I5 (fp_blkP I5 np n5) st5 stop) fun r s6 ⟨hr, I6⟩ => ?_
    subst hr
    exact hR H5 s6 I6 qq
  refine thnF (T.item (blkP X s0 H0 scope ce fp) rfl rfl rfl (hot_blkP hc) i [] s5 _ H5 (fun _ _ => False) I5 (fp_blkP I5 np n5) st5 go) fun r s6 ⟨u, hr, h6⟩ => ?_
  subst hr
  refine thnF h6 fun _ s7 ⟨x, H7, I7, r7, y7, st7, n7⟩ => ?_
  have I8 := I7.pinned (fp_blkP I7 np n7) (T.obj _ _ st7)
  refine thnF (hg.run _ s7 _ H7 x u _ I8 r7 (step x H7 y7)) fun _ s8 ⟨σ8, H8, I9, hw8, q8⟩ => ?_
  refine thnF (ht.run _ s8 σ8 H8 _ I9 q8) fun b s9 ⟨H9, I10, q9⟩ => ?_
  have fin : ∀ {s' : Shared} {H' : Hp}, Inv (blkP X s0 H0 scope ce fp) ([] ++ pinsAt fp s7.heap) σ8 H' s' → Nx H' → ∃ m, m < n ∧ ∃ i H', Inv (blkP X s0 H0 scope ce fp) [] (wipe σ (own.map (·.2))) H' s' ∧ tn i s'.heap ∧ (∀ b ∈ fp, H' b = none) ∧ W i m H' := fun {s' H'} I' nx => by
    obtain ⟨m', hm, w'⟩ := hNx H' nx
    have pin' : ∀ b ∈ fp, ∀ o, s7.heap.get? b = some o → s'.heap.get? b = some o ∧ H' b = none := fun b hb o e =>
      let z := I'.pin (b, o) (List.mem_append_right _ (List.mem_append_right _ (mem_pinsAt hb e)))
      ⟨z.1, z.2.1⟩
    refine ⟨m', hm, i + 1, H', (I'.unpinned (pins := [])).weak (by rw [← hw8, wipe_length]) (fun j v e => ?_), T.keep _ _ _ st7 fun b hb o e => (pin' b hb o e).1, fun b hb => ?_, w'⟩
    · rw [← hw8] at e
      exact (wipe_some e).1
    · obtain ⟨o, e, _⟩ := T.obj _ _ st7 b hb
      exact (pin' b hb o e).2
  cases b with
  | false =>
    simp only [Bool.false_eq_true, if_false] at q9 ⊢
    exact fin I10 q9
  | true =>
    simp only [if_true] at q9 ⊢
    refine thnF (he.run _ s9 σ8 H9 _ I10 q9) fun z s10 ⟨yv, H10, I11, r10, acc, hD10, hz10, nx⟩ => ?_
    exact app_ok (X := blkP X s0 H0 scope ce fp) I11 hD10 hz10 r10 fun s11 I12 => fin I12 nx
end
end Sl

set_option Elab.async false
set_option linter.all false
set_option maxRecDepth 100000
set_option maxHeartbeats 2000000
/-! ## [e for x in xs if ..] while an exception is handled, as a value and as a name's value -/
namespace Sl
open PySem PySem.Spec PyProof.Rows L2 L2H HotX
section
variable {X : Cx}
theorem lcH {pins : List (Addr × Obj)} {s : Shared} {σ : L2.St} {H : Hp} {Q : VK} {elt tg iter : Expr} {ifs : List Expr} {scope : Scope} {own : List (Str × Nat)} {pos pos' : Pos} {wi : TI} {g : TG} {tt : TT} {te : TE} {use : Option (Value → Sem Unit)} {Qf : Value → Shared → Prop}
    (hc : HotC X) (hN : X.N.Nodup) (I : Inv X pins σ H s) (hi : PIH X tg iter wi) (ok : BlkOk X.N X.env.scope scope own)
    (hg : ∀ (s : Shared) (H : Hp) (C : Addr) (cl : List (Str × Addr)) (fp : List Addr), PG (blkP X s H scope (compEnvC scope cl C X.env) fp) tg g) (ht : ∀ (s : Shared) (H : Hp) (C : Addr) (cl : List (Str × Addr)) (fp : List Addr), PTs (blkP X s H scope (compEnvC scope cl C X.env) fp) ifs tt)
    (he : ∀ (s : Shared) (H : Hp) (C : Addr) (cl : List (Str × Addr)) (fp : List Addr), PE (blkP X s H scope (compEnvC scope cl C X.env) fp) elt te) (hs : ∀ x, foldedSetIterable iter X.env x = pure x)
    (h : tLc wi g tt te (own.map (·.2)) σ H Q)
    (hRR : ∀ D C s' m H', Inv X pins σ H' s' → Q (.ref D) H' → s'.heap.Ns C m → FpOk X pins H' C → compPost (model X.prog X.w) X.A X.xe use Qf (.ref D) C (.ok .next) s') :
    wpAny (model X.prog X.w) X.A (comprehension (.ListComp elt [⟨tg, iter, ifs, 0⟩] scope pos) scope X.env pos' (newList []) false (eval iter X.env) use) Qf X.xe s := by
  have hfree : ∀ y ∈ scope.names, y.2 = .free → ∃ c, X.env.cells.lookup y.1 = some c := fun y hy e => (ok.free y hy e).elim (fun k => I.ok.has _ (.inl k)) fun k => I.ok.has _ (.inr k)
  refine wpAny_comprehension_free (use := use) rfl hs (closure_ok hfree) ok.kind (fun y hy e => by rw [ok.uniq y hy, e]) (thn (hi.run pins s σ H _ I h) fun xv s1 hx => thn hx fun itv s2 h2 => ?_)
  obtain ⟨it, fp, tn, J, H2, e, I2, T, st2, f2, q⟩ := h2
  subst e
  refine wpAny_newObj_type (newEnv_comp ?_) (by show 0 ≤ sizeLine; decide)
  generalize hD : s2.heap.objs.size = D
  obtain ⟨W, ⟨m0, w0⟩, turn⟩ := q D (I2.hok.fresh (Nat.le_of_eq hD))
  -- the new list
  generalize hs3 : ({ s2 with heap := s2.heap.push { cls := .type "list", data := .seq ([] : List Value).toArray } } : Shared) = s3
  have h3 : s3.heap = s2.heap.push { cls := .type "list", data := .seq ([] : List Value).toArray } := by rw [← hs3]
  have I3 : Inv X pins σ (upd H2 D (.lst [])) s3 := by
    rw [← hs3]
    refine I2.laid (t' := s2.toks) (fun b o e => Heap.get?_push_of_some _ e) (Nat.le_of_eq hD) ⟨Nat.zero_le _, [], 0, .nil, ?_⟩
    rw [← hD]
    exact Heap.get?_push_size _ rfl
  have sz : ∀ b ∈ fp, b < s2.heap.objs.size := fun b hb => by
    obtain ⟨o, e, _⟩ := T.obj _ _ st2 b hb
    exact Heap.lt_size e
  have f3 : ∀ b ∈ fp, FpOk X pins (upd H2 D (.lst [])) b ∧ b < s3.heap.objs.size := fun b hb => by
    have hlt := sz b hb
    refine ⟨⟨?_, (f2 b hb).2⟩, by rw [h3, Heap.size_push]; exact Nat.lt_succ_of_lt hlt⟩
    rw [upd_ne (by rw [← hD]; exact Nat.ne_of_lt hlt)]
    exact (f2 b hb).1
  have st3 : tn 0 s3.heap := T.keep _ _ _ st2 fun b _ o e => by rw [h3]; exact Heap.get?_push_of_some _ e
  have I4 := block_start I3 ok hN f3
  have pg := hg s3 (upd H2 D (.lst [])) s3.heap.objs.size (cellsFrom (s3.heap.objs.size + 1) scope.names (cloFrom X.env.cells scope.names [])) fp
  have pt := ht s3 (upd H2 D (.lst [])) s3.heap.objs.size (cellsFrom (s3.heap.objs.size + 1) scope.names (cloFrom X.env.cells scope.names [])) fp
  have pe := he s3 (upd H2 D (.lst [])) s3.heap.objs.size (cellsFrom (s3.heap.objs.size + 1) scope.names (cloFrom X.env.cells scope.names [])) fp
  show codeAny _ _ (.compStart (.ListComp elt [⟨tg, iter, ifs, 0⟩] scope pos) 0 (.ref it) (.ref D) (compEnvC scope (cellsFrom (s3.heap.objs.size + 1) scope.names (cloFrom X.env.cells scope.names [])) s3.heap.objs.size X.env)) (compPost (model X.prog X.w) X.A X.xe use Qf (.ref D) s3.heap.objs.size) { s3 with heap := pushCells (s3.heap.push { cls := .type "dict", data := .dict #[] }) scope.names }
  generalize hce : compEnvC scope (cellsFrom (s3.heap.objs.size + 1) scope.names (cloFrom X.env.cells scope.names [])) s3.heap.objs.size X.env = ce at I4 pg pt pe ⊢
  have cL : ce.locals = s3.heap.objs.size := by subst hce; rfl
  have nfp : ∀ b ∈ fp, (upd H2 D (.lst [])) b = none := fun b hb => (f3 b hb).1.1
  have np : ∀ b ∈ fp, ∀ p ∈ X.pn, p.1 ≠ b := fun b hb p hp => (f3 b hb).1.2.2.2.2.2 p (List.mem_append_left _ hp)
  have old : ∀ b o, s3.heap.get? b = some o → (pushCells (s3.heap.push { cls := .type "dict", data := .dict #[] }) scope.names).get? b = some o := fun b o e => pushCells_keeps _ _ _ _ (Heap.get?_push_of_some _ e)
  have I5 := inv_blkP I4 fun p hp => by
    obtain ⟨z1, z2, z3, z4, z5⟩ := I3.pin p (List.mem_append_left _ hp)
    refine ⟨old _ _ z1, z2, by rw [cL]; exact Nat.ne_of_lt (Heap.lt_size z1), fun hm => ?_, z5⟩
    exact (List.mem_cons.mp (I3.stkSub p.1 hm)).elim z3 z4
  have st4 : tn 0 (pushCells (s3.heap.push { cls := .type "dict", data := .dict #[] }) scope.names) := T.keep _ _ _ st3 fun b _ o e => old b o e
  have loop := loopH (X := X) (pos := pos) (own := own) (D := D) (R := compPost (model X.prog X.w) X.A X.xe use Qf (.ref D) s3.heap.objs.size) (K := X.K) (iter := iter) hc T np pg pt pe turn (fun H6 s6 I6 qq => by
    have I7 : Inv X pins σ H6 s6 := I3.call' (ch := fp) I6.os I6.base I6.hok I6.bare fun b hb => ⟨(f3 b hb).1.2.2.2.1, (f3 b hb).1.2.1, (f3 b hb).1.2.2.2.2.1, (f3 b hb).1.2.2.2.2.2⟩
    have nC : H6 s3.heap.objs.size = none := by
      have z : H6 ce.locals = none := I6.free
      rw [cL] at z
      exact z
    obtain ⟨m, hn, _⟩ := I6.loc
    have hn : s6.heap.Ns ce.locals m := hn
    rw [cL] at hn
    exact hRR D s3.heap.objs.size s6 m H6 I7 qq hn (I3.fpOk (Nat.le_refl _) nC)) I5 st4 nfp w0
  exact codeAny_compStart_list loop (T.self X.A 0 _ _ _ st4 loop)
theorem pe_lcH {elt tg iter : Expr} {ifs : List Expr} {scope : Scope} {own : List (Str × Nat)} {pos : Pos} {wi : TI} {g : TG} {tt : TT} {te : TE} (hc : HotC X) (hN : X.N.Nodup) (hi : PIH X tg iter wi) (ok : BlkOk X.N X.env.scope scope own)
    (hg : ∀ (s : Shared) (H : Hp) (C : Addr) (cl : List (Str × Addr)) (fp : List Addr), PG (blkP X s H scope (compEnvC scope cl C X.env) fp) tg g) (ht : ∀ (s : Shared) (H : Hp) (C : Addr) (cl : List (Str × Addr)) (fp : List Addr), PTs (blkP X s H scope (compEnvC scope cl C X.env) fp) ifs tt)
    (he : ∀ (s : Shared) (H : Hp) (C : Addr) (cl : List (Str × Addr)) (fp : List Addr), PE (blkP X s H scope (compEnvC scope cl C X.env) fp) elt te) (hs : ∀ x, foldedSetIterable iter X.env x = pure x := by intro _; rfl) :
    PE X (.ListComp elt [⟨tg, iter, ifs, 0⟩] scope pos) (tLc wi g tt te (own.map (·.2))) := by
  refine ⟨fun pins s σ H Q I h => ?_⟩
  rw [eval_ListComp]
  refine lcH hc hN I hi ok hg ht he hs h fun D C s' m H' I' q hn ⟨f0, f1, f2, f3, f4, f5⟩ => ⟨m, hn, fun h'' sb => ?_⟩
  exact ⟨.ref D, H', I'.turned (t' := s'.toks) (fun b o hb e => (sb.2 b hb).trans e) f0 f1 f3 f4 f5, rfl, q⟩
theorem ps_setLcH {i : Nat} {y : Str} {py : Pos} {elt tg iter : Expr} {ifs : List Expr} {scope : Scope} {own : List (Str × Nat)} {pos spos : Pos} {wi : TI} {g : TG} {tt : TT} {te : TE} (hc : HotC X) (hN : X.N.Nodup) (hy : X.N[i]? = some y) (hyl : X.env.scope.names.lookup y = some .local)
    (hsw : swapsWith (.ListComp elt [⟨tg, iter, ifs, 0⟩] scope pos) (some (.Name y py)) spos.line X.env = pure true) (hi : PIH X tg iter wi) (ok : BlkOk X.N X.env.scope scope own)
    (hg : ∀ (s : Shared) (H : Hp) (C : Addr) (cl : List (Str × Addr)) (fp : List Addr), PG (blkP X s H scope (compEnvC scope cl C X.env) fp) tg g) (ht : ∀ (s : Shared) (H : Hp) (C : Addr) (cl : List (Str × Addr)) (fp : List Addr), PTs (blkP X s H scope (compEnvC scope cl C X.env) fp) ifs tt)
    (he : ∀ (s : Shared) (H : Hp) (C : Addr) (cl : List (Str × Addr)) (fp : List Addr), PE (blkP X s H scope (compEnvC scope cl C X.env) fp) elt te) (hs : ∀ x, foldedSetIterable iter X.env x = pure x := by intro _; rfl) :
    PS X (.Assign [.Name y py] (.ListComp elt [⟨tg, iter, ifs, 0⟩] scope pos) spos) (tAsg (tLc wi g tt te (own.map (·.2))) (gName i)) := by
  refine ⟨fun pins s σ H D I h => ?_⟩
  rw [exec_Assign_Name_used _ _ _ _ hsw]
  refine wpAny_bind (wpAny_standAt (wpAny_bind ?_))
  show wpAny _ X.A (do let _ ← comprehension (.ListComp elt [⟨tg, iter, ifs, 0⟩] scope pos) scope X.env (firstIterPos [⟨tg, iter, ifs, 0⟩] pos) (newList []) false (eval iter X.env) (some (assign (.Name y py) X.env))) _ _ s
  have h : tLc wi g tt te (own.map (·.2)) σ H (fun x H1 => gName i x σ H1 D.nx) := h
  refine wpAny_bind (thn (lcH (Qf := fun _ s' => SP X pins D .next s') hc hN I hi ok hg ht he hs h fun L C s' m H' I' q hn ⟨f0, f1, f2, f3, f4, f5⟩ => ?_) fun _ s' hq => wpAny_pure (wpAny_pure hq))
  show wpAny _ _ (assign (.Name y py) X.env (.ref L)) _ _ _
  refine wpAny_assign_Name (store_ok2 (v := V.ref L) I' hN hy (.inl hyl) rfl (fun s2 I2 ⟨a, sb, ha⟩ => ?_) (.inr hyl))
  have haC : C ≠ a := by
    rcases ha with z | z
    · rw [z]; exact f1
    · exact fun e => f4 y a z e.symm
  refine ⟨m, hn.sameBut sb haC, fun h3 sb3 => ?_⟩
  exact ⟨_, H', I2.turned (t' := s2.toks) (fun b o hb e => (sb3.2 b hb).trans e) f0 f1 f3 f4 f5, q⟩
/-- x, y, z = a, b, c -/
theorem ps_par3H {i j l : Nat} {x y z : Str} {a b c : Expr} {ta : TA} {px py pz pt pos : Pos} {kt k2 pt2} (hc : HotC X) (hN : X.N.Nodup) (hi : X.N[i]? = some x) (hj : X.N[j]? = some y) (hl : X.N[l]? = some z) (hij : i ≠ j) (hil : i ≠ l) (hjl : j ≠ l)
    (hx : X.env.scope.names.lookup x = some .local) (hy : X.env.scope.names.lookup y = some .local) (hz : X.env.scope.names.lookup z = some .local) (ha : PA X [a, b, c] ta)
    (hw : swappedStores [.Tuple [.Name x px, .Name y py, .Name z pz] kt pt] (.Tuple [a, b, c] k2 pt2) X.env = pure (some [x, y, z]))
    (hs : swapsWithSole [.Tuple [.Name x px, .Name y py, .Name z pz] kt pt] (.Tuple [a, b, c] k2 pt2) pos.line X.env = pure false := by rfl) :
    PS X (.Assign [.Tuple [.Name x px, .Name y py, .Name z pz] kt pt] (.Tuple [a, b, c] k2 pt2) pos) (tPar3 i j l ta) := by
  refine ⟨fun pins s σ H D I h => ?_⟩
  rw [exec_Assign_arm]
  refine wpAny_bind (wpAny_standAt ?_)
  rw [hs]
  refine wpAny_bind (wpAny_pure ?_)
  rw [if_neg (by decide)]
  refine wpAny_bind (Tuple_ (thn (ha.run _ pins s σ H _ I h) fun us s1 ⟨vs, H1, I1, r1, q1⟩ => ?_))
  obtain ⟨v1, v2, v3, rfl, q1⟩ := q1
  obtain ⟨u1, u2, u3, rfl, r1', r2', r3'⟩ : ∃ u1 u2 u3, us = [u1, u2, u3] ∧ RelV v1 u1 ∧ RelV v2 u2 ∧ RelV v3 u3 := by
    cases r1 with
    | cons p q =>
      cases q with
      | cons p' q' =>
        cases q' with
        | cons p'' q'' =>
          cases q''
          exact ⟨_, _, _, rfl, p, p', p''⟩
  refine wpAny_newObj_type ?_ (by show 3 ≤ sizeLine; decide)
  have I2 : Inv X pins σ H1 { s1 with heap := s1.heap.push { cls := .type "tuple", data := .seq [u1, u2, u3].toArray } } := I1.kept (t' := s1.toks) fun b o e => Heap.get?_push_of_some _ e
  obtain ⟨x1, hot⟩ := hc.at I2
  rw [hw]
  refine wpAny_bind (wpAny_pure ?_)
  show wpAny (model X.prog X.w) X.A (do rule "assign.swapped-stores"; let items ← unpackItems (.ref s1.heap.objs.size) 3 none; assignInOrder [fun v => bindName X.env z v, fun v => bindName X.env y v, fun v => bindName X.env x v] items.reverse; pure Flow.next) _ _ _
  refine wpAny_bind (wpAny_rule (wpAny_bind (items_tup_hot (items := #[u1, u2, u3]) hot (IsTup.new s1.heap _) fun h' hx' => ?_)))
  have I3 := I2.kept (h' := h') (t' := s1.toks) fun b o e => hx' b o (Nat.ne_of_lt (Heap.lt_size e)) e
  show wpAny _ _ (assignInOrder [fun v => bindName X.env z v, fun v => bindName X.env y v, fun v => bindName X.env x v] [u3, u2, u1] >>= fun _ => pure Flow.next) _ _ _
  refine wpAny_bind (assignInOrder_cons (wpAny_bindName (store_ok I3 hN hl (.inl hz) r3' (fun s2 I4 => ?_) (.inr hz))))
  refine assignInOrder_cons (wpAny_bindName (store_ok I4 hN hj (.inl hy) r2' (fun s3 I5 => ?_) (.inr hy)))
  refine assignInOrder_cons (wpAny_bindName (store_ok I5 hN hi (.inl hx) r1' (fun s4 I6 => assignInOrder_nil (wpAny_pure ?_)) (.inr hx)))
  rw [List.set_comm _ _ (Ne.symm hjl), List.set_comm _ _ (Ne.symm hil), List.set_comm _ _ (Ne.symm hij)] at I6
  exact ⟨_, H1, I6, q1⟩
end
end Sl

set_option Elab.async false
set_option linter.all false
set_option maxRecDepth 100000
set_option maxHeartbeats 400000
/-! ## defs that are called while an exception is handled -/
namespace Sl
open PySem PySem.Spec PyProof.Rows L2 L2H HotX
section
variable {P : Program} {w : World} {K : PySem.W.Frag} {mg : Str → Option Value} {base : Heap}
theorem okH {x qual : Str} {st : Stmt} {f : Addr} {fd : FuncData} {N ps : List Str} {k : Nat} {sp : Sp} (F : Fun K x qual st f fd) (S : FnScope N ps (defScope st)) (len : ∀ vs H Q E, sp vs H Q E → vs.length = ps.length)
    (hbody : ∀ (cdv : Value) (A : Around) (outer : List Env) (s : Shared) (H : Hp) (vs : List V) (Q : VK) (E : XK) (p : Addr × Obj), HotC (cxH CX0 P w K mg base N qual (defScope st) f cdv A outer s H E p).nox → RoomH k (A.deeper (envOfC qual (defScope st) s.heap.objs.size f cdv)) → sp vs H Q E →
      ∃ t, PSs (cxH CX0 P w K mg base N qual (defScope st) f cdv A outer s H E p).nox (defBody st) t ∧ t { nx := fun _ H' => Q .non H', rt := Q } (start N vs) H) : FnH P w K mg base CX0 (k + 1) f fd ps sp := by
  obtain ⟨oc, od, kV, doc, pm, an, cdv, ct, osl, rfl, lk, hcd⟩ := F.ex
  refine fn_ofH lk hcd S len fun A outer s H vs Q E p hot hr hsp => ?_
  obtain ⟨t, h, q⟩ := hbody cdv A outer s H vs Q E p ⟨p, ⟨hot.1, hot.2⟩, List.mem_singleton.mpr rfl⟩ hr hsp
  exact ⟨t, h.nox, q⟩
theorem _root_.L2H.RoomH.units {k : Nat} {A : Around} (r : RoomH k A) : A.units + 64 < cLine := by
  have := r.un
  omega
theorem passAt0 {X : Cx} {σ : L2.St} {E : XK} : PassesAt CX0 X σ E := fun _ _ _ _ _ _ z => z.elim
/-- a def as its caller there knows it -/
structure Uh (P : Program) (w : World) (K : PySem.W.Frag) (mg : Str → Option Value) (base : Heap) (x : Str) (ps : List Str) (n : Nat) (sp : Sp) where
  f : Addr
  fd : FuncData
  g : mg x = some (.ref f)
  kp : PySem.W.keepIn K (.ref f) = true
  b : Binds K fd ps []
  H : FnH P w K mg base CX0 n f fd ps sp
end
end Sl

set_option Elab.async false
set_option linter.all false
set_option maxRecDepth 100000
set_option maxHeartbeats 400000
/-! ## _law_below, _law_is_owned, _law_is_graph, called while an exception is handled -/
namespace Sl
open PySem PySem.Spec PyProof.Rows L2 L2H HotX
section
variable {P : Program} {w : World} {K : PySem.W.Frag} {mg : Str → Option Value} {base : Heap}
theorem ok_lBelowH {f : Addr} {fd : FuncData} (F : Fun K "_law_below" "_law_below" sLBelow f fd) (B : Bt mg) : FnH P w K mg base CX0 1 f fd ["_law_node"] (spLBelow K) := by
  refine okH F scLBelow (fun vs H Q E h => ?_) (fun cdv A outer s H vs Q E p0 hc hr h => ?_)
  · obtain ⟨v, g, rfl, _⟩ := h
    rfl
  · obtain ⟨v, g, rfl, hv, q⟩ := h
    have sl := sizeLine_eq
    --D
    refine ⟨_, (pss_cons (ps_if (pt_cmpR op_eq (pe_ix ix_tup (pv 0) pe_int (fun _ _ => rfl)) pe_str (nomark _))
          (pss_one (ps_ret (pe_callTy call_list_of (by rfl) B.list (by decide +kernel) (pa_cons (pe_ix ix_tup (pv 0) pe_int (fun _ _ => rfl)) pa_nil)))) pss_nil)
        (pss_one (ps_ret (pe_ifExp (pt_cmpR op_eq (pe_ix ix_tup (pv 0) pe_int (fun _ _ => rfl)) pe_str (nomark _)) (pe_lst (pa_cons (pe_ix ix_tup (pv 0) pe_int (fun _ _ => rfl)) pa_nil)) (pe_lst pa_nil))))), ?_⟩
    --E
    cases g with
    | W x cs =>
      obtain ⟨a0, xs, rfl, hs, hx, _⟩ := hv.tupd'
      obtain ⟨x1, x2, x3, rfl, r1, r2, r3⟩ := hx.trip
      cases r1
      obtain ⟨c0, ys, rfl, hc, hy, _⟩ := r3.tupd'
      refine ⟨_, rfl, a0, _, (0 : Int), _, rfl, rfl, hs, atI_nat (j := 0) rfl, rfl, _, rfl, ?_⟩
      rw [str_dec, decide_eq_true rfl]
      refine iteT ⟨_, rfl, a0, _, (2 : Int), _, rfl, rfl, hs, atI_nat (j := 2) rfl, c0, ys, rfl, .inr hc, fun l nl => ?_⟩
      exact q l _ (Same.new nl) nl (by rw [iD_ints hy]; exact upd_same)
    | F c =>
      obtain ⟨a0, xs, rfl, hs, hx, _⟩ := hv.tupd'
      obtain ⟨x1, x2, rfl, r1, r2⟩ := hx.pair
      cases r1
      cases r2
      refine ⟨_, rfl, a0, _, (0 : Int), _, rfl, rfl, hs, atI_nat (j := 0) rfl, rfl, _, rfl, ?_⟩
      rw [str_dec, decide_eq_false (by decide +kernel)]
      refine iteF ⟨_, rfl, a0, _, (0 : Int), _, rfl, rfl, hs, atI_nat (j := 0) rfl, rfl, _, rfl, ?_⟩
      rw [str_dec, decide_eq_true rfl]
      refine iteT ⟨_, rfl, a0, _, (1 : Int), _, rfl, rfl, hs, atI_nat (j := 1) rfl, (by show 1 ≤ sizeLine; omega), fun l nl => ?_⟩
      exact q l _ (Same.new nl) nl upd_same
    | V f =>
      obtain ⟨a0, xs, rfl, hs, hx, _⟩ := hv.tupd'
      obtain ⟨x1, x2, rfl, r1, r2⟩ := hx.pair
      cases r1
      refine ⟨_, rfl, a0, _, (0 : Int), _, rfl, rfl, hs, atI_nat (j := 0) rfl, rfl, _, rfl, ?_⟩
      rw [str_dec, decide_eq_false (by decide +kernel)]
      refine iteF ⟨_, rfl, a0, _, (0 : Int), _, rfl, rfl, hs, atI_nat (j := 0) rfl, rfl, _, rfl, ?_⟩
      rw [str_dec, decide_eq_false (by decide +kernel)]
      refine iteF ⟨(by show 0 ≤ sizeLine; omega), fun l nl => ?_⟩
      exact q l _ (Same.new nl) nl upd_same
open Classical in
theorem ok_lOwnedH (B : Bt mg) (ULb : Uh P w K mg base "_law_below" ["_law_node"] 1 (spLBelow K)) {f : Addr} {fd : FuncData} (F : Fun K "_law_is_owned" "_law_is_owned" sLOwned f fd) : FnH P w K mg base CX0 2 f fd ["_law_nodes", "_law_at"] (spLOwned K) := by
  refine okH F scLOwned (fun vs H Q E h => ?_) (fun cdv A outer s H vs Q E p0 hc hr h => ?_)
  · obtain ⟨u, i, f, ns, rfl, _⟩ := h
    rfl
  · obtain ⟨u, i, f0, ns, rfl, hu, rng, pos, hn, hi, nif, q⟩ := h
    have sl := sizeLine_eq
    have h1 := hr.mono (by decide : 1 ≤ 1)
    refine ⟨_, (pss_cons (ps_par3H (hc := hc) (i := 2) (j := 3) (l := 4) scLOwned.nd rfl rfl rfl (by decide) (by decide) (by decide) rfl rfl rfl (pa_cons (pe_ix ix_tup (pe_ix ix_tup (pv 0) (pv 1) (fun _ _ => rfl)) pe_int (fun _ _ => rfl)) (pa_cons (pe_lst pa_nil) (pa_cons (pe_lst (pa_cons pe_int pa_nil)) pa_nil))) (by rfl))
        (pss_cons (ps_while PassesOwn.never (pt_cmpR (op_neD hr.units) (pv 4) (pe_lst pa_nil) (nomark _))
        (pss_cons (ps_set (i := 5) scLOwned.nd rfl (Or.inl rfl) (pe_bm0 PySem.F.plainAttrs_list PySem.F.slot_list_pop PySem.F.type_list_pop mt_pop (pv 4)))
        (pss_cons (ps_if (pt_cmpR op_eq (pv 5) (pv 1) (nomark _))
          (pss_one (ps_ret pe_bl)) pss_nil)
        (pss_one (ps_if (PW.pt (pw_and (pt_cmpR op_notIn_seq (pv 5) (pv 3) (by rfl)) (pw_and1 (pt_cmpR op_ne (pv 5) (pv 2) (nomark _)))))
          (pss_cons (ps_expr (pe_bm PySem.F.plainAttrs_list PySem.F.slot_list_append PySem.F.type_list_append mt_append (pv 3) (pa_cons (pv 5) pa_nil)))
        (pss_one (ps_expr (pe_bm PySem.F.plainAttrs_list PySem.F.slot_list_extend PySem.F.type_list_extend mt_extend (pv 4) (pa_cons (pe_callH (E := fun _ => E0) ULb.H h1 hc (by rfl) ULb.g ULb.kp ULb.b (fun _ => passAt0) (pa_cons (pe_ix ix_tup (pv 0) (pv 5) (fun _ _ => rfl)) pa_nil)) pa_nil))))) pss_nil)))))
        (pss_one (ps_ret pe_bl)))), ?_⟩
    obtain ⟨a, xs, rfl, ha, hx, _⟩ := hu.tupd'
    have node : ∀ {G : Hp} {k : Nat} {g : GN}, Same H G → ns[k]? = some g → ∃ v, atI xs ((k : Nat) : Int) = some v ∧ Rdd K G v (ndD g) := fun {G k g} s hk => by
      obtain ⟨v, hv, rv⟩ := hx.atI (i := ((k : Nat) : Int)) (d := ndD g) (atI_nat (by rw [List.getElem?_map, hk]; rfl))
      exact ⟨v, hv, Rdd.ex (.same s) _ rv⟩
    obtain ⟨nv, hnv, rnv⟩ := node (Same.refl H) hi
    obtain ⟨c0, wsv, rfl, hc0, hwsv, _⟩ := rnv.tupd'
    obtain ⟨w1, w2, rfl, q1, q2⟩ := hwsv.pair
    cases q1
    cases q2
    refine ⟨_, rfl, _, rfl, a, xs, _, _, rfl, rfl, ha, hnv, c0, _, (1 : Int), _, rfl, rfl, hc0, atI_nat (j := 1) rfl, (by show 0 ≤ sizeLine; omega), fun k0 nk0 => ?_⟩
    have s1 := Same.new (o := .lst []) nk0
    have hk1 : (upd H k0 (.lst [])) k0 = some (.lst (iL [])) := upd_same
    generalize upd H k0 (.lst []) = H1 at s1 hk1 ⊢
    refine ⟨(by show 1 ≤ sizeLine; omega), fun w0 nw => ⟨_, _, _, rfl, ?_⟩⟩
    have s2 := Same.new (o := .lst [V.int 0]) nw
    have hw2 : (upd H1 w0 (.lst [V.int 0])) w0 = some (.lst (iL [0])) := upd_same
    have hk2 := s2 _ _ hk1
    have kw : k0 ≠ w0 := ne_of_none hk1 nw
    have nw0 := none_of s1 nw
    have s02 := s1.trans s2
    generalize upd H1 w0 (.lst [V.int 0]) = H2 at s02 hw2 hk2 ⊢
    refine ⟨fun μ σ G => ∃ (g5 : Option V) (kn ws : List Nat), μ = 4 * (ns.length - kn.length) + ws.length ∧ σ = [some (.ref a), some (.int (i : Nat)), some (.int (f0 : Nat)), some (.ref k0), some (.ref w0), g5] ∧ Same H G ∧ G k0 = some (.lst (iL kn)) ∧ G w0 = some (.lst (iL ws)) ∧ ws.length ≤ 3 * kn.length + 1 ∧ Srch ns f0 i kn ws,
      ⟨_, none, [], [0], rfl, rfl, s02, hk2, hw2, Nat.le_refl 1, srch_start pos⟩, ?_⟩
    rintro μ σ G ⟨g5, kn, ws, rfl, rfl, sG, hk, hw, l3, sr⟩
    have lm := nd_len' sr.nd sr.lt
    refine ⟨_, rfl, (by show 0 ≤ sizeLine; omega), fun e0 ne0 => ?_⟩
    have se := Same.new (o := .lst []) ne0
    have he0 : (upd G e0 (.lst [])) e0 = some (.lst []) := upd_same
    generalize upd G e0 (.lst []) = G1 at se he0 ⊢
    have sG1 := sG.trans se
    have hk1 := se _ _ hk
    have hw1 := se _ _ hw
    refine eqI_nil hw1 he0 ⟨_, rfl, ?_⟩
    rcases List.eq_nil_or_concat ws with rfl | ⟨ws, x, rfl⟩
    · refine iteF ?_
      have := q G1 sG1
      rw [decide_eq_true (sr.done nif)] at this
      exact this
    rw [List.concat_eq_append] at *
    have es : iL (ws ++ [x]) = iL ws ++ [V.int (x : Nat)] := by
      unfold iL
      rw [List.map_append]
      rfl
    have hx' := sr.lw x (List.mem_append_right _ (List.mem_singleton.mpr rfl))
    rw [show (!(ws ++ [x]).isEmpty) = true by simp]
    rw [es] at hw1
    rw [List.length_append, List.length_singleton] at l3 ⊢
    refine iteT ⟨fun σ2 G2 => ∃ (kn2 ws2 : List Nat), 4 * (ns.length - kn2.length) + ws2.length < 4 * (ns.length - kn.length) + (ws.length + 1) ∧ ∃ (g5 : Option V), σ2 = [some (.ref a), some (.int (i : Nat)), some (.int (f0 : Nat)), some (.ref k0), some (.ref w0), g5] ∧ Same H G2 ∧ G2 k0 = some (.lst (iL kn2)) ∧ G2 w0 = some (.lst (iL ws2)) ∧ ws2.length ≤ 3 * kn2.length + 1 ∧ Srch ns f0 i kn2 ws2, ?_, ?_⟩
    · rintro σ2 G2 ⟨kn2, ws2, l2, g5, rest⟩
      exact ⟨_, l2, g5, kn2, ws2, rfl, rest⟩
    refine ⟨_, rfl, .inl ⟨rfl, _, SqL.of hw1⟩, w0, _, .int (x : Nat), rfl, rfl, hw1, by simp, ?_⟩
    rw [List.dropLast_concat]
    have sG2 : Same H (upd G1 w0 (.lst (iL ws))) := jr_same.put sG1 nw0
    have hk2 : (upd G1 w0 (.lst (iL ws))) k0 = some (.lst (iL kn)) := by rw [upd_ne kw]; exact hk1
    have hw2 : (upd G1 w0 (.lst (iL ws))) w0 = some (.lst (iL ws)) := upd_same
    generalize upd G1 w0 (.lst (iL ws)) = G2 at sG2 hk2 hw2 ⊢
    refine ⟨_, rfl, _, rfl, rfl, _, rfl, ?_⟩
    rw [natV_dec]
    by_cases hxi : x = i
    · subst hxi
      rw [decide_eq_true rfl]
      refine iteT ?_
      have := q G2 sG2
      rw [decide_eq_false (fun z => z (sr.snd x (List.mem_append_right _ (List.mem_singleton.mpr rfl)) .var))] at this
      exact this
    rw [decide_eq_false hxi]
    refine iteF ⟨_, rfl, _, rfl, k0, iL kn, rfl, .inl (SqL.of hk2), rfl, flat_iL' kn, ?_⟩
    rw [if_pos rfl, inV_iL]
    by_cases hm : x ∈ kn
    · rw [decide_eq_true hm]
      exact ⟨_, rfl, iteF (iteF ⟨kn, ws, by omega, _, rfl, sG2, hk2, hw2, by omega, sr.skip (.inl hm)⟩)⟩
    rw [decide_eq_false hm]
    refine ⟨_, rfl, iteT ⟨_, rfl, _, rfl, rfl, _, rfl, ?_⟩⟩
    rw [natV_dec]
    by_cases hxf : x = f0
    · rw [decide_eq_true hxf]
      exact iteF ⟨kn, ws, by omega, _, rfl, sG2, hk2, hw2, by omega, sr.skip (.inr hxf)⟩
    rw [decide_eq_false hxf]
    have go := sr.go rng hm hxf hxi
    have lim : (iL kn).length = kn.length := List.length_map ..
    have lm2 := nd_len' go.nd go.lt
    rw [List.length_append, List.length_singleton] at lm2
    refine iteT ⟨_, rfl, .inl ⟨rfl, _, SqL.of hk2⟩, .int (x : Nat), rfl, k0, iL kn, _, rfl, rfl, hk2, by omega, ?_⟩
    have sG3 : Same H (upd G2 k0 (.lst (iL kn ++ [V.int (x : Nat)]))) := jr_same.put sG2 nk0
    have hk3 : (upd G2 k0 (.lst (iL kn ++ [V.int (x : Nat)]))) k0 = some (.lst (iL (kn ++ [x]))) := by
      rw [upd_same]
      unfold iL
      rw [List.map_append]
      rfl
    have hw3 : (upd G2 k0 (.lst (iL kn ++ [V.int (x : Nat)]))) w0 = some (.lst (iL ws)) := by rw [upd_ne (Ne.symm kw)]; exact hw2
    generalize upd G2 k0 (.lst (iL kn ++ [V.int (x : Nat)])) = G3 at sG3 hk3 hw3 ⊢
    have hat := nAt_get hx'
    have kdx : kd ns x = gk (nAt ns x) := kd_at hat
    have gr := gk_rng (rng _ (List.mem_of_getElem? hat))
    obtain ⟨y, hy, ry⟩ := node sG3 hat
    refine ⟨_, rfl, .inl ⟨rfl, _, SqL.of hw3⟩, _, rfl, _, rfl, a, xs, _, _, rfl, rfl, (Ex.same sG3).tup ha, hy, y, nAt ns x, rfl, ry, fun p G4 s4 np hp => ?_⟩
    refine ⟨w0, p, _, _, rfl, rfl, s4 _ _ hw3, hp, ?_, ?_⟩
    · have e1 : (iL ws).length = ws.length := List.length_map ..
      have e2 : (iL (gk (nAt ns x))).length = (gk (nAt ns x)).length := List.length_map ..
      have g1 := gr.1
      omega
    rw [kdx] at go
    refine ⟨kn ++ [x], ws ++ gk (nAt ns x), ?_, _, rfl, jr_same.put (sG3.trans s4) nw0, by rw [upd_ne kw]; exact s4 _ _ hk3, ?_, ?_, go⟩
    · simp only [List.length_append, List.length_singleton]
      have g1 := gr.1
      omega
    · rw [upd_same]
      unfold iL
      rw [List.map_append]
    · simp only [List.length_append, List.length_singleton]
      have g1 := gr.1
      omega
open Classical in
theorem ok_lIsGH (B : Bt mg) (UIo : Uh P w K mg base "_law_is_owned" ["_law_nodes", "_law_at"] 2 (spLOwned K)) {f : Addr} {fd : FuncData} (F : Fun K "_law_is_graph" "_law_is_graph" sLIsG f fd) : FnH P w K mg base CX0 3 f fd ["_law_nodes"] (spLIsG K) := by
  refine okH F scLIsG (fun vs H Q E h => ?_) (fun cdv A outer s H vs Q E p0 hc hr h => ?_)
  · obtain ⟨u, ns, rfl, _⟩ := h
    rfl
  · obtain ⟨u, ns, rfl, hu, rng, pos, hn, q⟩ := h
    have sl := sizeLine_eq
    refine ⟨_, (pss_cons (ps_setLcH (i := 1) (own := [("_law_at", 3), ("_law_node", 4)]) (g := gTup K 2 (gCons (gName 3) (gCons (gName 4) gNil))) (tt := tTest (tOp rEq (tOp (rIxT K) (tVar 4) (tC (.int 0))) (tC (.str "var")))) (te := tVar 3) hc scLIsG.nd rfl rfl (sw_true rfl rfl rfl (by decide +kernel)) (pih_enumT (by rfl) B.enum (pa_cons (pv 0) pa_nil)) (blkOk_by (own := [("_law_at", 3), ("_law_node", 4)]) (N := ["_law_nodes", "_law_spots", "_law_owners", "_law_at", "_law_node", "_law_one"]) (sc := defScope sLIsG) (by decide +kernel)) (fun _ _ _ _ _ => (pg_tupH (hot_blkP hc) (pgs_cons (pg_name (i := 3) scLIsG.nd rfl (Or.inl rfl)) (pgs_cons (pg_name (i := 4) scLIsG.nd rfl (Or.inl rfl)) pgs_nil)))) (fun _ _ _ _ _ => pts_one (by exact (pt_cmpR op_eq (pe_ix ix_tup (pv 4) pe_int (fun _ _ => rfl)) pe_str (nomark _)))) (fun _ _ _ _ _ => by exact (pv 3)))
        (pss_cons (ps_setLcH (i := 2) (own := [("_law_at", 3)]) (g := gName 3) (tt := tYes) (te := tOp (rIxT K) (tOp (rIxT K) (tVar 0) (tVar 3)) (tC (.int 1))) hc scLIsG.nd rfl rfl (sw_true rfl rfl rfl (by decide +kernel)) (pih_list (pv 1)) (blkOk_by (own := [("_law_at", 3)]) (N := ["_law_nodes", "_law_spots", "_law_owners", "_law_at", "_law_node", "_law_one"]) (sc := defScope sLIsG) (by decide +kernel)) (fun _ _ _ _ _ => pg_name (i := 3) scLIsG.nd rfl (Or.inl rfl)) (fun _ _ _ _ _ => pts_nil) (fun _ _ _ _ _ => by exact (pe_ix ix_tup (pe_ix ix_tup (pv 0) (pv 3) (fun _ _ => rfl)) pe_int (fun _ _ => rfl))))
        (pss_cons (ps_if (PW.pt (pw_or (pt_cmpR op_eq (pe_ix ix_tup (pe_ix ix_tup (pv 0) pe_int (fun _ _ => rfl)) pe_int (fun _ _ => rfl)) pe_str (nomark _)) (pw_or1 (pt_cmpR op_ne (pe_lenSetH (by rfl) B.len (by rfl) B.set (pv 2) hc) (pe_callB call_len_seq (by rfl) B.len PySem.boot_len (pa_cons (pv 2) pa_nil)) (nomark _)))))
          (pss_one (ps_ret pe_bl)) pss_nil)
        (pss_cons (ps_if (pt_cmpR (op_neD hr.units) (pe_lcH (own := [("_law_one", 5)]) (g := gName 5) (tt := tTest (tOp rNe (tOp (rIxT K) (tOp (rIxT K) (tVar 0) (tVar 5)) (tC (.int 0))) (tC (.str "fun")))) (te := tVar 5) hc scLIsG.nd (pih_list (pv 2)) (blkOk_by (own := [("_law_one", 5)]) (N := ["_law_nodes", "_law_spots", "_law_owners", "_law_at", "_law_node", "_law_one"]) (sc := defScope sLIsG) (by decide +kernel)) (fun _ _ _ _ _ => pg_name (i := 5) scLIsG.nd rfl (Or.inl rfl)) (fun _ _ _ _ _ => pts_one (by exact (pt_cmpR op_ne (pe_ix ix_tup (pe_ix ix_tup (pv 0) (pv 5) (fun _ _ => rfl)) pe_int (fun _ _ => rfl)) pe_str (nomark _)))) (fun _ _ _ _ _ => by exact (pv 5))) (pe_lst pa_nil) (nomark _))
          (pss_one (ps_ret pe_bl)) pss_nil)
        (pss_one (ps_ret (pe_cmpR (op_eqD hr.units) (pe_lcH (own := [("_law_at", 3)]) (g := gName 3) (tt := tNot (tB (tCallS (spLOwned K) (fun _ => E0) (tCons (tVar 0) (tCons (tVar 3) tNil))))) (te := tVar 3) hc scLIsG.nd (pih_list (pv 1)) (blkOk_by (own := [("_law_at", 3)]) (N := ["_law_nodes", "_law_spots", "_law_owners", "_law_at", "_law_node", "_law_one"]) (sc := defScope sLIsG) (by decide +kernel)) (fun _ _ _ _ _ => pg_name (i := 3) scLIsG.nd rfl (Or.inl rfl)) (fun _ _ _ _ _ => pts_one (by exact (pt_not (pt_val (pe_callH (E := fun _ => E0) UIo.H hr (hot_blkP hc) (by rfl) UIo.g UIo.kp UIo.b (fun _ => passAt0) (pa_cons (pv 0) (pa_cons (pv 3) pa_nil))))))) (fun _ _ _ _ _ => by exact (pv 3))) (pe_lst pa_nil) (nomark _)))))))), ?_⟩
    obtain ⟨b0, us, rfl, hsu, hxu, _⟩ := id hu.tupd'
    have lu : us.length = ns.length := by rw [hxu.length, List.length_map]
    have node : ∀ {G : Hp} {k : Nat} {g : GN}, Same H G → ns[k]? = some g → ∃ v, atI us ((k : Nat) : Int) = some v ∧ Rdd K G v (ndD g) := fun {G k g} s hk => by
      obtain ⟨v, hv, rv⟩ := hxu.atI (i := ((k : Nat) : Int)) (d := ndD g) (atI_nat (by rw [List.getElem?_map, hk]; rfl))
      exact ⟨v, hv, Rdd.ex (.same s) _ rv⟩
    have kind : ∀ {G : Hp} {v : V} {g : GN} (z : Str), Rdd K G v (ndD g) → ∃ c0 ws x, v = .ref c0 ∧ SqT K G c0 ws ∧ atI ws (0 : Int) = some (.str x) ∧ (x = "fun" ↔ g.isF = true) ∧ (x = "var" ↔ g.own.isSome = true) ∧ ∀ f, g = .V f → atI ws (1 : Int) = some (.int (f : Nat)) := fun {G v g} z rv => by
      cases g with
      | W z cs =>
        obtain ⟨c0, ws, rfl, hc, hw, _⟩ := rv.tupd'
        obtain ⟨x1, x2, x3, rfl, r1, r2, r3⟩ := hw.trip
        cases r1
        exact ⟨c0, _, _, rfl, hc, atI_nat (j := 0) rfl, ⟨fun h => absurd h (by decide +kernel), fun h => by cases h⟩, ⟨fun h => absurd h (by decide +kernel), fun h => by cases h⟩, fun f e => by cases e⟩
      | F c =>
        obtain ⟨c0, ws, rfl, hc, hw, _⟩ := rv.tupd'
        obtain ⟨x1, x2, rfl, r1, r2⟩ := hw.pair
        cases r1
        exact ⟨c0, _, _, rfl, hc, atI_nat (j := 0) rfl, ⟨fun h => rfl, fun h => rfl⟩, ⟨fun h => absurd h (by decide +kernel), fun h => by cases h⟩, fun f e => by cases e⟩
      | V c =>
        obtain ⟨c0, ws, rfl, hc, hw, _⟩ := rv.tupd'
        obtain ⟨x1, x2, rfl, r1, r2⟩ := hw.pair
        cases r1
        cases r2
        exact ⟨c0, _, _, rfl, hc, atI_nat (j := 0) rfl, ⟨fun h => absurd h (by decide +kernel), fun h => by cases h⟩, ⟨fun h => rfl, fun h => rfl⟩, fun f e => by cases e; exact atI_nat (j := 1) rfl⟩
    have no : ¬ GV ns → ∀ H', Same H H' → Q (.bl false) H' := fun n H' s => by
      have := q H' s
      rwa [decide_eq_false n] at this
    refine ⟨_, rfl, b0, us, rfl, hsu, fun D0 nD => ?_⟩
    refine lcET (K := K) (xs := us) (fun i G => Same H G ∧ G D0 = some (.lst (iL (vSp ns i)))) ?_ ?_ ?_ ?_ ?_
    · exact ⟨jr_same.put (Same.refl _) nD, upd_same⟩
    · rintro i G ⟨sG, _⟩
      exact (Ex.same sG).tup hsu
    · rintro i G T y ⟨sG, h1⟩ nT
      have sT := Same.new (o := .tup [V.int (i : Nat), y]) nT
      exact ⟨sG.trans sT, sT _ _ h1⟩
    · rintro i y T G hy ⟨sG, h1⟩ hT
      obtain ⟨d, hd, ry⟩ := hxu.get hy
      rw [List.getElem?_map] at hd
      obtain ⟨g, hgi, rfl⟩ := Option.map_eq_some_iff.mp hd
      have hi := (List.getElem?_eq_some_iff.mp hgi).1
      have eg : nAt ns i = g := Option.some.inj ((nAt_get hi).symm.trans hgi)
      have ryG := Rdd.ex (Ex.same sG) _ ry
      have lf : (vSp ns i).length ≤ i := by
        have := List.length_filter_le (fun i => (nAt ns i).own.isSome) (List.range i)
        rwa [List.length_range] at this
      obtain ⟨c0, ws, x, rfl, hc, e0, _, ev, e1⟩ := kind "" ryG
      refine ⟨T, _, rfl, SqT.of hT, rfl, _, _, rfl, _, _, rfl, rfl, rfl, ?_⟩
      refine ⟨_, rfl, c0, ws, (0 : Int), _, rfl, rfl, hc, e0, rfl, _, rfl, ?_⟩
      rw [str_dec]
      by_cases hv : x = "var"
      · rw [decide_eq_true hv]
        refine iteT ⟨_, rfl, _, h1, by unfold iL; rw [List.length_map]; omega, jr_same.put sG nD, ?_⟩
        unfold vSp
        rw [List.range_succ, List.filter_append, List.filter_cons_of_pos (by rw [eg]; exact ev.mp hv)]
        unfold iL
        rw [List.map_append]
        exact upd_same
      · rw [decide_eq_false hv]
        refine iteF ⟨sG, ?_⟩
        unfold vSp
        rw [List.range_succ, List.filter_append, List.filter_cons_of_neg (by rw [eg]; exact fun z => hv (ev.mpr z))]
        simp
        exact h1
    rintro G1 ⟨s1, hD1⟩
    rw [lu] at hD1
    -- the owners
    have ln : (vSp ns ns.length).length ≤ ns.length := by
      have := List.length_filter_le (fun i => (nAt ns i).own.isSome) (List.range ns.length)
      rwa [List.length_range] at this
    have lil : ∀ l : List Nat, (iL l).length = l.length := fun l => List.length_map ..
    have eow : (vSp ns ns.length).map (vOw ns) = own ns := by rw [vSp_own _ (Nat.le_refl _), List.take_length]
    refine ⟨_, rfl, D0, rfl, ⟨_, SqL.of hD1⟩, fun D2 nD2 => ?_⟩
    refine lcL (K := K) ((vSp ns ns.length).map fun k => some (V.int (vOw ns k : Nat))) (by rw [List.length_map, lil]) (by rw [lil]; omega) (SqL.of hD1) nD2 ?_ ?_
    · intro k x G Q2 Z2 hx s hQ hZ
      unfold iL at hx
      rw [List.getElem?_map] at hx
      obtain ⟨c, hc, rfl⟩ := Option.map_eq_some_iff.mp hx
      obtain ⟨f, hf⟩ := mem_vSp.mp (List.mem_of_getElem? hc)
      obtain ⟨v, hv, rv⟩ := node (s1.trans s) hf
      obtain ⟨c0, ws, x, rfl, hc0, e0, _, _, e1⟩ := kind "" rv
      have e1' := e1 f rfl
      refine ⟨rfl, iteT (B := Z2 G) ⟨_, rfl, _, rfl, b0, us, _, _, rfl, rfl, (Ex.same (s1.trans s)).tup hsu, hv, c0, ws, (1 : Int), _, rfl, rfl, hc0, e1', hQ _ G ?_ (Same.refl _)⟩⟩
      rw [List.getElem?_map, hc, ← vOw_at hf]
      rfl
    intro G2 s2 hD2
    rw [fm_al2, show (vSp ns ns.length).map (fun k => V.int (vOw ns k : Nat)) = iL (own ns) by rw [← eow]; unfold iL; rw [List.map_map]; rfl] at hD2
    have s02 := s1.trans s2
    have hD12 := s2 _ _ hD1
    -- the root is a variable, or two variables have one owner
    have h0 := nAt_get pos
    obtain ⟨v, hv, rv⟩ := node s02 h0
    obtain ⟨c0, ws, x, rfl, hc0, e0, _, ev, e1⟩ := kind "" rv
    refine ⟨_, rfl, b0, us, (0 : Int), _, rfl, rfl, (Ex.same s02).tup hsu, hv, c0, ws, (0 : Int), _, rfl, rfl, hc0, e0, rfl, _, rfl, ?_⟩
    rw [str_dec]
    by_cases hxv : x = "var"
    · rw [decide_eq_true hxv]
      refine iteT (iteT (no (fun gv => ?_) G2 s02))
      have hs := ev.mp hxv
      cases hg : nAt ns 0 with
      | W _ _ => rw [hg] at hs; cases hs
      | F _ => rw [hg] at hs; cases hs
      | V f => exact gv.free f 0 (by rw [h0, hg]) .var
    rw [decide_eq_false hxv]
    have oz := own_le ns
    refine iteF ⟨_, rfl, D2, (own ns).map fun f => ((f : Nat) : Int), rfl, SqL.of (by rw [hD2]; unfold iL; rw [List.map_map]; rfl), by rw [List.length_map]; omega, _, rfl, D2, _, rfl, .inl (SqL.of hD2), rfl, _, rfl, ?_⟩
    rw [int_dec, lil]
    have ez : decide (((PySem.W.ossOf ((own ns).map fun f => ((f : Nat) : Int))).length : Int) = ((own ns).length : Nat)) = decide (own ns).Nodup := by
      have e := oss_iff ((own ns).map fun f => ((f : Nat) : Int))
      rw [List.length_map] at e
      have e2 : ((own ns).map fun f => ((f : Nat) : Int)).Nodup ↔ (own ns).Nodup := nd_ints (own ns)
      rw [Bool.eq_iff_iff]
      simp only [decide_eq_true_eq]
      rw [← e2, ← e]
      omega
    rw [ez]
    by_cases hnd : (own ns).Nodup
    case neg =>
      rw [decide_eq_false hnd]
      exact iteT (no (fun gv => hnd gv.own) G2 s02)
    rw [decide_eq_true hnd]
    refine iteF ?_
    -- an owner that is no function
    unfold tNext tSeq tIfS
    dsimp only
    refine ttest_raw ?_
    refine tlc_filterN (fun k => !(nAt ns k).isF) (a := D2) (l := own ns) rfl hD2 (by omega) (fun _ => rfl) (fun _ => rfl) (fun G k s hk H3 Q3 s3 q3 => ?_) (fun D3 G3 n3 s3 hD3 => ?_)
    · have hk' : k < ns.length := by
        unfold own at hk
        obtain ⟨g, hg, e⟩ := List.mem_filterMap.mp hk
        cases g with
        | W _ _ => cases e
        | F _ => cases e
        | V f =>
          cases e
          exact rng _ hg
      have s03 := (s02.trans s).trans s3
      obtain ⟨v, hv, rv⟩ := node s03 (nAt_get hk')
      obtain ⟨c0, ws, x, rfl, hc0, e0, ef, ev, e1⟩ := kind "" rv
      refine ⟨_, rfl, _, rfl, b0, us, _, _, rfl, rfl, (Ex.same s03).tup hsu, hv, c0, ws, (0 : Int), _, rfl, rfl, hc0, e0, rfl, _, rfl, ?_⟩
      rw [str_dec]
      have : decide (x = "fun") = (nAt ns k).isF := by
        rw [Bool.eq_iff_iff, decide_eq_true_eq]
        exact ef
      rw [this]
      exact q3 H3 (Same.refl _)
    refine ⟨(by show 0 ≤ sizeLine; omega), fun e0 ne0 => ?_⟩
    have se := Same.new (o := .lst []) ne0
    have he0 : (upd G3 e0 (.lst [])) e0 = some (.lst []) := upd_same
    generalize upd G3 e0 (.lst []) = G4 at se he0 ⊢
    have s04 := (s02.trans s3).trans se
    refine eqI_nil (se _ _ hD3) he0 ⟨_, rfl, ?_⟩
    by_cases hbad : ((own ns).filter fun k => !(nAt ns k).isF) = []
    case neg =>
      have e : (!((own ns).filter fun k => !(nAt ns k).isF).isEmpty) = true := by
        cases h : (own ns).filter fun k => !(nAt ns k).isF with
        | nil => exact absurd h hbad
        | cons _ _ => rfl
      rw [e]
      refine iteT (no (fun gv => hbad ?_) G4 s04)
      refine List.filter_eq_nil_iff.mpr fun k hk => ?_
      have h := gv.ar
      unfold arB at h
      rw [Bool.and_eq_true] at h
      unfold own at hk
      obtain ⟨g, hg, e⟩ := List.mem_filterMap.mp hk
      cases g with
      | W _ _ => cases e
      | F _ => cases e
      | V f =>
        cases e
        have hb := List.all_eq_true.mp h.1 _ hg
        have hb : (match ns[k]? with | some g => g.isF | none => false) = true := hb
        rw [nAt_get (rng _ hg)] at hb
        rw [show (nAt ns k).isF = true from hb]
        exact Bool.false_ne_true
    have isf : ∀ k ∈ own ns, (nAt ns k).isF = true := fun k hk => by
      have := List.filter_eq_nil_iff.mp hbad k hk
      cases h : (nAt ns k).isF with
      | true => rfl
      | false =>
        rw [h] at this
        exact absurd rfl this
    have inown : ∀ {f : Nat}, GN.V f ∈ ns → f ∈ own ns := fun {f} h => List.mem_filterMap.mpr ⟨_, h, rfl⟩
    have ar : arB ns = true := by
      unfold arB
      rw [decide_eq_true hnd, Bool.and_true]
      refine List.all_eq_true.mpr fun g hg => ?_
      cases g with
      | W _ _ => rfl
      | F _ => rfl
      | V f =>
        show (match ns[f]? with | some g => g.isF | none => false) = true
        rw [nAt_get (rng _ hg)]
        exact isf f (inown hg)
    have hgv : GV ns ↔ Free ns := ⟨fun g => g.free, fun h => ⟨pos, hn, rng, ar, h⟩⟩
    rw [hbad]
    refine iteF ?_
    refine tret_raw (top_raw ?_)
    have hD14 := se _ _ (s3 _ _ hD12)
    refine tlc_filterN (fun k => !(decide (¬ Nd ns (vOw ns k) k 0))) (a := D0) (l := vSp ns ns.length) rfl hD14 (by omega) (fun _ => rfl) (fun _ => rfl) (fun G k s hk H5 Q5 s5 q5 => ?_) (fun D5 G5 n5 s5 hD5 => ?_)
    · obtain ⟨f, hf⟩ := mem_vSp.mp hk
      have s05 := (s04.trans s).trans s5
      have hfl := rng _ (List.mem_of_getElem? hf)
      have ne : k ≠ f := fun e => by
        have h1 := isf f (inown (List.mem_of_getElem? hf))
        have h2 := nAt_get hfl
        rw [← e, hf] at h2
        rw [← e, ← Option.some.inj h2] at h1
        cases h1
      refine ⟨_, rfl, _, rfl, .ref b0, k, f, ns, rfl, Rdd.ex (.same s05) _ hu, rng, pos, hn, hf, ne, fun H6 s6 => ⟨_, rfl, ?_⟩⟩
      have := q5 H6 s6
      rwa [vOw_at hf] at this
    refine ⟨(by show 0 ≤ sizeLine; omega), fun e1 ne1 => ?_⟩
    have sf := Same.new (o := .lst []) ne1
    have he1 : (upd G5 e1 (.lst [])) e1 = some (.lst []) := upd_same
    generalize upd G5 e1 (.lst []) = G6 at sf he1 ⊢
    refine eqE_nil (sf _ _ hD5) he1 ?_
    have e : ((vSp ns ns.length).filter fun k => !(decide (¬ Nd ns (vOw ns k) k 0))).isEmpty = decide (GV ns) := by
      rw [Bool.eq_iff_iff, decide_eq_true_eq, hgv, List.isEmpty_iff, List.filter_eq_nil_iff]
      constructor
      · intro h f v hv n
        have := h v (mem_vSp.mpr ⟨f, hv⟩)
        rw [vOw_at hv, decide_eq_false (fun z => z n)] at this
        exact this rfl
      · intro h k hk
        obtain ⟨f, hf⟩ := mem_vSp.mp hk
        rw [vOw_at hf, decide_eq_true (h f k hf)]
        exact Bool.false_ne_true
    rw [e]
    exact q G6 ((s04.trans s5).trans sf)
end
end Sl

set_option Elab.async false
set_option linter.all false
set_option maxRecDepth 100000
set_option maxHeartbeats 400000
/-! ## Promises with exceptions; own classes without __init__, raised -/
namespace Sl
open PySem PySem.Spec PyProof.Rows L2
/-- the promise where nothing is raised -/
def Sp.calm (sp : Sp) : Sp := fun vs H Q _ => sp vs H Q (fun _ _ _ => False)
section
variable {P : Program} {w : World} {K : PySem.W.Frag} {mg : Str → Option Value} {base : Heap} {k : Nat} {f : Addr} {fd : FuncData} {ps : List Str} {sp : Sp}
theorem _root_.L2.FnOk.calm (F : FnOk P w K mg base (L2.CX P w) k f fd ps sp) : FnOk P w K mg base CX0 k f fd ps (Sp.calm sp) :=
  ⟨fun vs H Q E h => F.len vs H Q _ h, fun A outer s H args us vs Q E hr he hb hv hs => codeAny_mono (F.run A outer s H args us vs Q (fun _ _ _ => False) hr he hb hv hs) fun r s' h => by
    cases r with
    | error e =>
      obtain ⟨a, B, H', cls, d, _, _, _, _, _, _, _, z⟩ := h
      exact z.elim
    | ok fl => cases fl <;> exact h⟩
theorem _root_.L2.FnOk.hot (F : FnOk P w K mg base CX0 k f fd ps sp) : FnOk P w K mg base (L2.CX P w) k f fd ps sp :=
  ⟨F.len, fun A outer s H args us vs Q E hr he hb hv hs => codeAny_mono (F.run A outer s H args us vs Q E hr he hb hv hs) fun r s' h => by
    cases r with
    | error e => exact False.elim h
    | ok fl => cases fl <;> exact h⟩
end
section
open PySem.HandSPX
/-- an error of the class at S is what «except S» names -/
theorem exm_self {K : PySem.W.Frag} {S : Addr} (h1 : PySem.W.subIn K (.ref S) (.type "BaseException") = some true) (h2 : PySem.W.isClsIn K S = true) (h3 : PySem.W.typeIn K (.ref S) = some (.type "type")) (h4 : PySem.W.subIn K (.ref S) (.ref S) = some true) :
    PySem.W.exmOne K (.ref S) (.ref S) = some true := by
  have e1 : (PySem.W.subIn K (.ref S) (.type "BaseException") == some true) = true := by rw [h1] <;> rfl
  have h2' : (PySem.W.clsIn K S).isSome = true := h2
  have e2 : ((PySem.W.clsIn K S).isSome && PySem.W.typeIn K (.ref S) == some (.type "type")) = true := by rw [h2', h3] <;> rfl
  show (if (PySem.W.subIn K (.ref S) (.type "BaseException") == some true) = true then (if ((PySem.W.clsIn K S).isSome && PySem.W.typeIn K (.ref S) == some (.type "type")) = true then PySem.W.subIn K (.ref S) (.ref S) else none) else none) = some true
  rw [if_pos e1, if_pos e2]
  exact h4
end
/-- an own class over ValueError without own __init__ -/
structure Rz (K : PySem.W.Frag) (mg : Str → Option Value) (x : Str) (C : Addr) : Prop where
  g : mg x = some (.ref C)
  q : PySem.W.excIn K C [.type "ValueError", .type "Exception", .type "BaseException", .type "object"] "ValueError.__new__" = true
  kp : PySem.W.keepIn K (.ref C) = true
  b : PySem.W.subIn K (.ref C) (.type "BaseException") = some true
  t : PySem.W.typeIn K (.ref C) = some (.type "type")
  e : PySem.W.exmOne K (.ref C) (.ref C) = some true
section
variable {X : Cx} {C : Addr} {x : Str} {W : WX} {m : Str} {j : Nat} {p p2 pos pos2 : Pos}
theorem ps_raiseR (R : Rz X.K X.mg x C) (hc : X.calm = true) (tk : Takes X W) (hg : Gl X x) (hdb : (x == ("__debug__" : Str)) = false := by decide) :
    PS X (.Raise (some (.Call (.Name x p) [.Constant (.str m) j p2] [] pos)) none pos2) (fun _ σ H => W (.ref C) none σ H) :=
  ps_raise hc tk (pmk_own PySem.F.excBase_ValueError R.q R.g R.kp (raises_own R.b R.t) hg hdb)
end
end Sl

set_option Elab.async false
set_option linter.all false
set_option maxRecDepth 100000
set_option maxHeartbeats 400000
/-! ## C.m(..), a class method, where a try stands around -/
namespace Sl
open PySem PySem.Spec PyProof.Rows L2 ClX
section
variable {X : Cx} {CX : CXT} {k : Nat} {g C : Addr} {sp : Sp} {pins : List (Addr × Obj)} {σ : L2.St} {H : Hp} {s : Shared}
theorem run_fnRS {E : XK} {Q : VK} {us : List Value} {vs : List V} (F : FnR X.prog X.w X.K X.mg X.base CX k g sp) (hr : Room k X.A) (hx : PassesAt CX X σ E) (I : Inv X pins σ H s) (r : Vals vs us) (h : sp vs H Q E) :
    codeAny (model X.prog X.w) X.A (.call (.ref g) ⟨us, []⟩) (fun r s' => match r with | .ok (.ret v) => EP X pins σ Q v s' | .ok _ => False | .error e => X.xe e s') s := by
  refine codeAny_mono (F X.A X.stack s H us vs Q E hr I.env0 r h) fun r s' hq => ?_
  cases r with
  | error e => exact hx pins H s e s' I hq
  | ok fl =>
    cases fl with
    | ret u => exact I.after hq
    | next => exact False.elim hq
    | brk => exact False.elim hq
    | cont => exact False.elim hq
theorem run_cmS {q : Addr} {E : XK} {Q : VK} {us : List Value} {vs : List V} (F : FnR X.prog X.w X.K X.mg X.base CX k g sp) (hr : Room k X.A) (hx : PassesAt CX X σ E) (I : Inv X ((q, PySem.W.methodObj (.ref g) (.ref C)) :: pins) σ H s)
    (r : Vals vs us) (h : sp (.ref C :: vs) H Q E) : wpAny (model X.prog X.w) X.A (call (.ref q) us) (EP X pins σ Q) X.xe s := by
  have z : wpAny (model X.prog X.w) X.A (call (.ref q) us) (EP X ((q, PySem.W.methodObj (.ref g) (.ref C)) :: pins) σ Q) X.xe s :=
    wpAny_call (PySem.W.method_call (pin_at I) (run_fnRS (us := .ref C :: us) (vs := .ref C :: vs) F hr hx I (.cons rfl r) h))
  exact thn z fun _ _ y => unpinE y
def tCMethS (C : Addr) (sp : Sp) (E : L2.St → XK) (ta : TE) (t : TA) : TE := fun σ H Q => ta σ H fun x H1 => x = .ref C ∧ t σ H1 fun vs H2 => sp (.ref C :: vs) H2 Q (E σ)
variable {mc : Value} {m : Str} {p : Addr} {o e : Expr} {es : List Expr} {ta : TE} {t : TA} {E : L2.St → XK} {pos apos : Pos} {pl : Sem Bool}
theorem pe_cmethS (he : PE X o ta) (r : CRead X.K C mc) (c : CMet X.K C mc m p g) (F : FnR X.prog X.w X.K X.mg X.base CX k g sp) (hr : Room k X.A) (hx : ∀ σ, PassesAt CX X σ (E σ)) (ha : PA X (e :: es) t)
    (hst : starEach (e :: es) X.env = (false, eval e X.env) :: starEach es X.env := by rfl) (hpl : (backTo pos (starEach es X.env)).any (·.1) = false := by rfl)
    (ht : eval (.Call (.Attribute o m apos) (e :: es) [] pos) X.env = (do
      let ov ← eval o X.env
      standAt apos.atName
      let (f, first) ← holding [ov] (getMethod ov m pl)
      callWith pos f first (backTo pos (starEach (e :: es) X.env)) (backToKw pos (keywordEach [] X.env))) := by rfl) :
    PE X (.Call (.Attribute o m apos) (e :: es) [] pos) (tCMethS C sp E ta t) := by
  refine ⟨fun pins s σ H Q I h => ?_⟩
  refine PySem.W.methodCall_KW (pl := pl) (thn (he.run pins s σ H _ I h) fun u s1 ⟨x, H1, I1, rx, ex, q⟩ => ?_) ht
  subst ex
  obtain rfl : u = Value.ref C := rx
  refine getmethcm_ok I1 r c fun s2 I2 => ?_
  refine callwith_cm I2 (base_none I1 (Nat.le_refl _)) c.fi (thn (ha.run pos _ s2 σ H1 _ I2 q) fun us s3 ⟨vs, H2, I3, rv, q2⟩ => ⟨⟨pin_at I3, I3.kIn⟩, ?_⟩) hst hpl
  exact run_cmS F hr (hx σ) I3 rv q2
end
end Sl

set_option Elab.async false
set_option linter.all false
set_option maxRecDepth 100000
set_option maxHeartbeats 400000
/-! ## Graph(*nodes), Graph.of(nodes), for any nodes of the right form -/
namespace Sl
open PySem PySem.Spec PyProof.Rows L2
theorem cxUpN {P : Program} {w : World} : StX.CXUp (L2N.CX P w) := by
  rintro outer s H s2 H2 E e s' un kp ho ⟨a, B, H', cls, d, ea, fl, hok, ub, na, os, ag, he⟩
  refine ⟨a, B, H', cls, d, ea, fl, hok, ⟨fun b o q n hb => ub.keep b o (kp b o q) (un.free b o q n (by simp)) hb, fun b o q hb => ub.slot b o (kp b o q) hb, fun b o q n => ub.free b o (kp b o q) (un.free b o q n (by simp)),
    fun b o q hb => ub.there b o (kp b o q) hb, fun b xs q => ub.tups b xs (un.tups b xs q), fun b o xs q => ub.frzs b o xs (un.frzs b o xs q), fun b ps q => ?_⟩, na, os.trans ho, ag, he⟩
  obtain ⟨m1, e1⟩ := un.tbls b ps q
  obtain ⟨m2, e2⟩ := ub.tbls b _ e1
  exact ⟨m1 ++ m2, by rw [e2, Array.append_assoc]⟩
theorem okXN {P : Program} {w : World} {K : PySem.W.Frag} {mg : Str → Option Value} {base : Heap} {x qual : Str} {st : Stmt} {f : Addr} {fd : FuncData} {N ps : List Str} {k : Nat} {sp : Sp} (F : Fun K x qual st f fd) (S : FnScope N ps (defScope st)) (len : ∀ vs H Q E, sp vs H Q E → vs.length = ps.length)
    (hbody : ∀ (cdv : Value) (A : Around) (outer : List Env) (s : Shared) (H : Hp) (vs : List V) (Q : VK) (E : XK), Room k (A.deeper (envOfC qual (defScope st) s.heap.objs.size f cdv)) → sp vs H Q E →
      ∃ t, PSs (cxOf (L2N.CX P w) P w K mg base N qual (defScope st) f cdv A outer s H E) (defBody st) t ∧ t { nx := fun _ H' => Q .non H', rt := Q } (start N vs) H) : FnOk P w K mg base (L2N.CX P w) (k + 1) f fd ps sp := by
  obtain ⟨oc, od, kV, doc, pm, an, cdv, ct, osl, rfl, lk, hcd⟩ := F.ex
  exact fn_of lk hcd S len fun A outer s H vs Q E hr hsp => hbody cdv A outer s H vs Q E hr hsp
theorem ps_raiseRN {X : Cx} {C : Addr} {x : Str} {W : WX} {m : Str} {j : Nat} {p p2 pos pos2 : Pos} (R : Rz X.K X.mg x C) (hc : X.calm = true) (tk : L2N.Takes X W) (hg : Gl X x) (hdb : (x == ("__debug__" : Str)) = false := by decide) :
    PS X (.Raise (some (.Call (.Name x p) [.Constant (.str m) j p2] [] pos)) none pos2) (fun _ σ H => W (.ref C) none σ H) :=
  L2N.ps_raise hc tk (L2N.pmk_own PySem.F.excBase_ValueError R.q R.g R.kp (raises_own R.b R.t) hg hdb)
section
variable {P : Program} {w : World} {K : PySem.W.Frag} {mg : Str → Option Value} {base : Heap} {C CG : Addr} {fWh fBe fNm fKd fWk fRw fPo fNd fAn : Addr} {dWh dBe dNm dKd dWk dRw dPo dNd dAn : FuncData}
variable {fPa fIn fNe fSc fWa fPt fNu : Addr} {dPa dIn dNe dSc dWa dPt dNu : FuncData}
def spGInitX (K : PySem.W.Frag) (C CG : Addr) : Sp := fun vs H Q E => ∃ (x dx p : Addr) (us : List V) (ns : List GN), vs = [.ref x, .ref p] ∧ H x = some (.ins C dx []) ∧ H p = some (.tup us) ∧ RddAll K H us (ns.map ndD) ∧ 0 < ns.length ∧ ns.length ≤ 100 ∧ (∀ g ∈ ns, Rng ns.length g) ∧
  (GV ns → ∀ o R S H', FW (kd ns) [] [0] o → o.Nodup → (∀ i ∈ o, i < ns.length) → Off x H H' → GrAt K C H' x (ren ns o) R S → Q .non H') ∧ (¬ GV ns → ∀ H', Off x H H' → E (.ref CG) none H')
theorem run_gInitX (N : Gn K mg fWh fBe fNm fKd fWk fRw fPo fNd fAn dWh dBe dNm dKd dWk dRw dPo dNd dAn) (Dg : Gd K mg fPa fIn fNe fSc fWa fPt fNu dPa dIn dNe dSc dWa dPt dNu) (U : Tops K mg) (Bi' : Bi mg) (B : Bt mg) (L : Gr K mg C) (RG : Rz K mg "InvalidGraph" CG)
    {cdv : Value} {A : Around} {outer : List Env} {s : Shared} {H : Hp} {vs : List V} {f : Addr} {Q : VK} {E : XK} (hr : Room 5 (A.deeper (envOfC "Graph.__init__" (defScope sGInit) s.heap.objs.size f cdv))) (h : spGInitX K C CG vs H Q E) :
    ∃ t, PSs (cxOf (L2N.CX P w) P w K mg base ["self", "nodes"] "Graph.__init__" (defScope sGInit) f cdv A outer s H E) (defBody sGInit) t ∧ t { nx := fun _ H' => Q .non H', rt := Q } (start ["self", "nodes"] vs) H := by
  have GA : FnOk P w K mg base CX0 5 fAn dAn ["values"] (spAreN K) := ok_areN N U Bi' B
  have GN : FnOk P w K mg base CX0 3 fNe dNe ["nodes"] (spNeeds K) := ok_needs N Dg.FNe Dg.FPa Dg.bPa Dg.gPa Dg.FIn Dg.bIn Dg.gIn B
  have GS : FnOk P w K mg base CX0 1 fSc dSc ["needs"] (spScopes K) := ok_scopes Dg.FSc B
  have GU : FnOk P w K mg base CX0 3 fNu dNu ["nodes", "root"] (spNumbered K) := ok_numbered N Dg.FNu Dg.FWa Dg.bWa Dg.gWa Dg.FPt Dg.bPt Dg.gPt B
  have h1 := hr.mono (by decide : 1 ≤ 5)
  have h3 := hr.mono (by decide : 3 ≤ 5)
  obtain ⟨tM, gM⟩ := U.nodes
  have sl := sizeLine_eq
  obtain ⟨x, dx, p, us, ns, rfl, hx, hp, hus, pos, big, rng, q, qe⟩ := h
  --D
  refine ⟨_, (pss_cons (ps_if (pt_not (pt_val (pe_call GA hr (by rfl) N.gAn N.FAn.kp N.bAn .nil pass0 (pa_cons (pv 1) pa_nil))))
          (pss_one (ps_raiseRN RG rfl (L2N.takes_of rfl rfl rfl rfl) rfl)) pss_nil)
        (pss_cons (ps_if (pt_cmpR op_gt (pe_callB call_len_seq (by rfl) B.len PySem.boot_len (pa_cons (pe_ix ix_list (pe_call GN h3 (by rfl) Dg.gNe Dg.FNe.kp Dg.bNe .nil pass0 (pa_cons (pv 1) pa_nil)) pe_int (fun _ _ => rfl)) pa_nil)) pe_int (nomark _))
          (pss_one (ps_raiseRN RG rfl (L2N.takes_of rfl rfl rfl rfl) rfl)) pss_nil)
        (pss_cons (ps_fld (pv 0) (pe_call GU h3 (by rfl) Dg.gNu Dg.FNu.kp Dg.bNu .nil pass0 (pa_cons (pv 1) (pa_cons pe_int pa_nil))) rfl)
        (pss_cons (ps_if (pt_cmpR op_gt (pe_callB call_len_seq (by rfl) B.len PySem.boot_len (pa_cons (pe_fld (pv 0) rfl) pa_nil)) (pe_glob (v := .int 100) (by rfl) gM ⟨_, rfl⟩) (nomark _))
          (pss_one ps_never) pss_nil)
        (pss_cons (ps_fld (pv 0) (pe_call GN h3 (by rfl) Dg.gNe Dg.FNe.kp Dg.bNe .nil pass0 (pa_cons (pe_fld (pv 0) rfl) pa_nil)) rfl)
        (pss_one (ps_fld (pv 0) (pe_call GS h1 (by rfl) Dg.gSc Dg.FSc.kp Dg.bSc .nil pass0 (pa_cons (pe_fld (pv 0) rfl) pa_nil)) rfl))))))), ?_⟩
  --E
  have lno : ∀ {o : List Nat}, o.Nodup → (∀ i ∈ o, i < ns.length) → o.length ≤ ns.length := fun nd lt => nd_len' nd lt
  have hb := big
  have ru : Rdd K H (.ref p) (.tup (ns.map ndD)) := tup_val hp hus (by rw [List.length_map]; omega)
  refine ⟨_, rfl, .ref p, ns, rfl, ru, pos, rng, (by omega), fun H1 s1 => ?_⟩
  by_cases har : arB ns = true
  case neg =>
    have har' : arB ns = false := by cases h : arB ns with | true => exact absurd h har | false => rfl
    rw [har']
    exact ⟨_, rfl, iteT (qe (fun gv => har gv.ar) H1 (Off.same s1))⟩
  rw [har]
  refine ⟨_, rfl, iteF ?_⟩
  have ownN : (own ns).Nodup := by
    have h := har
    unfold arB at h
    rw [Bool.and_eq_true] at h
    exact of_decide_eq_true h.2
  -- needs_of(nodes)[0] is empty
  refine ⟨_, rfl, .ref p, ns, rfl, Rdd.ex (Ex.same s1) _ ru, rng, ownN, (by omega), fun pq H2 R0 s2 _ ⟨ys, hys, rys⟩ ok0 => ?_⟩
  have pos0 : 0 < R0.length := by rw [ok0.len]; exact pos
  have hr0 : R0[0]? = some R0[0] := List.getElem?_eq_getElem pos0
  obtain ⟨y0, hy0, ry0⟩ := rys.at (i := 0) (d := .tup (iD R0[0])) (by rw [List.getElem?_map, hr0]; rfl)
  obtain ⟨a0, xs0, rfl, ha0, hx0, _⟩ := ry0.tupd'
  refine ⟨pq, ys, (0 : Int), _, rfl, rfl, SqL.of hys, atI_nat (j := 0) hy0, a0, xs0, rfl, .inr ha0, _, _, rfl, rfl, _, rfl, ?_⟩
  have lx0 : xs0.length = R0[0].length := by rw [hx0.length]; unfold iD; rw [List.length_map]
  rw [lx0]
  by_cases hfr : Free ns
  case neg =>
    have hne : R0[0] ≠ [] := fun e => hfr ((free_row (ok0.row 0 _ hr0)).mp e)
    rw [decide_eq_true (show ((R0[0].length : Nat) : Int) > 0 by
      have := List.length_pos_iff.mpr hne
      omega)]
    exact iteT (qe (fun gv => hfr gv.free) H2 (Off.same (s1.trans s2)))
  have gv : GV ns := ⟨pos, big, rng, har, hfr⟩
  have e0 : R0[0] = [] := (free_row (ok0.row 0 _ hr0)).mpr hfr
  rw [e0, decide_eq_false (by decide)]
  refine iteF ?_
  -- self._nodes
  have s02 := s1.trans s2
  have fr := gv.free
  refine ⟨_, rfl, .ref p, ns, 0, rfl, Rdd.ex (Ex.same s02) _ ru, gv.rng, gv.pos, (by omega), ?_, fun o v H3 fw nd lt s3 rv => ?_⟩
  · intro o fw
    exact walk_closed fr fw (fw.lt (kd_rng gv.rng) (fun i hi => by cases hi) fun i hi => by rw [List.mem_singleton.mp hi]; exact gv.pos)
  have cl := walk_closed fr fw lt
  have lo := lno nd lt
  have s03 := s02.trans s3
  have hx3 := s03 _ _ hx
  refine ⟨_, rfl, x, C, dx, [], rfl, hx3, L.cl, L.nN, (by show 0 < 1000; decide), ?_⟩
  have o4 : Off x H3 (upd H3 x (.ins C dx (putF "_nodes" v []))) := .put
  have rv4 := Rdd.off hx3 o4 (nodes_pure _) rv
  have hx4 : (upd H3 x (.ins C dx (putF "_nodes" v []))) x = some (.ins C dx (putF "_nodes" v [])) := upd_same
  generalize upd H3 x (.ins C dx (putF "_nodes" v [])) = H4 at o4 rv4 hx4 ⊢
  -- len(self._nodes) > MAX_NODES
  obtain ⟨c0, cs, rfl, hc0, hcs, _⟩ := id rv4.tupd'
  have lcs : cs.length = o.length := by rw [hcs.length, List.length_map, ren_len]
  have lkN : (putF "_nodes" (V.ref c0) []).lookup ("_nodes" : Str) = some (.ref c0) := by rw [lookup_putF, if_pos rfl]
  refine ⟨_, rfl, x, C, dx, _, _, rfl, hx4, L.cl, L.nN, lkN, c0, cs, rfl, .inr hc0, _, _, rfl, rfl, _, rfl, ?_⟩
  rw [decide_eq_false (by omega)]
  refine iteF ?_
  -- self._needs
  have rng2 := ren_rng lt cl gv.rng
  have own2 := ren_own nd lt cl gv.own
  have wo := ren_wo fr fw nd lt
  have l2 : (ren ns o).length ≤ 4000 := by rw [ren_len]; omega
  refine ⟨_, rfl, x, C, dx, _, _, rfl, hx4, L.cl, L.nN, lkN, .ref c0, ren ns o, rfl, rv4, rng2, own2, l2, fun pR H5 R s5 nR aR okR => ?_⟩
  have hx5 := s5 _ _ hx4
  refine ⟨_, rfl, x, C, dx, _, rfl, hx5, L.cl, L.nR, (Nat.lt_of_le_of_lt (fl (Nat.le_refl _)) (by decide)), ?_⟩
  have o6 : Off x H5 (upd H5 x (.ins C dx (putF "_needs" (.ref pR) (putF "_nodes" (.ref c0) [])))) := .put
  have rv6 := Rdd.off hx5 o6 (nodes_pure _) (Rdd.ex (Ex.same s5) _ rv4)
  have aR6 := RowsAt.off hx5 o6 aR
  have hx6 : (upd H5 x (.ins C dx (putF "_needs" (.ref pR) (putF "_nodes" (.ref c0) [])))) x = some (.ins C dx (putF "_needs" (.ref pR) (putF "_nodes" (.ref c0) []))) := upd_same
  generalize upd H5 x (.ins C dx (putF "_needs" (.ref pR) (putF "_nodes" (.ref c0) []))) = H6 at o6 rv6 aR6 hx6 ⊢
  have lkR : (putF "_needs" (V.ref pR) (putF "_nodes" (V.ref c0) [])).lookup ("_needs" : Str) = some (.ref pR) := by rw [lookup_putF, if_pos rfl]
  refine ⟨_, rfl, x, C, dx, _, _, rfl, hx6, L.cl, L.nR, lkR, pR, R, rfl, aR6, rows_back wo okR l2, (by rw [okR.len]; exact l2), fun pS H7 S s7 nS aS sc => ?_⟩
  have hx7 := s7 _ _ hx6
  refine ⟨_, rfl, x, C, dx, _, rfl, hx7, L.cl, L.nS, (Nat.lt_of_le_of_lt (fl (fl (Nat.le_refl _))) (by decide)), ?_⟩
  have o8 : Off x H7 (upd H7 x (.ins C dx (grF (.ref c0) pR pS))) := .put
  refine q gv o R S _ fw nd lt ?_ ⟨⟨dx, pR, pS, .ref c0, upd_same, Rdd.off hx7 o8 (nodes_pure _) (Rdd.ex (Ex.same s7) _ rv6), RowsAt.off hx7 o8 (aR6.ex s7), RowsAt.off hx7 o8 aS⟩, okR, sc⟩
  exact ((((Off.same s03).trans o4).trans (Off.same s5)).trans o6).trans ((Off.same s7).trans o8)

def spGMakeX (K : PySem.W.Frag) (C CG : Addr) : Sp := fun vs H Q E => ∃ ws rest, vs = ws ++ rest ∧ ws.length = [("self" : Str)].length ∧ rest.length ≤ sizeLine ∧ ∀ p, H p = Option.none → spGInitX K C CG (ws ++ [V.ref p]) (upd H p (.tup rest)) Q E
theorem ok_gMakeX (N : Gn K mg fWh fBe fNm fKd fWk fRw fPo fNd fAn dWh dBe dNm dKd dWk dRw dPo dNd dAn) (Dg : Gd K mg fPa fIn fNe fSc fWa fPt fNu dPa dIn dNe dSc dWa dPt dNu) (U : Tops K mg) (Bi' : Bi mg) (B : Bt mg) (L : Gr K mg C) (RG : Rz K mg "InvalidGraph" CG)
    {f : Addr} {fd : FuncData} (F : Fun K "__init__" "Graph.__init__" sGInit f fd) : FnR P w K mg base (L2N.CX P w) 6 f (spGMakeX K C CG) := by
  obtain ⟨oc, od, kV, doc, pm, an, cdv, ct, osl, rfl, lk, hcd⟩ := F.ex
  refine StX.fn_star (ps := ["self"]) (pv := "nodes") lk hcd scGInit cxUpN ?_ ?_
  · exact StX.bind_star1 (B := fun as => bindArgs (PySem.W.fnOf "__init__" "Graph.__init__" (defArgs sGInit) (defBody sGInit) (defScope sGInit) .none kV doc pm an cdv ct) ⟨as, []⟩) (p1 := "self") (pv := "nodes") (fun a => by first | rfl | with_unfolding_all rfl | kernel_rfl) (fun a r rs => by first | rfl | with_unfolding_all rfl | kernel_rfl)
  · intro A outer s H vs Q E hr h
    exact run_gInitX N Dg U Bi' B L RG hr h
theorem g_makeX {x dx : Addr} {xs : List V} {ns : List GN} {H : Hp} {Q : VK} {E : XK} (pos : 0 < ns.length) (big : ns.length ≤ 100) (rng : ∀ g ∈ ns, Rng ns.length g) (nx : H x = none) (ndx : H dx = none) (ne : dx ≠ x) (r : RddAll K H xs (ns.map ndD))
    (q : GV ns → ∀ o R S H', FW (kd ns) [] [0] o → o.Nodup → (∀ i ∈ o, i < ns.length) → Same H H' → GrAt K C H' x (ren ns o) R S → Q (.ref x) H') (qe : ¬ GV ns → ∀ H', Same H H' → E (.ref CG) none H') :
    spGMakeX K C CG (V.ref x :: xs) (upd (upd H dx (.own x)) x (.ins C dx [])) (fun v H2 => v = .non ∧ Q (.ref x) H2) E := by
  have sl := sizeLine_eq
  have lx : xs.length = ns.length := by rw [r.length, List.length_map]
  refine ⟨[V.ref x], xs, rfl, rfl, by omega, fun p np => ?_⟩
  have s1 : Same H (upd (upd H dx (.own x)) x (.ins C dx [])) := (Same.new ndx).trans (Same.new (by rw [upd_ne (Ne.symm ne)]; exact nx))
  have s2 := Same.new (o := .tup xs) np
  exact ⟨x, dx, p, xs, ns, rfl, s2 _ _ upd_same, upd_same, RddAll.ex (Ex.same (s1.trans s2)) _ r, pos, big, rng, fun gv o R S H' fw nd lt off gr => ⟨rfl, q gv o R S H' fw nd lt (same_made nx ndx np off) gr⟩, fun ng H' off => qe ng H' (same_made nx ndx np off)⟩
def spGOfX (K : PySem.W.Frag) (C CG : Addr) : Sp := fun vs H Q E => ∃ (u : V) (ns : List GN), vs = [.ref C, u] ∧ Rdd K H u (.tup (ns.map ndD)) ∧ 0 < ns.length ∧ ns.length ≤ 100 ∧ (∀ g ∈ ns, Rng ns.length g) ∧
  (GV ns → ∀ o R S x H', FW (kd ns) [] [0] o → o.Nodup → (∀ i ∈ o, i < ns.length) → Same H H' → GrAt K C H' x (ren ns o) R S → Q (.ref x) H') ∧ (¬ GV ns → ∀ H', Same H H' → E (.ref CG) none H')
theorem ok_gOfX (N : Gn K mg fWh fBe fNm fKd fWk fRw fPo fNd fAn dWh dBe dNm dKd dWk dRw dPo dNd dAn) (Dg : Gd K mg fPa fIn fNe fSc fWa fPt fNu dPa dIn dNe dSc dWa dPt dNu) (U : Tops K mg) (Bi' : Bi mg) (B : Bt mg) (L : Gr K mg C) (RG : Rz K mg "InvalidGraph" CG)
    {f fI : Addr} {fd fdI : FuncData} (F : Fun K "of" "Graph.of" sGOf f fd) (FI : Fun K "__init__" "Graph.__init__" sGInit fI fdI) (M : Mk K C fI) : FnOk P w K mg base (L2N.CX P w) 8 f fd ["cls", "nodes"] (spGOfX K C CG) := by
  have GM : FnR P w K mg base (L2N.CX P w) 6 fI (spGMakeX K C CG) := ok_gMakeX N Dg U Bi' B L RG FI
  refine okXN F scGOf (fun vs H Q E h => ?_) (fun cdv A outer s H vs Q E hr h => ?_)
  · obtain ⟨u, ns, rfl, _⟩ := h
    rfl
  · obtain ⟨u, ns, rfl, hu, pos, big, rng, q, qe⟩ := h
    refine ⟨_, (pss_cons (ps_if (pt_not (pt_val (pe_callB call_isi (by rfl) B.isi (by decide +kernel) (pa_cons (pv 1) (pa_cons (pe_bltn (v := .ty "tuple") (by rfl) B.tuple (by decide +kernel) rfl) pa_nil)))))
          (pss_one ps_never) pss_nil)
        (pss_one (ps_ret (pe_makeSL (i := 0) M GM hr (by rfl) (Or.inl rfl) (L2N.passes_call (L2N.takes_of rfl rfl rfl rfl) (fun _ _ _ _ h => h)) (pv 1))))), ?_⟩
    have hty := hu.ty
    obtain ⟨a0, xs, rfl, hs, hx, _⟩ := hu.tupd'
    refine ⟨_, rfl, V.ref a0, .ty "tuple", _, _, isA "tuple" (.tup (ns.map ndD)), rfl, .ty _, hty, kit_isA (by decide +kernel), _, rfl, ?_⟩
    rw [isA_tuple]
    refine iteF ⟨rfl, _, rfl, a0, xs, rfl, .inl hs, fun x dx nx ndx ne => ?_⟩
    exact g_makeX pos big rng nx ndx ne hx (fun gv o R S H' fw nd lt s gr => q gv o R S x H' fw nd lt s gr) fun ng H' s => qe ng H' s
end
end Sl

set_option Elab.async false
set_option linter.all false
set_option maxRecDepth 100000
set_option maxHeartbeats 400000
/-! ## _law_walked -/
namespace Sl
open PySem PySem.Spec PyProof.Rows L2
abbrev sLWalked : Stmt := topT 37
theorem scLWalked : FnScope ["_law_nodes", "_law_order", "_law_waits", "_law_at", "_law_found", "_law_node", "_law_one"] ["_law_nodes"] (defScope sLWalked) := ⟨rfl, rfl, rfl, by decide +kernel, rfl, by decide +kernel, by decide +kernel⟩
section
variable {P : Program} {w : World} {K : PySem.W.Frag} {mg : Str → Option Value} {base : Heap} {fLB : Addr} {dLB : FuncData}
def spLWalked (K : PySem.W.Frag) : Sp := fun vs H Q _ => ∃ (u : V) (ns : List GN), vs = [u] ∧ SqN K H u ns ∧ (∀ g ∈ ns, Rng ns.length g) ∧ ns.length ≤ 4000 ∧ 0 < ns.length ∧ (∀ o, FW (kd ns) [] [0] o → ∀ i ∈ o, ∀ j ∈ nums (nAt ns i), j ∈ o) ∧
  ∀ o p zs H', Cp ns 0 o → Same H H' → H p = none → H' p = some (.lst zs) → RddAll K H' zs ((ren ns o).map ndD) → Q (.ref p) H'
theorem ok_lWalked (B : Bt mg) (FLB : Fun K "_law_below" "_law_below" sLBelow fLB dLB) (bLB : Binds K dLB ["_law_node"] []) (gLB : mg "_law_below" = some (.ref fLB)) {f : Addr} {fd : FuncData} (F : Fun K "_law_walked" "_law_walked" sLWalked f fd) : FnOk P w K mg base CX0 2 f fd ["_law_nodes"] (spLWalked K) := by
  have GL : FnOk P w K mg base CX0 1 fLB dLB ["_law_node"] (spLBelow K) := ok_lBelow FLB B
  refine F.ok scLWalked (fun vs H Q E h => ?_) (fun cdv A outer s H vs Q E hr h => ?_)
  · obtain ⟨u, ns, rfl, _⟩ := h
    rfl
  · obtain ⟨u, ns, rfl, hu, hg, hn, hi, hcl, q⟩ := h
    have sl := sizeLine_eq
    --DW
    refine ⟨_, (pss_cons (ps_asg (pe_tup (pa_cons (pe_lst pa_nil) (pa_cons (pe_lst (pa_cons pe_int pa_nil)) pa_nil))) (pg_tup rfl (pgs_cons (pg_name (i := 1) scLWalked.nd rfl (Or.inr rfl)) (pgs_cons (pg_name (i := 2) scLWalked.nd rfl (Or.inl rfl)) pgs_nil))))
        (pss_cons (ps_while PassesOwn.never (pt_cmpR (op_neD hr.units) (pv 2) (pe_lst pa_nil) (nomark _))
        (pss_cons (ps_set (i := 3) scLWalked.nd rfl (Or.inl rfl) (pe_bm0 PySem.F.plainAttrs_list PySem.F.slot_list_pop PySem.F.type_list_pop mt_pop (pv 2)))
        (pss_one (ps_if (pt_cmpR op_notIn_seq (pv 3) (pv 1) (by rfl))
          (pss_cons (ps_expr (pe_bm PySem.F.plainAttrs_list PySem.F.slot_list_append PySem.F.type_list_append mt_append (pv 1) (pa_cons (pv 3) pa_nil)))
        (pss_one (ps_expr (pe_bm PySem.F.plainAttrs_list PySem.F.slot_list_extend PySem.F.type_list_extend mt_extend (pv 2) (pa_cons (pe_revL (pe_call GL hr (by rfl) gLB FLB.kp bLB .nil pass0 (pa_cons (pe_ix ix_seq (pv 0) (pv 3) (fun _ _ => rfl)) pa_nil))) pa_nil))))) pss_nil))))
        (pss_cons (ps_set (i := 4) scLWalked.nd rfl (Or.inl rfl) (pe_lst pa_nil))
        (pss_cons (ps_for PassesOwn.never rfl (pi_list (pv 1)) (pg_name (i := 3) scLWalked.nd rfl (Or.inl rfl))
          (pss_cons (ps_set (i := 5) scLWalked.nd rfl (Or.inl rfl) (pe_ix ix_seq (pv 0) (pv 3) (fun _ _ => rfl)))
        (pss_one (ps_if (pt_cmpR op_eq (pe_ix ix_tup (pv 5) pe_int (fun _ _ => rfl)) pe_str (nomark _))
          (pss_one (ps_expr (pe_bm PySem.F.plainAttrs_list PySem.F.slot_list_append PySem.F.type_list_append mt_append (pv 4) (pa_cons (pe_tup (pa_cons pe_str (pa_cons (pe_ix ix_tup (pv 5) pe_int (fun _ _ => rfl)) (pa_cons (pe_callTy call_tuple_of (by rfl) B.tuple (by decide +kernel) (pa_cons (pe_lc (own := [("_law_one", 6)]) (g := gName 6) (tt := tYes) (te := tBM K "list" (rIndex K) (tVar 1) (tCons (tVar 6) tNil)) rfl scLWalked.nd (pi_tup (pe_ix ix_tup (pv 5) pe_int (fun _ _ => rfl))) (blkOk_by (own := [("_law_one", 6)]) (N := ["_law_nodes", "_law_order", "_law_waits", "_law_at", "_law_found", "_law_node", "_law_one"]) (sc := defScope sLWalked) (by decide +kernel)) (fun _ _ _ _ _ => pg_name (i := 6) scLWalked.nd rfl (Or.inl rfl)) (fun _ _ _ _ _ => pts_nil) (fun _ _ _ _ _ => by exact (pe_bm PySem.F.plainAttrs_list PySem.F.slot_list_index PySem.F.type_list_index mt_index (pv 1) (pa_cons (pv 6) pa_nil)))) pa_nil)) pa_nil)))) pa_nil)))) (pss_one (ps_expr (pe_bm PySem.F.plainAttrs_list PySem.F.slot_list_append PySem.F.type_list_append mt_append (pv 4) (pa_cons (pe_tup (pa_cons (pe_ix ix_tup (pv 5) pe_int (fun _ _ => rfl)) (pa_cons (pe_bm PySem.F.plainAttrs_list PySem.F.slot_list_index PySem.F.type_list_index mt_index (pv 1) (pa_cons (pe_ix ix_tup (pv 5) pe_int (fun _ _ => rfl)) pa_nil)) pa_nil))) pa_nil))))))))
        (pss_one (ps_ret (pv 4))))))), ?_⟩
    --EW
    refine ⟨(by show 0 ≤ sizeLine; omega), fun f0 nf => ?_⟩
    have s1 := Same.new (o := .lst []) nf
    have hf1 : (upd H f0 (.lst [])) f0 = some (.lst (iL [])) := upd_same
    generalize upd H f0 (.lst []) = H1 at s1 hf1 ⊢
    refine ⟨(by show 1 ≤ sizeLine; omega), fun w0 nw => ⟨(by show 2 ≤ sizeLine; omega), fun t0 nt0 => ?_⟩⟩
    have s2 := Same.new (o := .lst [V.int 0]) nw
    have hw2 : (upd H1 w0 (.lst [V.int 0])) w0 = some (.lst (iL [0].reverse)) := upd_same
    have hf2 := s2 _ _ hf1
    have fw : f0 ≠ w0 := ne_of_none hf1 nw
    have nw0 := none_of s1 nw
    have s02 := s1.trans s2
    generalize upd H1 w0 (.lst [V.int 0]) = H2 at s02 hw2 hf2 nt0 ⊢
    have st0 := Same.new (o := .tup [V.ref f0, V.ref w0]) nt0
    have ht0 : (upd H2 t0 (.tup [V.ref f0, V.ref w0])) t0 = some (.tup [V.ref f0, V.ref w0]) := upd_same
    replace hf2 := st0 _ _ hf2
    replace hw2 := st0 _ _ hw2
    replace s02 := s02.trans st0
    generalize upd H2 t0 (.tup [V.ref f0, V.ref w0]) = H2 at s02 hw2 hf2 ht0 ⊢
    refine ⟨t0, _, rfl, SqT.of ht0, rfl, _, _, rfl, _, _, rfl, rfl, ?_⟩
    refine ⟨fun μ σ G => ∃ (g3 : Option V) (m st : List Nat), μ = 4 * (ns.length - m.length) + st.length ∧ σ = [some u, some (.ref f0), some (.ref w0), g3, none, none, none] ∧ Same H G ∧ G f0 = some (.lst (iL m)) ∧ G w0 = some (.lst (iL st.reverse)) ∧ m.Nodup ∧ (∀ j ∈ m, j < ns.length) ∧ (∀ j ∈ st, j < ns.length) ∧ st.length ≤ 3 * m.length + 1 ∧ ∀ o, FW (kd ns) m st o → FW (kd ns) [] [0] o,
      ⟨_, none, [], [0], rfl, rfl, s02, hf2, hw2, .nil, (by simp), (fun j hj => by rw [List.mem_singleton.mp hj]; exact hi), Nat.le_refl 1, fun o h => h⟩, ?_⟩
    rintro μ σ G ⟨g3, m, st, rfl, rfl, sG, hf, hw, ndm, ltm, lts, l3, fwo⟩
    have lm := nd_len' ndm ltm
    refine ⟨_, rfl, (by show 0 ≤ sizeLine; omega), fun e0 ne0 => ?_⟩
    have se := Same.new (o := .lst []) ne0
    have he0 : (upd G e0 (.lst [])) e0 = some (.lst []) := upd_same
    generalize upd G e0 (.lst []) = G1 at se he0 ⊢
    have sG1 := sG.trans se
    have hf1 := se _ _ hf
    have hw1 := se _ _ hw
    refine eqI_nil hw1 he0 ⟨_, rfl, ?_⟩
    cases st with
    | nil =>
      refine iteF ?_
      have fw0 := fwo m .nil
      have cl := hcl m fw0
      refine ⟨(by show 0 ≤ sizeLine; omega), fun l nl => ?_⟩
      have s5 := Same.new (o := .lst []) nl
      have hl5 : (upd G1 l (.lst [])) l = some (.lst []) := upd_same
      generalize upd G1 l (.lst []) = H5 at s5 hl5 ⊢
      have nlH := none_of sG1 nl
      refine ⟨_, rfl, f0, rfl, ⟨_, SqL.of (s5 _ _ hf1)⟩, ?_⟩
      refine for_list (xs := iL m) (fun i σ G => ∃ (g4 g5 : Option V) (zs : List V), σ = [some u, some (.ref f0), some (.ref w0), g4, some (.ref l), g5, none] ∧ Same G1 G ∧ G l = some (.lst zs) ∧ RddAll K G zs (((ren ns m).take i).map ndD)) ⟨_, none, [], rfl, s5, hl5, .nil⟩ ?_ ?_ ?_
      · rintro i σ G _ ⟨g4, g5, zs, rfl, sG, hl, rz⟩
        exact SqL.of (sG _ _ hf1)
      · rintro i x σ G hx ⟨g4, g5, zs, rfl, sG, hl, rz⟩
        unfold iL at hx
        rw [List.getElem?_map] at hx
        obtain ⟨c, hc, rfl⟩ := Option.map_eq_some_iff.mp hx
        have hi := (List.getElem?_eq_some_iff.mp hc).1
        have cm := List.mem_of_getElem? hc
        have hcn := ltm c cm
        have lzs : zs.length = i := by rw [rz.length, List.length_map, List.length_take, ren_len]; omega
        have hfG := sG _ _ hf1
        have rng := hg _ (List.mem_of_getElem? (nAt_get hcn))
        have clc := cl c cm
        refine ⟨_, rfl, _, rfl, (hu.same (sG1.trans sG)).ix hcn fun y ryG => ?_⟩
        have done : ∀ {G4 : Hp} {x : V} {g4 g5 : Option V}, Same G G4 → Rdd K G4 x (ndD (rl (fun j => m.idxOf j) (nAt ns c))) → ∃ (g4' g5' : Option V) (zs2 : List V), [some u, some (.ref f0), some (.ref w0), g4, some (.ref l), g5, none] = [some u, some (.ref f0), some (.ref w0), g4', some (.ref l), g5', none] ∧ Same G1 (upd G4 l (.lst (zs ++ [x]))) ∧ (upd G4 l (.lst (zs ++ [x]))) l = some (.lst zs2) ∧ RddAll K (upd G4 l (.lst (zs ++ [x]))) zs2 (((ren ns m).take (i + 1)).map ndD) := fun {G4 x g4 g5} s6 rx => by
          have hl6 := s6 _ _ hl
          have xA : Ex G4 (upd G4 l (.lst (zs ++ [x]))) := (Off.put (a := l)).ex hl6 upd_same
          refine ⟨g4, g5, zs ++ [x], rfl, jr_same.put (sG.trans s6) nl, upd_same, ?_⟩
          rw [List.take_add_one, ren_at hc, List.map_append]
          exact (RddAll.ex xA _ (RddAll.ex (Ex.same s6) _ rz)).app' (.cons (Rdd.ex xA _ rx) .nil)
        have first : ∀ {e : Nat} (k : Nat) (z : V), k < m.idxOf e → (iL m)[k]? = some z → eqV z (.int (e : Nat)) = false := fun {e} k z hk hz => by
          unfold iL at hz
          rw [List.getElem?_map] at hz
          obtain ⟨b, hb, rfl⟩ := Option.map_eq_some_iff.mp hz
          exact eqV_int_ne fun e2 => idx_first hk (e2 ▸ hb)
        have whr : ∀ {e : Nat}, e ∈ m → (iL m)[m.idxOf e]? = some (V.int (e : Nat)) := fun {e} he => by
          unfold iL
          rw [List.getElem?_map, idx_at he]
          rfl
        cases hg : nAt ns c with
        | W w cs =>
          rw [hg] at ryG done clc
          obtain ⟨c0, ws, rfl, hc0, hws, _⟩ := ryG.tupd'
          obtain ⟨w1, w2, w3, rfl, q1, q2, q3⟩ := hws.trip
          cases q1
          cases q2
          obtain ⟨t, ts, rfl, ht, hts, _⟩ := q3.tupd'
          have ets := iD_ints hts
          have lcs : cs.length ≤ 3 := by
            rw [hg] at rng
            exact rng.2.1
          refine ⟨_, rfl, c0, _, (0 : Int), _, rfl, rfl, hc0, atI_nat (j := 0) rfl, rfl, _, rfl, ?_⟩
          rw [str_dec, decide_eq_true rfl]
          refine iteT ⟨_, rfl, .inl ⟨rfl, _, SqL.of hl⟩, _, rfl, c0, _, (1 : Int), _, rfl, rfl, hc0, atI_nat (j := 1) rfl, _, rfl, c0, _, (2 : Int), .ref t, rfl, rfl, hc0, atI_nat (j := 2) rfl, t, rfl, ⟨_, ht⟩, fun D0 nD => ?_⟩
          refine lcT (cs.map fun e => some (V.int (m.idxOf e : Nat))) (by rw [List.length_map, ets, List.length_map]) (by rw [ets, List.length_map]; omega) ht nD ?_ ?_
          · intro k z G4 Q2 Z2 hz s6 hQ _
            rw [ets] at hz
            rw [List.getElem?_map] at hz
            obtain ⟨e, he, rfl⟩ := Option.map_eq_some_iff.mp hz
            have em := clc e (List.mem_of_getElem? he)
            refine ⟨rfl, ?_⟩
            refine iteT (B := Z2 G4) ⟨_, rfl, .inl ⟨rfl, _, SqL.of (s6 _ _ hfG)⟩, _, rfl, f0, iL m, .int (e : Nat), m.idxOf e, .int (e : Nat), rfl, rfl, SqL.of (s6 _ _ hfG), rfl, flat_iLk m, whr em, eqV_int e, first, hQ _ _ ?_ (Same.refl _)⟩
            rw [List.getElem?_map, he]
            rfl
          · intro G4 s6 hD
            have ef : (cs.map fun e => some (V.int (m.idxOf e : Nat))).filterMap id = iL (cs.map fun j => m.idxOf j) := by
              unfold iL
              rw [List.map_map, List.filterMap_map, ← List.filterMap_eq_map]
              rfl
            rw [ef] at hD
            refine ⟨D0, _, rfl, .inl ⟨SqL.of hD, fun p5 np5 => ?_⟩⟩
            have s7 := Same.new (o := .tup (iL (cs.map fun j => m.idxOf j))) np5
            have h7 : (upd G4 p5 (.tup (iL (cs.map fun j => m.idxOf j)))) p5 = some (.tup (iL (cs.map fun j => m.idxOf j))) := upd_same
            generalize upd G4 p5 (.tup (iL (cs.map fun j => m.idxOf j))) = G5 at s7 h7 ⊢
            refine ⟨(by show 3 ≤ sizeLine; omega), fun p6 np6 => ⟨l, zs, _, rfl, rfl, ?_, by omega, ?_⟩⟩
            · rw [upd_ne (ne_of_none ((s6.trans s7) _ _ hl) np6)]
              exact (s6.trans s7) _ _ hl
            · have s8 := Same.new (o := .tup [V.str "word", .str w, .ref p5]) np6
              refine done ((s6.trans s7).trans s8) ?_
              exact .tup (SqT.of upd_same) (.cons (.str _) (.cons (.str _) (.cons (.tup (SqT.of (s8 _ _ h7)) (of_ints _) (by unfold iD; rw [List.length_map, List.length_map]; omega)) .nil))) (by simp)
        | F e =>
          rw [hg] at ryG done clc
          obtain ⟨c0, ws, rfl, hc0, hws, _⟩ := ryG.tupd'
          obtain ⟨w1, w2, rfl, q1, q2⟩ := hws.pair
          cases q1
          cases q2
          have em := clc e (List.mem_singleton.mpr rfl)
          refine ⟨_, rfl, c0, _, (0 : Int), _, rfl, rfl, hc0, atI_nat (j := 0) rfl, rfl, _, rfl, ?_⟩
          rw [str_dec, decide_eq_false (by decide +kernel : ¬ ("fun" : Str) = "word")]
          refine iteF ⟨_, rfl, .inl ⟨rfl, _, SqL.of hl⟩, _, rfl, c0, _, (0 : Int), _, rfl, rfl, hc0, atI_nat (j := 0) rfl, _, rfl, .inl ⟨rfl, _, SqL.of hfG⟩, _, rfl, c0, _, (1 : Int), _, rfl, rfl, hc0, atI_nat (j := 1) rfl, f0, iL m, .int (e : Nat), m.idxOf e, .int (e : Nat), rfl, rfl, SqL.of hfG, rfl, flat_iLk m, whr em, eqV_int e, first, (by show 2 ≤ sizeLine; omega), fun p6 np6 => ⟨l, zs, _, rfl, rfl, ?_, by omega, ?_⟩⟩
          · rw [upd_ne (ne_of_none hl np6)]
            exact hl
          · have s8 := Same.new (o := .tup [V.str "fun", .int (m.idxOf e : Nat)]) np6
            refine done s8 ?_
            exact .tup (SqT.of upd_same) (.cons (.str _) (.cons (.int _) .nil)) (by simp)
        | V e =>
          rw [hg] at ryG done clc
          obtain ⟨c0, ws, rfl, hc0, hws, _⟩ := ryG.tupd'
          obtain ⟨w1, w2, rfl, q1, q2⟩ := hws.pair
          cases q1
          cases q2
          have em := clc e (List.mem_singleton.mpr rfl)
          refine ⟨_, rfl, c0, _, (0 : Int), _, rfl, rfl, hc0, atI_nat (j := 0) rfl, rfl, _, rfl, ?_⟩
          rw [str_dec, decide_eq_false (by decide +kernel : ¬ ("var" : Str) = "word")]
          refine iteF ⟨_, rfl, .inl ⟨rfl, _, SqL.of hl⟩, _, rfl, c0, _, (0 : Int), _, rfl, rfl, hc0, atI_nat (j := 0) rfl, _, rfl, .inl ⟨rfl, _, SqL.of hfG⟩, _, rfl, c0, _, (1 : Int), _, rfl, rfl, hc0, atI_nat (j := 1) rfl, f0, iL m, .int (e : Nat), m.idxOf e, .int (e : Nat), rfl, rfl, SqL.of hfG, rfl, flat_iLk m, whr em, eqV_int e, first, (by show 2 ≤ sizeLine; omega), fun p6 np6 => ⟨l, zs, _, rfl, rfl, ?_, by omega, ?_⟩⟩
          · rw [upd_ne (ne_of_none hl np6)]
            exact hl
          · have s8 := Same.new (o := .tup [V.str "var", .int (m.idxOf e : Nat)]) np6
            refine done s8 ?_
            exact .tup (SqT.of upd_same) (.cons (.str _) (.cons (.int _) .nil)) (by simp)
      · rintro σ G ⟨g4, g5, zs, rfl, sG, hl, rz⟩
        have lil : (iL m).length = (ren ns m).length := by unfold iL; rw [List.length_map, ren_len]
        rw [lil, List.take_length] at rz
        exact ⟨_, rfl, q m l zs G ⟨fw0, ndm, ltm⟩ (sG1.trans sG) nlH hl rz⟩
    | cons x st =>
      have es : iL (x :: st).reverse = iL st.reverse ++ [V.int (x : Nat)] := by
        unfold iL
        rw [List.reverse_cons, List.map_append]
        rfl
      have hx := lts x List.mem_cons_self
      rw [show (!(x :: st).reverse.isEmpty) = true by simp]
      rw [es] at hw1
      refine iteT ⟨fun σ2 G2 => ∃ (m2 st2 : List Nat), 4 * (ns.length - m2.length) + st2.length < 4 * (ns.length - m.length) + (x :: st).length ∧ ∃ (g3 : Option V), σ2 = [some u, some (.ref f0), some (.ref w0), g3, none, none, none] ∧ Same H G2 ∧ G2 f0 = some (.lst (iL m2)) ∧ G2 w0 = some (.lst (iL st2.reverse)) ∧ m2.Nodup ∧ (∀ j ∈ m2, j < ns.length) ∧ (∀ j ∈ st2, j < ns.length) ∧ st2.length ≤ 3 * m2.length + 1 ∧ ∀ o, FW (kd ns) m2 st2 o → FW (kd ns) [] [0] o, ?_, ?_⟩
      · rintro σ2 G2 ⟨m2, st2, l2, g3, rest⟩
        exact ⟨_, l2, g3, m2, st2, rfl, rest⟩
      refine ⟨_, rfl, .inl ⟨rfl, _, SqL.of hw1⟩, w0, _, .int (x : Nat), rfl, rfl, hw1, by simp, ?_⟩
      rw [List.dropLast_concat]
      have sG2 : Same H (upd G1 w0 (.lst (iL st.reverse))) := jr_same.put sG1 nw0
      have hf2 : (upd G1 w0 (.lst (iL st.reverse))) f0 = some (.lst (iL m)) := by rw [upd_ne fw]; exact hf1
      have hw2 : (upd G1 w0 (.lst (iL st.reverse))) w0 = some (.lst (iL st.reverse)) := upd_same
      generalize upd G1 w0 (.lst (iL st.reverse)) = G2 at sG2 hf2 hw2 ⊢
      refine ⟨_, rfl, _, rfl, f0, iL m, rfl, .inl (SqL.of hf2), rfl, flat_iLk m, ?_⟩
      rw [if_pos rfl, inV_iL]
      rw [List.length_cons] at l3 ⊢
      by_cases hm : x ∈ m
      · rw [decide_eq_true hm]
        exact ⟨_, rfl, iteF ⟨m, st, by omega, _, rfl, sG2, hf2, hw2, ndm, ltm, (fun j hj => lts j (List.mem_cons_of_mem _ hj)), by omega, fun o h => fwo o (.old hm h)⟩⟩
      · rw [decide_eq_false hm]
        have nd2 : (m ++ [x]).Nodup := List.nodup_append.mpr ⟨ndm, by simp, fun a ha b hb => by
          rw [List.mem_singleton.mp hb]
          exact fun z => hm (z ▸ ha)⟩
        have lt2 : ∀ j ∈ m ++ [x], j < ns.length := fun j hj => by
          rcases List.mem_append.mp hj with hj | hj
          · exact ltm j hj
          · rw [List.mem_singleton.mp hj]; exact hx
        have lm2 := nd_len' nd2 lt2
        rw [List.length_append, List.length_singleton] at lm2
        have lim : (iL m).length = m.length := List.length_map ..
        refine ⟨_, rfl, iteT ⟨_, rfl, .inl ⟨rfl, _, SqL.of hf2⟩, .int (x : Nat), rfl, f0, iL m, _, rfl, rfl, hf2, by omega, ?_⟩⟩
        have sG3 : Same H (upd G2 f0 (.lst (iL m ++ [V.int (x : Nat)]))) := jr_same.put sG2 nf
        have hf3 : (upd G2 f0 (.lst (iL m ++ [V.int (x : Nat)]))) f0 = some (.lst (iL (m ++ [x]))) := by
          rw [upd_same]
          unfold iL
          rw [List.map_append]
          rfl
        have hw3 : (upd G2 f0 (.lst (iL m ++ [V.int (x : Nat)]))) w0 = some (.lst (iL st.reverse)) := by rw [upd_ne (Ne.symm fw)]; exact hw2
        generalize upd G2 f0 (.lst (iL m ++ [V.int (x : Nat)])) = G3 at sG3 hf3 hw3 ⊢
        have hat := nAt_get hx
        have kdx : kd ns x = gk (nAt ns x) := kd_at hat
        have gr := gk_rng (hg _ (List.mem_of_getElem? hat))
        refine ⟨_, rfl, .inl ⟨rfl, _, SqL.of hw3⟩, ?_⟩
        refine ⟨_, rfl, _, rfl, (hu.same sG3).ix hx fun y ry => ⟨y, nAt ns x, rfl, ry, fun p G4 s4 np hp => ?_⟩⟩
        refine ⟨p, _, rfl, SqL.of hp, fun r nr => ?_⟩
        have s5 := Same.new (o := .lst (iL (gk (nAt ns x))).reverse) nr
        have hr5 : (upd G4 r (.lst (iL (gk (nAt ns x))).reverse)) r = some (.lst (iL (gk (nAt ns x))).reverse) := upd_same
        generalize upd G4 r (.lst (iL (gk (nAt ns x))).reverse) = G5 at s5 hr5 ⊢
        have s35 := s4.trans s5
        refine ⟨w0, r, _, _, rfl, rfl, s35 _ _ hw3, hr5, ?_, ?_⟩
        · have e1 : (iL st.reverse).length = st.length := by unfold iL; rw [List.length_map, List.length_reverse]
          have e2 : (iL (gk (nAt ns x))).reverse.length = (gk (nAt ns x)).length := by rw [List.length_reverse]; exact List.length_map ..
          have g1 := gr.1
          omega
        refine ⟨m ++ [x], gk (nAt ns x) ++ st, ?_, _, rfl, jr_same.put (sG3.trans s35) nw0, by rw [upd_ne fw]; exact s35 _ _ hf3, ?_, nd2, lt2, fun j hj => ?_, ?_, fun o h => fwo o (.new hm (by rw [kdx]; exact h))⟩
        · simp only [List.length_append, List.length_singleton]
          have g1 := gr.1
          omega
        · rw [upd_same]
          unfold iL
          rw [List.reverse_append, List.map_append, List.map_reverse (l := gk (nAt ns x))]
        · rcases List.mem_append.mp hj with hj | hj
          · exact gr.2 j hj
          · exact lts j (List.mem_cons_of_mem _ hj)
        · simp only [List.length_append, List.length_singleton]
          have g1 := gr.1
          omega
end
end Sl

set_option Elab.async false
set_option linter.all false
set_option maxRecDepth 100000
set_option maxHeartbeats 400000
/-! ## len(graph) -/
namespace Sl
open PySem PySem.Spec PyProof.Rows L2
abbrev sGLen : Stmt := inClass (topT 31) 15
theorem scGLen : FnScope ["self"] ["self"] (defScope sGLen) := ⟨rfl, rfl, rfl, by decide +kernel, rfl, by decide +kernel, by decide +kernel⟩
section
variable {P : Program} {w : World} {K : PySem.W.Frag} {mg : Str → Option Value} {base : Heap} {C : Addr} {fWh fBe fNm fKd fWk fRw fPo fNd fAn : Addr} {dWh dBe dNm dKd dWk dRw dPo dNd dAn : FuncData}
variable {fPa fIn fNe fSc fWa fPt fNu : Addr} {dPa dIn dNe dSc dWa dPt dNu : FuncData} {fC fCb fB : Addr} {dC dCb dB : FuncData}
def spGLen (K : PySem.W.Frag) (C : Addr) : Sp := fun vs H Q _ => ∃ (g : Addr) (ns : List GN) (R S : List (List Nat)), vs = [.ref g] ∧ GrAt K C H g ns R S ∧ Q (.int (ns.length : Nat)) H
theorem ok_gLen (B : Bt mg) {f : Addr} {fd : FuncData} (F : Fun K "__len__" "Graph.__len__" sGLen f fd) (L : Gr K mg C) : FnOk P w K mg base CX0 1 f fd ["self"] (spGLen K C) := by
  refine F.ok scGLen (fun vs H Q E h => ?_) (fun cdv A outer s H vs Q E hr h => ?_)
  · obtain ⟨g, ns, R, S, rfl, _⟩ := h
    rfl
  · obtain ⟨g, ns, R, S, rfl, gr, q⟩ := h
    --DL
    refine ⟨_, (pss_one (ps_ret (pe_callB call_len_seq (by rfl) B.len PySem.boot_len (pa_cons (pe_fld (pv 0) rfl) pa_nil)))), ?_⟩
    --EL
    obtain ⟨dx, pR, pS, vN, hx, rv, _⟩ := gr.ex
    obtain ⟨a0, xs, rfl, hs, hxs, _⟩ := rv.tupd'
    have lx : xs.length = ns.length := by rw [hxs.length, List.length_map]
    refine ⟨_, rfl, g, C, dx, _, _, rfl, hx, L.cl, L.nN, gr_N, a0, xs, rfl, .inr hs, ?_⟩
    rw [lx]
    exact q
end
end Sl

set_option Elab.async false
set_option linter.all false
set_option maxRecDepth 100000
set_option maxHeartbeats 400000
/-! ## Graph.nodes -/
namespace Sl
open PySem PySem.Spec PyProof.Rows L2
abbrev sGNodes : Stmt := inClass (topT 31) 2
theorem scGNodes : FnScope ["self"] ["self"] (defScope sGNodes) := ⟨rfl, rfl, rfl, by decide +kernel, rfl, by decide +kernel, by decide +kernel⟩
section
variable {P : Program} {w : World} {K : PySem.W.Frag} {mg : Str → Option Value} {base : Heap} {C : Addr} {fWh fBe fNm fKd fWk fRw fPo fNd fAn : Addr} {dWh dBe dNm dKd dWk dRw dPo dNd dAn : FuncData}
variable {fPa fIn fNe fSc fWa fPt fNu : Addr} {dPa dIn dNe dSc dWa dPt dNu : FuncData} {fC fCb fB : Addr} {dC dCb dB : FuncData}
def spGNodes (K : PySem.W.Frag) (C : Addr) : Sp := fun vs H Q _ => ∃ (g : Addr) (ns : List GN) (R S : List (List Nat)), vs = [.ref g] ∧ GrAt K C H g ns R S ∧ ∀ v, Rdd K H v (.tup (ns.map ndD)) → Q v H
theorem ok_gNodes {f : Addr} {fd : FuncData} (F : Fun K "nodes" "Graph.nodes" sGNodes f fd) (L : Gr K mg C) : FnOk P w K mg base CX0 1 f fd ["self"] (spGNodes K C) := by
  refine F.ok scGNodes (fun vs H Q E h => ?_) (fun cdv A outer s H vs Q E hr h => ?_)
  · obtain ⟨g, ns, R, S, rfl, _⟩ := h
    rfl
  · obtain ⟨g, ns, R, S, rfl, gr, q⟩ := h
    --DN
    refine ⟨_, (pss_one (ps_ret (pe_fld (pv 0) rfl))), ?_⟩
    --EN
    obtain ⟨dx, pR, pS, vN, hx, rv, _⟩ := gr.ex
    exact ⟨_, rfl, g, C, dx, _, _, rfl, hx, L.cl, L.nN, gr_N, q vN rv⟩
end
end Sl

set_option Elab.async false
set_option linter.all false
set_option maxRecDepth 100000
set_option maxHeartbeats 400000
/-! ## Graph.scope -/
namespace Sl
open PySem PySem.Spec PyProof.Rows L2
section
variable {P : Program} {w : World} {K : PySem.W.Frag} {mg : Str → Option Value} {base : Heap} {C : Addr} {fWh fBe fNm fKd fWk fRw fPo fNd fAn : Addr} {dWh dBe dNm dKd dWk dRw dPo dNd dAn : FuncData}
theorem ok_gScope (N : Gn K mg fWh fBe fNm fKd fWk fRw fPo fNd fAn dWh dBe dNm dKd dWk dRw dPo dNd dAn) (Bi' : Bi mg) (B : Bt mg) (L : Gr K mg C) {f fC fCb : Addr} {fd fdC fdCb : FuncData} (F : Fun K "scope" "Graph.scope" sGScope f fd) (Ck : Me K C "check" "Graph.check" sGCheck ["self", "node"] fC fdC)
    (FCb : Fun K "check_below" "check_below" sCheckB fCb fdCb) (bCb : Binds K fdCb ["value", "limit"] []) (gCb : mg "check_below" = some (.ref fCb)) : FnOk P w K mg base CX0 5 f fd ["self", "node"] (spGRow K C fun _ S => S) := by
  have GK : FnOk P w K mg base CX0 4 fC fdC ["self", "node"] (spGCheck K C) := ok_gCheck N Bi' B L Ck.F FCb bCb gCb
  refine F.ok scGScope (fun vs H Q E h => ?_) (fun cdv A outer s H vs Q E hr h => ?_)
  · obtain ⟨x, i, ns, R, S, row, rfl, _⟩ := h
    rfl
  · obtain ⟨x, i, ns, R, S, row, rfl, gr, hrow, hi, q⟩ := h
    obtain ⟨dx, pR, pS, vN, hx, rv, aR, aS⟩ := gr.ex
    --DS
    refine ⟨_, (pss_cons (ps_expr (pe_meth (pv 0) L.cl Ck.M GK hr Ck.b .nil pass0 (pa_cons (pv 1) pa_nil)))
        (pss_one (ps_ret (pe_ix ix_list (pe_fld (pv 0) rfl) (pv 1) (fun _ _ => rfl))))), ?_⟩
    --ES
    obtain ⟨ys, hys, rys⟩ := aS
    obtain ⟨y, hy, ry⟩ := rys.at (i := i) (d := .tup (iD row)) (by rw [List.getElem?_map]; exact congrArg (Option.map _) hrow)
    refine ⟨_, rfl, x, dx, _, rfl, hx, gr_no (by decide +kernel) (by decide +kernel) (by decide +kernel), _, rfl, x, i, ns, R, S, rfl, gr, hi, ?_⟩
    exact ⟨_, rfl, x, C, dx, _, _, rfl, hx, L.cl, L.nS, gr_S, _, rfl, pS, ys, ((i : Nat) : Int), y, rfl, rfl, SqL.of hys, atI_nat hy, q y ry⟩
end
end Sl

set_option Elab.async false
set_option linter.all false
set_option maxRecDepth 100000
set_option maxHeartbeats 400000
/-! ## _law_judged_right -/
namespace Sl
open PySem PySem.Spec PyProof.Rows L2 L2H HotX
/-- a class method that may raise -/
structure Ucx (P : Program) (w : World) (K : PySem.W.Frag) (mg : Str → Option Value) (base : Heap) (C : Addr) (x m : Str) (n : Nat) (sp : Sp) where
  f : Addr
  p : Addr
  mc : Value
  g : mg x = some (.ref C)
  rd : ClX.CRead K C mc
  cm : ClX.CMet K C mc m p f
  G : FnR P w K mg base (L2N.CX P w) n f sp
theorem ren_ownA {ns : List GN} {o : List Nat} (har : arB ns = true) (nd : o.Nodup) (lt : ∀ i ∈ o, i < ns.length) (cl : ∀ i ∈ o, ∀ j ∈ nums (nAt ns i), j ∈ o) : Own (ren ns o) := fun v f hv => by
  have hvl := (List.getElem?_eq_some_iff.mp hv).1
  rw [ren_len] at hvl
  have ha := List.getElem?_eq_getElem hvl
  obtain ⟨b, hb, e⟩ := ren_var cl ha hv
  have hat := nAt_get (lt _ (List.mem_of_getElem? ha))
  rw [e] at hat
  unfold arB at har
  rw [Bool.and_eq_true] at har
  have h1 : (match ns[b]? with | some g => g.isF | none => false) = true := List.all_eq_true.mp har.1 _ (List.mem_of_getElem? hat)
  have hbl := lt b (List.mem_of_getElem? hb)
  rw [nAt_get hbl] at h1
  have h2 := ren_at (ns := ns) hb
  cases hg : nAt ns b with
  | W _ _ => rw [hg] at h1; cases h1
  | V _ => rw [hg] at h1; cases h1
  | F c =>
    rw [hg] at h2
    exact ⟨_, h2⟩
abbrev sLJudged : Stmt := topT 44
theorem scLJudged : FnScope ["_law_nodes", "_law_graph", "_law_scopes_here", "_law_at"] ["_law_nodes"] (defScope sLJudged) := ⟨rfl, rfl, rfl, by decide +kernel, rfl, by decide +kernel, by decide +kernel⟩
section
variable {P : Program} {w : World} {K : PySem.W.Frag} {mg : Str → Option Value} {base : Heap} {C CG : Addr}
def spLJudged (K : PySem.W.Frag) : Sp := fun vs H Q _ => ∃ (u : V) (ns : List GN), vs = [u] ∧ Rdd K H u (.tup (ns.map ndD)) ∧ (∀ g ∈ ns, Rng ns.length g) ∧ 0 < ns.length ∧ ns.length ≤ 60 ∧ ∀ H', Same H H' → Q (.bl true) H'
open Classical in
theorem ok_lJudged (B : Bt mg) (L : Gr K mg C) (RG : Rz K mg "InvalidGraph" CG) (UIg : Uf P w K mg base "_law_is_graph" ["_law_nodes"] 3 (spLIsG K)) (UIh : Uh P w K mg base "_law_is_graph" ["_law_nodes"] 3 (spLIsG K)) (UWd : Uf P w K mg base "_law_walked" ["_law_nodes"] 2 (spLWalked K)) (ULs : Uf P w K mg base "_law_scopes" ["_law_nodes"] 3 (spLScopes K))
    (UOf : Ucx P w K mg base C "Graph" "of" 8 (spGOfX K C CG)) (UNd : Up P w K mg base C "nodes" 1 (spGNodes K C)) (USp : Um P w K mg base C "scope" ["self", "node"] 5 (spGRow K C fun _ S => S)) (ULn : Um P w K mg base C "__len__" ["self"] 1 (spGLen K C))
    {f : Addr} {fd : FuncData} (F : Fun K "_law_judged_right" "_law_judged_right" sLJudged f fd) : FnOk P w K mg base CX0 11 f fd ["_law_nodes"] (spLJudged K) := by
  refine F.ok scLJudged (fun vs H Q E h => ?_) (fun cdv A outer s H vs Q E hr h => ?_)
  · obtain ⟨u, ns, rfl, _⟩ := h
    rfl
  · obtain ⟨u, ns, rfl, hu, rng, pos, hn, q⟩ := h
    have sl := sizeLine_eq
    have h2 := hr.mono (by decide : 2 ≤ 10)
    have h3 := hr.mono (by decide : 3 ≤ 10)
    have h5 := hr.mono (by decide : 5 ≤ 10)
    have h8 := hr.mono (by decide : 8 ≤ 10)
    refine ⟨_, (pss_cons (ps_try_onlyX (tb := fun W => tAsg (tCMethS C (spGOfX K C CG) (WE W) (tC (.ref C)) (tCons (tVar 0) tNil)) (gName 1)) (ts := fun a cls d => tRet (tNotV (tCallS (spLIsG K) (fun _ => E0) (tCons (tVar 0) tNil)))) (Wout := fun _ _ _ _ => False) rfl rfl ⟨rfl, by decide, Or.inl RG.g⟩ (fun _ => PassesOwnAt.never) takes0
      (fun W pn xe tk _ _ => pss_one (ps_set (i := 1) scLJudged.nd rfl (Or.inr rfl) (by exact (pe_cmethS (pe_glob (v := .ref C) (by rfl) UOf.g rfl) UOf.rd UOf.cm UOf.G h8 (fun σ => L2N.passAt tk σ) (pa_cons (pv 0) pa_nil)))))
      (fun a oe cls d pn _ _ _ hot => pss_one (ps_ret (by exact (pe_not (pe_callH UIh.H ⟨h3.dp, h3.un⟩ hot (by rfl) UIh.g UIh.kp UIh.b (fun _ => passAt0) (pa_cons (pv 0) pa_nil))))))) 
        (pss_cons (ps_if (PW.pt (pw_or (pt_not (pt_val (pe_call UIg.G h3 (by rfl) UIg.g UIg.kp UIg.b .nil pass0 (pa_cons (pv 0) pa_nil)))) (pw_or1 (pt_cmpR (op_neD hr.units) (pe_callTy call_list_of (by rfl) B.list (by decide +kernel) (pa_cons (pe_prop (pv 1) L.cl UNd.M UNd.G h2 UNd.b .nil pass0 rfl) pa_nil)) (pe_call UWd.G h2 (by rfl) UWd.g UWd.kp UWd.b .nil pass0 (pa_cons (pe_callTy call_list_of (by rfl) B.list (by decide +kernel) (pa_cons (pv 0) pa_nil)) pa_nil)) (nomark _)))))
          (pss_one (ps_ret pe_bl)) pss_nil)
        (pss_cons (ps_set (i := 2) scLJudged.nd rfl (Or.inl rfl) (pe_call ULs.G h3 (by rfl) ULs.g ULs.kp ULs.b .nil pass0 (pa_cons (pe_callTy call_list_of (by rfl) B.list (by decide +kernel) (pa_cons (pe_prop (pv 1) L.cl UNd.M UNd.G h2 UNd.b .nil pass0 rfl) pa_nil)) pa_nil)))
        (pss_one (ps_ret (pe_cmpR (op_eqD hr.units) (pe_lc (own := [("_law_at", 3)]) (g := gName 3) (tt := tYes) (te := tMeth C "scope" (spGRow K C fun _ S => S) [] E0 (tVar 1) (tCons (tVar 3) tNil)) rfl scLJudged.nd (pi_range1 (by rfl) B.range (pa_cons (pe_callB (call_lenOwn ULn.M.at_ ULn.M.fn ULn.R h2 pass0) (by rfl) B.len PySem.boot_len (pa_cons (pv 1) pa_nil)) pa_nil)) (blkOk_by (own := [("_law_at", 3)]) (N := ["_law_nodes", "_law_graph", "_law_scopes_here", "_law_at"]) (sc := defScope sLJudged) (by decide +kernel)) (fun _ _ _ _ _ => pg_name (i := 3) scLJudged.nd rfl (Or.inl rfl)) (fun _ _ _ _ _ => pts_nil) (fun _ _ _ _ _ => by exact (pe_meth (pv 1) L.cl USp.M USp.G h5 USp.b .nil pass0 (pa_cons (pv 3) pa_nil)))) (pv 2) (nomark _))))))), ?_⟩
    have lim : ∀ {k : Nat}, k ≤ 100 → k ≤ sizeLine := fun h => by omega
    refine ⟨rfl, _, rfl, u, ns, rfl, hu, pos, by omega, rng, fun gv o R S x H1 fw nd lt s1 gr => ?_, fun ng H1 s1 => ?_⟩
    case _ =>
      have lno : o.length ≤ 60 := Nat.le_trans (nd_len' nd lt) hn
      have cl := walk_closed gv.free fw lt
      have hl := ren_len (ns := ns) (o := o)
      obtain ⟨dx, pR, pS, vN, hx, rv, aR, aS⟩ := gr.ex
      refine ⟨_, rfl, u, ns, rfl, Rdd.ex (.same s1) _ hu, rng, pos, by omega, fun H2 s2 => ⟨_, rfl, ?_⟩⟩
      rw [decide_eq_true gv]
      have gr2 := gr.same s2
      refine iteF ⟨_, rfl, x, dx, _, rfl, s2 _ _ hx, x, ren ns o, R, S, rfl, gr2, fun v rv2 => ?_⟩
      obtain ⟨a2, us2, rfl, hq2, hx2, _⟩ := id rv2.tupd'
      refine ⟨a2, us2, rfl, .inr hq2, fun p3 n3 => ?_⟩
      have s3 := Same.new (o := .lst us2) n3
      have h3 : (upd H2 p3 (.lst us2)) p3 = some (.lst us2) := upd_same
      have r3 := RddAll.ex (.same s3) _ hx2
      generalize upd H2 p3 (.lst us2) = H3 at s3 h3 r3 ⊢
      have s03 := (s1.trans s2).trans s3
      obtain ⟨a0, us0, rfl, hq0, hx0, _⟩ := id hu.tupd'
      refine ⟨_, rfl, a0, us0, rfl, .inr ((Ex.same s03).tup hq0), fun p4 n4 => ?_⟩
      have s4 := Same.new (o := .lst us0) n4
      have h4 : (upd H3 p4 (.lst us0)) p4 = some (.lst us0) := upd_same
      have r4 := RddAll.ex (.same (s03.trans s4)) _ hx0
      generalize upd H3 p4 (.lst us0) = H4 at s4 h4 r4 ⊢
      refine ⟨_, ns, rfl, ⟨p4, us0, rfl, .inl h4, r4⟩, rng, by omega, pos, fun o2 fw2 => walk_closed gv.free fw2 (fw2.lt (kd_rng rng) (fun i hi => by cases hi) fun i hi => by rw [List.mem_singleton.mp hi]; exact pos), fun o2 p5 zs H5 cp s5 n5 h5 r5 => ?_⟩
      have eo : o2 = o := cp.fw.det fw
      subst eo
      have rng2 := ren_rng lt cl rng
      have ⟨sh, ev⟩ := nds_lst rng2
      have s35 := s4.trans s5
      refine ⟨_, _, .lst (SqL.of (s35 _ _ h3)) (nds_dp (RddAll.ex (.same s35) _ r3)), .lst (SqL.of h5) (nds_dp r5), sh, sh, _, rfl, ?_⟩
      rw [ev]
      have gr5 := (gr2.same s3).same s35
      have s05 := s03.trans s35
      have hx5 := (s2.trans (s3.trans s35)) _ _ hx
      -- scopes
      refine iteF ⟨_, rfl, x, dx, _, rfl, hx5, x, ren ns o2, R, S, rfl, gr5, fun v rv5 => ?_⟩
      obtain ⟨a6, us6, rfl, hq6, hx6, _⟩ := id rv5.tupd'
      refine ⟨a6, us6, rfl, .inr hq6, fun p6 n6 => ?_⟩
      have s6 := Same.new (o := .lst us6) n6
      have h6 : (upd H5 p6 (.lst us6)) p6 = some (.lst us6) := upd_same
      have r6 := RddAll.ex (.same s6) _ hx6
      generalize upd H5 p6 (.lst us6) = H6 at s6 h6 r6 ⊢
      refine ⟨p6, us6, ren ns o2, R, S, rfl, SqL.of h6, r6, rng2, ren_ownA gv.ar nd lt cl, ren_wo gv.free fw nd lt, by omega, gr.rows, gr.sc, fun p7 H7 s7 n7 rw7 => ?_⟩
      have s57 := s6.trans s7
      have gr7 := gr5.same s57
      have hx7 := s57 _ _ hx5
      have lS : S.length = (ren ns o2).length := by
        rw [gr.sc.len, gr.rows.len]
      dsimp only
      rw [gName_at]
      refine tret_raw (top_raw ?_)
      refine ⟨_, rfl, x, dx, _, rfl, hx7, x, ren ns o2, R, S, rfl, gr7, _, rfl, (by omega), (((ren ns o2).length : Nat) : Int), rfl, by omega, by omega, fun D0 nD => ?_⟩
      refine lcJR (K := K) (J := Same) (Pd := fun i d => ∃ r, S[i]? = some r ∧ d = .tup (iD r)) jr_same (Same.refl _) (by omega) nD ?_ ?_
      · intro i G Q2 Z2 hi s8 hQ
        have hr8 : S[i]? = some (S[i]'(by omega)) := List.getElem?_eq_getElem _
        refine ⟨rfl, iteT (B := Z2 G) ⟨_, rfl, x, dx, _, rfl, s8 _ _ hx7, gr_no (by decide +kernel) (by decide +kernel) (by decide +kernel), _, rfl, x, i, ren ns o2, R, S, _, (by rw [Int.zero_add]; rfl), gr7.same s8, hr8, by omega, fun v r8 => hQ v G _ (Same.refl _) r8 ⟨_, hr8, rfl⟩⟩⟩
      · intro G ys ds s8 hD rz lz hds
        have eds : ds = S.map fun r => .tup (iD r) := by
          apply List.ext_getElem?
          intro k
          rw [List.getElem?_map]
          cases hk : ds[k]? with
          | none =>
            have := List.getElem?_eq_none_iff.mp hk
            rw [List.getElem?_eq_none (by omega)]
            rfl
          | some z =>
            obtain ⟨r, hr, rfl⟩ := hds k z hk
            rw [hr]
            rfl
        subst eds
        have l1 : LsD K G D0 (S.map fun r => .tup (iD r)) := ⟨ys, hD, rz⟩
        have l2 : LsD K G p7 (S.map fun r => .tup (iD r)) := LsD.same (G := H7) (by obtain ⟨ys, h1, h2⟩ := rw7; exact ⟨ys, h1, h2⟩) s8
        obtain ⟨d, e, e1, e2, e3, e4, e5⟩ := eqv_dats l1 l2 (dats_of fun d hd => by
          obtain ⟨r, _, rfl⟩ := List.mem_map.mp hd
          exact iD_dats r) (Nat.le_trans (deps_le (n := 1) fun d hd => by
          obtain ⟨r, _, rfl⟩ := List.mem_map.mp hd
          have := iD_deps r
          show D.deps (iD r) + 1 ≤ 1
          omega) (by decide))
        refine ⟨_, rfl, d, e, e1, e2, e3, e4, ?_⟩
        rw [e5]
        exact q G ((s05.trans s57).trans s8)
    case _ =>
      refine ⟨true, RG.e, fun _ a _ => ?_, fun z => Bool.noConfusion z⟩
      refine ⟨_, rfl, u, ns, rfl, Rdd.ex (.same s1) _ hu, rng, pos, by omega, fun H2 s2 => ⟨_, rfl, ?_⟩⟩
      rw [decide_eq_false ng]
      exact q H2 (s1.trans s2)
end
end Sl

set_option Elab.async false
set_option linter.all false
set_option maxRecDepth 100000
set_option maxHeartbeats 400000
/-! ## a stream that moves (k11: apart from mixed) -/
namespace Sl
open PySem PySem.Spec PyProof.Rows L2
/-- the stream at a may move; all else stays -/
def Jst (a : Addr) (G G' : Hp) : Prop := Stm a G ∧ Stm a G' ∧ Off a G G'
theorem jr_st (a : Addr) : Jr (Jst a) := by
  refine ⟨fun ⟨h1, _, o1⟩ ⟨_, h2, o2⟩ => ⟨h1, h2, o1.trans o2⟩, fun ⟨h1, h2, o⟩ => o.ex' h1 h2, fun {G G' D o} ⟨h1, h2, of⟩ n => ?_, fun {G0 G G' D l} ⟨h1, _, _⟩ n ⟨_, _, of⟩ e => ?_⟩
  · have ne : a ≠ D := fun z => by
      obtain ⟨l, e⟩ := h1.lst
      rw [z, n] at e
      cases e
    refine ⟨h1, ?_, fun b x hb e => ?_⟩
    · obtain ⟨g, m, c, e, r⟩ := h2
      exact ⟨g, m, c, by rw [upd_ne ne]; exact e, r⟩
    · rw [upd_ne (ne_of_none e n)]
      exact of b x hb e
  · refine of _ _ (fun z => ?_) e
    obtain ⟨l, e2⟩ := h1.lst
    rw [← z, n] at e2
    cases e2
theorem Jst.refl {a : Addr} {G : Hp} (h : Stm a G) : Jst a G G := ⟨h, h, .refl a G⟩
theorem Jst.of {a : Addr} {G G' : Hp} (h : Stm a G) (o : Off a G G') (h' : Stm a G') : Jst a G G' := ⟨h, h', o⟩
theorem Jst.same {a : Addr} {G G' : Hp} (h : Stm a G) (s : Same G G') : Jst a G G' := ⟨h, h.same s, .same s⟩
theorem Jst.trans {a : Addr} {G G1 G2 : Hp} (x : Jst a G G1) (y : Jst a G1 G2) : Jst a G G2 := (jr_st a).tr x y
section
variable {K : PySem.W.Frag}
theorem Stm.ne {a p : Addr} {H : Hp} (h : Stm a H) (n : H p = none) : p ≠ a := fun z => by
  obtain ⟨l, e⟩ := h.lst
  rw [← z, n] at e
  cases e
/-- a draw from a display -/
theorem pick_gv {σ : L2.St} {G H : Hp} {ta : TA} {ds : List D} {a : Addr} {Q : VK} (h : Gva K σ G ta ds) (s : Same G H) (hs : Stm a H) (h1 : 1 ≤ ds.length) (h2 : ds.length ≤ 1000) (q : ∀ x d H', d ∈ ds → Jst a H H' → Rdd K H' x d → Q x H') :
    tLst ta σ H (fun x H1 => spPick K [V.ref a, x] H1 Q E0) :=
  lst_gv h s (by omega) fun p vs H1 np s1 hp r => by
    have len := r.length
    refine ⟨a, p, vs, rfl, hs.same s1, hs.ne np, SqL.of hp, by omega, by omega, fun i x H2 hx ho hs2 => ?_⟩
    obtain ⟨d, hd, rd⟩ := r.get hx
    have j : Jst a H1 H2 := ⟨hs.same s1, hs2, ho⟩
    exact q x d H2 (List.mem_of_getElem? hd) ((Jst.same hs s1).trans j) (Rdd.ex ((jr_st a).ex j) _ rd)
end
end Sl

set_option Elab.async false
set_option linter.all false
set_option maxRecDepth 100000
set_option maxHeartbeats 400000
/-! ## _law_drawn_nodes -/
namespace Sl
open PySem PySem.Spec PyProof.Rows L2
abbrev sLDrawn : Stmt := topT 43
theorem scLDrawn : FnScope ["_law_stream_here", "_law_size", "_law_found", "_law_at", "_law_way", "_law_one", "_law_other"] ["_law_stream_here"] (defScope sLDrawn) := ⟨rfl, rfl, rfl, by decide +kernel, rfl, by decide +kernel, by decide +kernel⟩
theorem off_put {a p : Addr} {H G : Hp} {o : HO} (h : Off a H G) (n : H p = none) : Off a H (upd G p o) := fun b x hb e => by
  rw [upd_ne (ne_of_none e n)]
  exact h b x hb e
section
variable {P : Program} {w : World} {K : PySem.W.Frag} {mg : Str → Option Value} {base : Heap}
/-- i nodes below n stand in the list at p -/
structure Fl (K : PySem.W.Frag) (a p : Addr) (n : Nat) (H : Hp) (i : Nat) (G : Hp) (zs : List V) (ns : List GN) : Prop where
  off : Off a H G
  sa : Stm a H
  fr : H p = none
  st : Stm a G
  hat : G p = some (.lst zs)
  r : RddAll K G zs (ns.map ndD)
  len : ns.length = i
  rg : ∀ g ∈ ns, Rng n g
theorem Fl.app {a p : Addr} {n i : Nat} {H G G2 : Hp} {zs : List V} {ns : List GN} {v : V} {g : GN} (F : Fl K a p n H i G zs ns) (j : Jst a G G2) (rv : Rdd K G2 v (ndD g)) (rg : Rng n g) : Fl K a p n H (i + 1) (upd G2 p (.lst (zs ++ [v]))) (zs ++ [v]) (ns ++ [g]) := by
  have ne : p ≠ a := F.sa.ne F.fr
  have hp2 := j.2.2 _ _ ne F.hat
  have xA : Ex G2 (upd G2 p (.lst (zs ++ [v]))) := (Off.put (a := p)).ex hp2 upd_same
  refine ⟨off_put (F.off.trans j.2.2) F.fr, F.sa, F.fr, j.2.1.off ne.symm .put, upd_same, ?_, by rw [List.length_append, F.len]; rfl, fun x hx => ?_⟩
  · rw [List.map_append]
    exact ((RddAll.ex ((jr_st a).ex j) _ F.r).app (.cons rv .nil)) |> RddAll.ex xA _
  · rcases List.mem_append.mp hx with h | h
    · exact F.rg x h
    · rw [List.mem_singleton.mp h]
      exact rg
theorem Fl.held {a p : Addr} {n i : Nat} {H G G2 : Hp} {zs : List V} {ns : List GN} (F : Fl K a p n H i G zs ns) (j : Jst a G G2) : G2 p = some (.lst zs) := j.2.2 _ _ (F.sa.ne F.fr) F.hat
theorem Fl.move {a p : Addr} {n i : Nat} {H G G2 : Hp} {zs : List V} {ns : List GN} (F : Fl K a p n H i G zs ns) (j : Jst a G G2) : Fl K a p n H i G2 zs ns := ⟨F.off.trans j.2.2, F.sa, F.fr, j.2.1, F.held j, RddAll.ex ((jr_st a).ex j) _ F.r, F.len, F.rg⟩
/-- found.append(e) -/
theorem Fl.tapp {te : TE} {D0 : Ends} {σ : L2.St} {j : Nat} {a p : Addr} {n i : Nat} {H G : Hp} {zs : List V} {ns : List GN} (F : Fl K a p n H i G zs ns) (hv : σ[j]? = some (some (.ref p))) (hz : zs.length ≤ 1000)
    (h : ∀ Q : VK, (∀ v g G', Jst a G G' → Rdd K G' v (ndD g) → Rng n g → Q v G') → te σ G Q)
    (q : ∀ G' zs' ns', Fl K a p n H (i + 1) G' zs' ns' → D0.nx σ G') : tDrop (tBM K "list" rAppend (tVar j) (tCons te tNil)) D0 σ G := by
  have sl := sizeLine_eq
  refine ⟨_, hv, .inl ⟨rfl, _, SqL.of F.hat⟩, ?_⟩
  refine h _ fun v g G' j rv rg => ?_
  exact ⟨p, zs, v, rfl, rfl, F.held j, by omega, q _ _ _ (F.app j rv rg)⟩
theorem Fl.gv {te : TE} {σ : L2.St} {a p : Addr} {n i : Nat} {H G : Hp} {zs : List V} {ns : List GN} {g : GN} (F : Fl K a p n H i G zs ns) (h : Gv K σ G te (ndD g)) (rg : Rng n g) : ∀ Q : VK, (∀ v g G', Jst a G G' → Rdd K G' v (ndD g) → Rng n g → Q v G') → te σ G Q := fun Q q =>
  h G Q (Same.refl _) fun v G' s r => q v g G' (.same F.st s) r rg
def spLDrawn (K : PySem.W.Frag) : Sp := fun vs H Q _ => ∃ (a : Addr), vs = [.ref a] ∧ Stm a H ∧ ∀ v (ns : List GN) H', (∀ g ∈ ns, Rng ns.length g) → 0 < ns.length → ns.length ≤ 5 → Jst a H H' → Rdd K H' v (.tup (ns.map ndD)) → Q v H'
theorem ok_lDrawn (B : Bt mg) (UDr : Uf P w K mg base "_law_draw" ["_law_stream_here", "_law_high"] 1 spDraw) (UPk : Uf P w K mg base "_law_pick" ["_law_stream_here", "_law_items"] 2 (spPick K)) {f : Addr} {fd : FuncData} (F : Fun K "_law_drawn_nodes" "_law_drawn_nodes" sLDrawn f fd) : FnOk P w K mg base CX0 3 f fd ["_law_stream_here"] (spLDrawn K) := by
  refine F.ok scLDrawn (fun vs H Q E h => ?_) (fun cdv A outer s H vs Q E hr h => ?_)
  · obtain ⟨a, rfl, _⟩ := h
    rfl
  · obtain ⟨a, rfl, hs, q⟩ := h
    have sl := sizeLine_eq
    have h1 := hr.mono (by decide : 1 ≤ 2)
    have h2 := hr
    refine ⟨_, (pss_cons (ps_par (i := 1) (j := 2) (by rfl) scLDrawn.nd rfl rfl (by decide) rfl rfl (pa_cons (pe_op op_add pe_int (pe_call UDr.G h1 (by rfl) UDr.g UDr.kp UDr.b .nil pass0 (pa_cons (pv 0) (pa_cons pe_int pa_nil)))) (pa_cons (pe_lst pa_nil) pa_nil)) (by rfl))
        (pss_cons (ps_for PassesOwn.never rfl (pi_range1 (by rfl) B.range (pa_cons (pv 1) pa_nil)) (pg_name (i := 3) scLDrawn.nd rfl (Or.inl rfl))
          (pss_cons (ps_par3 (i := 4) (j := 5) (l := 6) (by rfl) scLDrawn.nd rfl rfl rfl (by decide) (by decide) (by decide) rfl rfl rfl (pa_cons (pe_call UDr.G h1 (by rfl) UDr.g UDr.kp UDr.b .nil pass0 (pa_cons (pv 0) (pa_cons pe_int pa_nil))) (pa_cons (pe_call UDr.G h1 (by rfl) UDr.g UDr.kp UDr.b .nil pass0 (pa_cons (pv 0) (pa_cons (pv 1) pa_nil))) (pa_cons (pe_call UDr.G h1 (by rfl) UDr.g UDr.kp UDr.b .nil pass0 (pa_cons (pv 0) (pa_cons (pv 1) pa_nil))) pa_nil))) (by rfl))
        (pss_one (ps_if (PW.pt (pw_or (pt_cmpR op_lt (pv 4) pe_int (nomark _)) (pw_or1 (PW.pt (pw_and (pt_cmpR op_eq (pv 3) pe_int (nomark _)) (pw_and1 (pt_cmpR op_eq (pv 4) pe_int (nomark _))))))))
          (pss_one (ps_expr (pe_bm PySem.F.plainAttrs_list PySem.F.slot_list_append PySem.F.type_list_append mt_append (pv 2) (pa_cons (pe_tup (pa_cons pe_str (pa_cons (pv 5) pa_nil))) pa_nil)))) (pss_one (ps_if (pt_cmpR op_lt (pv 4) pe_int (nomark _))
          (pss_one (ps_expr (pe_bm PySem.F.plainAttrs_list PySem.F.slot_list_append PySem.F.type_list_append mt_append (pv 2) (pa_cons (pe_tup (pa_cons pe_str (pa_cons (pe_call UPk.G h2 (by rfl) UPk.g UPk.kp UPk.b .nil pass0 (pa_cons (pv 0) (pa_cons (pe_lst (pa_cons pe_str (pa_cons pe_str pa_nil))) pa_nil))) (pa_cons (pe_tup (pa_cons (pv 5) (pa_cons (pv 6) pa_nil))) pa_nil)))) pa_nil)))) (pss_one (ps_if (pt_cmpR op_eq (pv 4) pe_int (nomark _))
          (pss_one (ps_expr (pe_bm PySem.F.plainAttrs_list PySem.F.slot_list_append PySem.F.type_list_append mt_append (pv 2) (pa_cons (pe_tup (pa_cons pe_str (pa_cons pe_str (pa_cons (pe_tup (pa_cons (pv 5) pa_nil)) pa_nil)))) pa_nil)))) (pss_one (ps_expr (pe_bm PySem.F.plainAttrs_list PySem.F.slot_list_append PySem.F.type_list_append mt_append (pv 2) (pa_cons (pe_ifExp (pt_cmpR op_eq (pv 4) pe_int (nomark _)) (pe_tup (pa_cons pe_str (pa_cons pe_str (pa_cons (pe_tup pa_nil) pa_nil)))) (pe_tup (pa_cons pe_str (pa_cons (pv 5) pa_nil)))) pa_nil))))))))))))
        (pss_one (ps_ret (pe_callTy call_tuple_of (by rfl) B.tuple (by decide +kernel) (pa_cons (pv 2) pa_nil)))))), ?_⟩
    refine ⟨_, rfl, a, 5, rfl, hs, by decide, small_big (by decide), fun r H1 r0 r1 o1 hs1 => ?_⟩
    obtain ⟨m, rfl⟩ : ∃ m : Nat, r = (m : Nat) := ⟨r.toNat, by omega⟩
    refine ⟨_, _, rfl, rfl, (by show 0 ≤ sizeLine; omega), fun p np => ⟨_, _, rfl, ?_⟩⟩
    have s2 := Same.new (o := .lst []) np
    have hp : (upd H1 p (.lst [])) p = some (.lst []) := upd_same
    have nH : H p = none := by
      cases h : H p with
      | none => rfl
      | some o =>
        have := o1 p o (hs1.ne np) h
        rw [np] at this
        cases this
    generalize upd H1 p (.lst []) = H2 at s2 hp ⊢
    have e1 : (fun i j : Int => V.int (i + j)) 1 ((m : Nat) : Int) = V.int ((m + 1 : Nat) : Int) := congrArg V.int (by omega)
    rw [e1]
    have f0 : Fl K a p (m + 1) H 0 H2 [] [] := ⟨o1.trans (.same s2), hs, nH, hs1.same s2, hp, .nil, rfl, (fun g h => by cases h)⟩
    refine ⟨_, rfl, _, rfl, by omega, by omega, for_range (n := m + 1) (fun i σ G => ∃ (g3 g4 g5 g6 : Option V) (zs : List V) (ns : List GN), σ = [some (.ref a), some (.int ((m + 1 : Nat) : Int)), some (.ref p), g3, g4, g5, g6] ∧ Fl K a p (m + 1) H i G zs ns) ⟨_, _, _, _, _, _, rfl, f0⟩ ?_ ?_⟩
    · rintro i σ G hi ⟨g3, g4, g5, g6, zs, ns, rfl, F⟩
      have mb : (((m + 1 : Nat) : Int)).natAbs < 2 ^ 2000 := small_big (by omega)
      refine ⟨_, rfl, a, 7, rfl, F.st, by decide, small_big (by decide), fun w0 G1 w1 w2 o1 hs1 => ⟨_, rfl, _, rfl, a, _, rfl, hs1, by omega, mb, fun x0 G2 x1 x2 o2 hs2 => ⟨_, rfl, _, rfl, a, _, rfl, hs2, by omega, mb, fun y0 G3 y1 y2 o3 hs3 => ⟨_, _, _, rfl, ?_⟩⟩⟩⟩
      obtain ⟨wy, rfl⟩ : ∃ m : Nat, w0 = (m : Nat) := ⟨w0.toNat, by omega⟩
      obtain ⟨x, rfl⟩ : ∃ m : Nat, x0 = (m : Nat) := ⟨x0.toNat, by omega⟩
      obtain ⟨y, rfl⟩ : ∃ m : Nat, y0 = (m : Nat) := ⟨y0.toNat, by omega⟩
      have hx : x < m + 1 := by omega
      have hy : y < m + 1 := by omega
      have F3 := F.move (((Jst.of F.st o1 hs1).trans (.of hs1 o2 hs2)).trans (.of hs2 o3 hs3))
      clear F o1 o2 o3 hs1 hs2 w1 x1 y1
      have lz : zs.length ≤ 10 := by rw [F3.r.length, List.length_map, F3.len]; omega
      have go : ∀ {b : Bool} {A B : Prop}, (b = true → A) → (b = false → B) → if b = true then A else B := fun {b A B} h1 h2 => by
        cases b with
        | true => exact h1 rfl
        | false => exact h2 rfl
      refine tif_gt (gt_or (gt_cmpI (K := K) (g := fun i j => decide (i < j)) (gv_var rfl (.int _)) (gv_int _)) fun _ => gt_and (gt_eqI (K := K) (gv_var rfl (.int _)) (gv_int _)) fun _ => gt_eqI (K := K) (gv_var rfl (.int _)) (gv_int _)) fun G4 s4 => ?_
      have F4 := F3.move (.same F3.st s4)
      refine go (fun _ => ?_) (fun _ => ?_)
      · exact F4.tapp rfl (by omega) (F4.gv (g := .F x) (gv_tup (gva_cons (gv_str _) (gva_cons (gv_var rfl (.int _)) gva_nil))) hx) fun G5 zs5 ns5 F5 => ⟨_, _, _, _, _, _, rfl, F5⟩
      refine tif_gt (gt_cmpI (K := K) (g := fun i j => decide (i < j)) (gv_var rfl (.int _)) (gv_int _)) fun G5 s5 => ?_
      have F5 := F4.move (.same F4.st s5)
      refine go (fun _ => ?_) (fun _ => ?_)
      · refine F5.tapp rfl (by omega) (fun Q q => ⟨.ref a, rfl, pick_gv (G := G5) (gva_cons (gv_str "f") (gva_cons (gv_str "at") gva_nil)) (Same.refl _) F5.st (by decide) (by decide) fun v d G6 hd j6 rd => ?_⟩) fun G7 zs7 ns7 F7 => ⟨_, _, _, _, _, _, rfl, F7⟩
        obtain ⟨z, rfl, hz⟩ : ∃ z, d = .str z ∧ nmOk z = true := by
          simp only [List.mem_cons, List.not_mem_nil, or_false] at hd
          rcases hd with rfl | rfl
          · exact ⟨_, rfl, by decide +kernel⟩
          · exact ⟨_, rfl, by decide +kernel⟩
        cases rd
        refine ⟨_, rfl, _, rfl, (by show 2 ≤ sizeLine; omega), fun t1 n1 => ⟨(by show 3 ≤ sizeLine; omega), fun t2 n2 => ?_⟩⟩
        have s6 := Same.new (o := .tup [V.int (x : Nat), .int (y : Nat)]) n1
        have h6 : (upd G6 t1 (.tup [V.int (x : Nat), .int (y : Nat)])) t1 = some (.tup [V.int (x : Nat), .int (y : Nat)]) := upd_same
        generalize upd G6 t1 (.tup [V.int (x : Nat), .int (y : Nat)]) = G7 at s6 h6 n2 ⊢
        have s7 := Same.new (o := .tup [V.str "word", .str z, .ref t1]) n2
        refine q _ (.W z [x, y]) _ (j6.trans (.same j6.2.1 (s6.trans s7))) ?_ ⟨hz, (by show 2 ≤ 3; omega), fun c hc => ?_⟩
        · exact tup_val upd_same (.cons (.str _) (.cons (.str _) (.cons (tup_val (s7 _ _ h6) (.cons (.int _) (.cons (.int _) .nil)) (by show 2 ≤ 100000; omega)) .nil))) (by show 3 ≤ 100000; omega)
        · simp only [List.mem_cons, List.not_mem_nil, or_false] at hc
          rcases hc with rfl | rfl
          · exact hx
          · exact hy
      refine tif_gt (gt_eqI (K := K) (gv_var rfl (.int _)) (gv_int _)) fun G6 s6 => ?_
      have F6 := F5.move (.same F5.st s6)
      refine go (fun _ => ?_) (fun _ => ?_)
      · exact F6.tapp rfl (by omega) (F6.gv (g := .W "f" [x]) (gv_tup (gva_cons (gv_str _) (gva_cons (gv_str _) (gva_cons (gv_tup (ds := iD [x]) (gva_cons (gv_var rfl (.int _)) gva_nil) (by show 1 ≤ 100000; omega)) gva_nil)))) ⟨by decide +kernel, (by show 1 ≤ 3; omega), fun c hc => by rw [List.mem_singleton.mp hc]; exact hx⟩) fun G7 zs7 ns7 F7 => ⟨_, _, _, _, _, _, rfl, F7⟩
      · by_cases e : wy = 5
        · exact F6.tapp rfl (by omega) (F6.gv (g := .W "k" []) (gv_ifE (b := true) (by rw [show true = decide ((wy : Int) = 5) by rw [e]; rfl]; exact gt_eqI (K := K) (gv_var rfl (.int _)) (gv_int _)) (fun _ => gv_tup (gva_cons (gv_str _) (gva_cons (gv_str _) (gva_cons (gv_tup gva_nil) gva_nil)))) (fun h => by cases h)) ⟨by decide +kernel, by decide, fun c hc => by cases hc⟩) fun G7 zs7 ns7 F7 => ⟨_, _, _, _, _, _, rfl, F7⟩
        · exact F6.tapp rfl (by omega) (F6.gv (g := .V x) (gv_ifE (b := false) (by rw [show false = decide ((wy : Int) = 5) by rw [decide_eq_false (by omega)]]; exact gt_eqI (K := K) (gv_var rfl (.int _)) (gv_int _)) (fun h => by cases h) (fun _ => gv_tup (gva_cons (gv_str _) (gva_cons (gv_var rfl (.int _)) gva_nil)))) hx) fun G7 zs7 ns7 F7 => ⟨_, _, _, _, _, _, rfl, F7⟩
    · rintro σ G ⟨g3, g4, g5, g6, zs, ns, rfl, F⟩
      have le := F.len
      refine ⟨_, rfl, p, zs, rfl, .inl ⟨SqL.of F.hat, fun t nt => ?_⟩⟩
      have st := Same.new (o := .tup zs) nt
      exact q _ ns _ (fun g hg => by rw [le]; exact F.rg g hg) (by omega) (by omega) ⟨hs, F.st.same st, F.off.trans (.same st)⟩ (tup_val upd_same (RddAll.ex (.same st) _ F.r) (by rw [List.length_map]; omega))
end
end Sl

set_option Elab.async false
set_option linter.all false
set_option maxRecDepth 100000
set_option maxHeartbeats 400000
/-! ## law -/
namespace Sl
open PySem PySem.Spec PyProof.Rows L2
abbrev sLaw11 : Stmt := topT 45
theorem scLaw11 : FnScope ["_law_script", "_law_at", "_law_stream_here", "_law_turn", "_law_some", "_law_one", "_law_other"] ["_law_script"] (defScope sLaw11) := ⟨rfl, rfl, rfl, by decide +kernel, rfl, by decide +kernel, by decide +kernel⟩
def nsA : List GN := [.W "k" [], .F 0, .V 0, .W "f" [0], .W "at" [0, 0]]
def nsB : List GN := [.F 1, .V 1, .W "f" [1], .W "at" [0, 1], .W "at" [1, 0]]
def nsC : List GN := [.W "f" [1, 1, 0], .W "f" [0, 1, 1]]
section
variable {K : PySem.W.Frag} {σ : L2.St} {G : Hp}
theorem gF {k : Nat} : Gv K σ G (tTup (tCons (tC (.str "fun")) (tCons (tC (.int (k : Nat))) tNil))) (ndD (.F k)) := gv_tup (gva_cons (gv_str _) (gva_cons (gv_int _) gva_nil)) (by show 2 ≤ 100000; omega)
theorem gV {k : Nat} : Gv K σ G (tTup (tCons (tC (.str "var")) (tCons (tC (.int (k : Nat))) tNil))) (ndD (.V k)) := gv_tup (gva_cons (gv_str _) (gva_cons (gv_int _) gva_nil)) (by show 2 ≤ 100000; omega)
theorem gW {x : Str} {cs : List Nat} {ta : TA} (h : Gva K σ G ta (iD cs)) (hz : cs.length ≤ 3) : Gv K σ G (tTup (tCons (tC (.str "word")) (tCons (tC (.str x)) (tCons (tTup ta) tNil)))) (ndD (.W x cs)) :=
  gv_tup (gva_cons (gv_str _) (gva_cons (gv_str _) (gva_cons (gv_tup h (by unfold iD; rw [List.length_map]; omega)) gva_nil))) (by show 3 ≤ 100000; omega)
theorem gI {k : Nat} {ks : List Nat} {ta : TA} (h : Gva K σ G ta (iD ks)) : Gva K σ G (tCons (tC (.int (k : Nat))) ta) (iD (k :: ks)) := gva_cons (gv_int _) h
theorem gI0 : Gva K σ G tNil (iD []) := gva_nil
theorem gt_judged {ta : TA} {gs : List GN} {E : XK} (h : Gva K σ G ta (gs.map ndD)) (rng : ∀ g ∈ gs, Rng gs.length g) (pos : 0 < gs.length) (big : gs.length ≤ 60) : Gt σ G (tNot (tB (tCall (spLJudged K) [] E (tCons (tTup ta) tNil)))) false := fun H Q s q => by
  show tTup ta σ H fun v H1 => spLJudged K [v] H1 (fun x H2 => ∃ c, x = .bl c ∧ Q (!c) H2) E
  exact gv_tup h (by rw [List.length_map]; omega) H _ s fun v H1 s1 r1 => ⟨v, gs, rfl, r1, rng, pos, big, fun H2 s2 => ⟨true, rfl, q H2 (s1.trans s2)⟩⟩
/-- a comprehension that keeps nothing -/
theorem tlc_none {i j : Nat} {p : Addr} {ds : List D} {tt : TT} {te : TE} {vs : List Nat} {H : Hp} {Q : VK} (hi : σ[i]? = some (some (.ref p))) (l : LsD K H p ds) (hz : ds.length ≤ 100000) (hw : ∀ x : V, wipe ((wipe σ vs).set j (some x)) vs = wipe σ vs)
    (he : ∀ (G : Hp) (x : V) (d : D), Same H G → d ∈ ds → Rdd K G x d → Gt ((wipe σ vs).set j (some x)) G tt false)
    (q : ∀ D0 H', H D0 = none → Same H H' → H' D0 = some (.lst []) → Q (.ref D0) H') : tLc (iList K (tVar i)) (gName j) tt te vs σ H Q := by
  obtain ⟨us, hp, hus⟩ := l
  have lu := hus.length
  refine ⟨_, hi, p, rfl, ⟨us, SqL.of hp⟩, fun D0 nD => ?_⟩
  refine lcL (K := K) (us.map fun _ => none) (by rw [List.length_map]) (by omega) (SqL.of hp) nD ?_ ?_
  · intro k x G Q2 Z2 hx s hQ hZ
    obtain ⟨d, hd, rx⟩ := hus.get hx
    exact ⟨hw x, he G x d s (List.mem_of_getElem? hd) (Rdd.ex (.same s) _ rx) G _ (Same.refl _) fun G2 s2 => iteF (hZ G2 (by rw [List.getElem?_map, hx]; rfl) s2)⟩
  · intro G s hD
    have e : (us.map fun _ => (none : Option V)).filterMap id = [] := by
      rw [List.filterMap_map]
      simp
    rw [e] at hD
    exact q D0 G nD s hD
end
section
variable {P : Program} {w : World} {K : PySem.W.Frag} {mg : Str → Option Value} {base : Heap} {fLa : Addr} {dLa : FuncData}
def spLaw (K : PySem.W.Frag) : Sp := fun vs H Q _ => ∃ (a : Addr) (ns : List Int), vs = [.ref a] ∧ SqL K H a (ns.map V.int) ∧ ns.length ≤ 100000 ∧ ∀ H', Q (.bl true) H'
theorem ok_law (FLa : Fun K "law" "law" sLaw11 fLa dLa) (B : Bt mg) (USr : Uf P w K mg base "_law_stream" ["_law_script", "_law_at"] 1 (spStream K)) (UDn : Uf P w K mg base "_law_drawn_nodes" ["_law_stream_here"] 3 (spLDrawn K)) (UJr : Uf P w K mg base "_law_judged_right" ["_law_nodes"] 11 (spLJudged K)) :
    FnG P w K mg base (L2.CX P w) 13 fLa dLa ["_law_script"] (spLaw K) := by
  refine okG FLa scLaw11 (fun vs H Q E h => ?_) (fun cdv A outer s H vs Q E hG hr h => ?_)
  · obtain ⟨a, _, rfl, _⟩ := h
    rfl
  · obtain ⟨a, ns, rfl, hs, hz, q⟩ := h
    have sl := sizeLine_eq
    have h1 := hr.mono (by decide : 1 ≤ 12)
    have h3 := hr.mono (by decide : 3 ≤ 12)
    have h11 := hr.mono (by decide : 11 ≤ 12)
    refine ⟨_, (PSs.nox (pss_cons (ps_for PassesOwn.never rfl (pi_range1 (by rfl) B.range (pa_cons (pe_callB (call_max2 rfl) (by rfl) B.max (by decide +kernel) (pa_cons pe_int (pa_cons (pe_callB (call_min2 rfl) (by rfl) B.min (by decide +kernel) (pa_cons pe_int (pa_cons (pe_callB call_len_seq (by rfl) B.len PySem.boot_len (pa_cons (pv 0) pa_nil)) pa_nil))) pa_nil))) pa_nil)) (pg_name (i := 1) scLaw11.nd rfl (Or.inl rfl))
          (pss_cons (ps_set (i := 2) scLaw11.nd rfl (Or.inl rfl) (pe_call USr.G h1 (by rfl) USr.g USr.kp USr.b .nil pass0 (pa_cons (pv 0) (pa_cons (pv 1) pa_nil))))
        (pss_one (ps_for PassesOwn.never rfl (pi_range1 (by rfl) B.range (pa_cons pe_int pa_nil)) (pg_name (i := 3) scLaw11.nd rfl (Or.inl rfl))
          (pss_one (ps_if (pt_not (pt_val (pe_call UJr.G h11 (by rfl) UJr.g UJr.kp UJr.b .nil pass0 (pa_cons (pe_call UDn.G h3 (by rfl) UDn.g UDn.kp UDn.b .nil pass0 (pa_cons (pv 2) pa_nil)) pa_nil))))
          (pss_one (ps_ret pe_bl)) pss_nil))))))
        (pss_cons (ps_set (i := 4) scLaw11.nd rfl (Or.inl rfl) (pe_lst (pa_cons (pe_tup (pa_cons pe_str (pa_cons pe_str (pa_cons (pe_tup pa_nil) pa_nil)))) (pa_cons (pe_tup (pa_cons pe_str (pa_cons pe_int pa_nil))) (pa_cons (pe_tup (pa_cons pe_str (pa_cons pe_int pa_nil))) (pa_cons (pe_tup (pa_cons pe_str (pa_cons pe_str (pa_cons (pe_tup (pa_cons pe_int pa_nil)) pa_nil)))) (pa_cons (pe_tup (pa_cons pe_str (pa_cons pe_str (pa_cons (pe_tup (pa_cons pe_int (pa_cons pe_int pa_nil))) pa_nil)))) pa_nil)))))))
        (pss_cons (ps_if (pt_cmpR (op_neD hr.units) (pe_lc (own := [("_law_one", 5)]) (g := gName 5) (tt := tNot (tB (tCall (spLJudged K) [] E0 (tCons (tTup (tCons (tVar 5) tNil)) tNil)))) (te := tVar 5) rfl scLaw11.nd (pi_list (pv 4)) (blkOk_by (own := [("_law_one", 5)]) (N := ["_law_script", "_law_at", "_law_stream_here", "_law_turn", "_law_some", "_law_one", "_law_other"]) (sc := defScope sLaw11) (by decide +kernel)) (fun _ _ _ _ _ => pg_name (i := 5) scLaw11.nd rfl (Or.inl rfl)) (fun _ _ _ _ _ => pts_one (by exact (pt_not (pt_val (pe_call UJr.G h11 (by rfl) UJr.g UJr.kp UJr.b .nil pass0 (pa_cons (pe_tup (pa_cons (pv 5) pa_nil)) pa_nil)))))) (fun _ _ _ _ _ => by exact (pv 5))) (pe_lst pa_nil) (nomark _))
          (pss_one (ps_ret pe_bl)) pss_nil)
        (pss_cons (ps_set (i := 4) scLaw11.nd rfl (Or.inl rfl) (pe_op op_cat (pv 4) (pe_lst (pa_cons (pe_tup (pa_cons pe_str (pa_cons pe_int pa_nil))) (pa_cons (pe_tup (pa_cons pe_str (pa_cons pe_int pa_nil))) (pa_cons (pe_tup (pa_cons pe_str (pa_cons pe_str (pa_cons (pe_tup (pa_cons pe_int pa_nil)) pa_nil)))) (pa_cons (pe_tup (pa_cons pe_str (pa_cons pe_str (pa_cons (pe_tup (pa_cons pe_int (pa_cons pe_int pa_nil))) pa_nil)))) (pa_cons (pe_tup (pa_cons pe_str (pa_cons pe_str (pa_cons (pe_tup (pa_cons pe_int (pa_cons pe_int pa_nil))) pa_nil)))) pa_nil))))))))
        (pss_cons (ps_set (i := 4) scLaw11.nd rfl (Or.inl rfl) (pe_op op_cat (pv 4) (pe_lst (pa_cons (pe_tup (pa_cons pe_str (pa_cons pe_str (pa_cons (pe_tup (pa_cons pe_int (pa_cons pe_int (pa_cons pe_int pa_nil)))) pa_nil)))) (pa_cons (pe_tup (pa_cons pe_str (pa_cons pe_str (pa_cons (pe_tup (pa_cons pe_int (pa_cons pe_int (pa_cons pe_int pa_nil)))) pa_nil)))) pa_nil)))))
        (pss_cons (ps_for PassesOwn.never rfl (pi_list (pv 4)) (pg_name (i := 5) scLaw11.nd rfl (Or.inl rfl))
          (pss_one (ps_for PassesOwn.never rfl (pi_list (pv 4)) (pg_name (i := 6) scLaw11.nd rfl (Or.inl rfl))
          (pss_one (ps_if (pt_not (pt_val (pe_call UJr.G h11 (by rfl) UJr.g UJr.kp UJr.b .nil pass0 (pa_cons (pe_tup (pa_cons (pv 5) (pa_cons (pv 6) pa_nil))) pa_nil))))
          (pss_one (ps_ret pe_bl)) pss_nil)))))
        (pss_one (ps_ret pe_bl))))))))), ?_⟩
    refine ⟨.ref a, rfl, a, _, rfl, .inl hs, 6, _, rfl, 1, _, rfl, _, rfl, ?_⟩
    generalize ((List.map V.int ns).length : Int) = LL
    generalize hR : (if (if LL < 6 then LL else 6) > 1 then (if LL < 6 then LL else 6) else (1 : Int)) = RR
    have hR1 : 1 ≤ RR ∧ RR ≤ 6 := by
      rw [← hR]
      repeat' split
      all_goals omega
    refine ⟨by omega, by omega, for_range (n := RR.toNat) (fun i σ' H' => ∃ y1 y2 y3, σ' = [some (.ref a), y1, y2, y3, none, none, none] ∧ Same H H') ⟨none, none, none, rfl, Same.refl _⟩ ?_ ?_⟩
    · rintro i σ' H1 hi ⟨y1, y2, y3, rfl, s1⟩
      refine ⟨.ref a, rfl, .int (0 + (i : Int)), rfl, a, ns, i, by rw [Int.zero_add]; rfl, ?_, fun p H2 np s2 st2 => ?_⟩
      · rcases hs with (h | ⟨ob, h⟩) | h
        · exact .inl (.inl (s1 _ _ h))
        · exact .inl (.inr ⟨ob, s1 _ _ h⟩)
        · exact .inr h
      refine ⟨24, rfl, by decide, by decide, for_range (n := 24) (fun j σ' H' => ∃ y3, σ' = [some (.ref a), some (.int (0 + (i : Int))), some (.ref p), y3, none, none, none] ∧ Jst p H2 H') ⟨_, rfl, .refl st2⟩ ?_ ?_⟩
      · rintro j σ' H4 hj ⟨y3, rfl, j4⟩
        refine ⟨_, rfl, p, rfl, j4.2.1, fun v ms H5 rng pos big j5 rv => ?_⟩
        exact ⟨v, ms, rfl, rv, rng, pos, by omega, fun H6 s6 => ⟨true, rfl, iteF ⟨_, rfl, (j4.trans j5).trans (.same j5.2.1 s6)⟩⟩⟩
      · rintro σ' H4 ⟨y3, rfl, j4⟩
        exact ⟨_, _, _, rfl, fun b o e => j4.2.2 b o (ne_of_none e (none_of s1 np)) (s2 b o (s1 b o e))⟩
    rintro σ' H1 ⟨y1, y2, y3, rfl, s1⟩
    refine ts_lst (K := K) (es := nsA.map ndD) (gva_cons (gW gI0 (by decide)) (gva_cons gF (gva_cons gV (gva_cons (gW (gI gI0) (by decide)) (gva_cons (gW (gI (gI gI0)) (by decide)) gva_nil))))) (by decide) ?_
    intro p3 ws3 H3 n3 s3 h3 r3
    have rA : ∀ g ∈ nsA, Rng 1 g := fun g hg => by
      unfold nsA at hg
      simp only [List.mem_cons, List.not_mem_nil, or_false] at hg
      rcases hg with rfl | rfl | rfl | rfl | rfl
      · exact ⟨by decide +kernel, by decide, by decide⟩
      · exact (by decide : 0 < 1)
      · exact (by decide : 0 < 1)
      · exact ⟨by decide +kernel, by decide, by decide⟩
      · exact ⟨by decide +kernel, by decide, by decide⟩
    have rABC : ∀ g ∈ nsA ++ nsB ++ nsC, Rng 2 g := fun g hg => by
      unfold nsA nsB nsC at hg
      simp only [List.mem_append, List.mem_cons, List.not_mem_nil, or_false] at hg
      rcases hg with ((rfl | rfl | rfl | rfl | rfl) | (rfl | rfl | rfl | rfl | rfl)) | rfl | rfl
      · exact ⟨by decide +kernel, by decide, by decide⟩
      · exact (by decide : 0 < 2)
      · exact (by decide : 0 < 2)
      · exact ⟨by decide +kernel, by decide, by decide⟩
      · exact ⟨by decide +kernel, by decide, by decide⟩
      · exact (by decide : 1 < 2)
      · exact (by decide : 1 < 2)
      · exact ⟨by decide +kernel, by decide, by decide⟩
      · exact ⟨by decide +kernel, by decide, by decide⟩
      · exact ⟨by decide +kernel, by decide, by decide⟩
      · exact ⟨by decide +kernel, by decide, by decide⟩
      · exact ⟨by decide +kernel, by decide, by decide⟩
    have nodeAt : ∀ {l : List GN} {d : D}, d ∈ l.map ndD → ∃ g ∈ l, d = ndD g := fun h => by
      obtain ⟨g, hg, rfl⟩ := List.mem_map.mp h
      exact ⟨g, hg, rfl⟩
    refine sq_ (tif_gt (b := false) ?_ fun H4 s4 => iteF ?_)
    · intro H4 Q4 s4 q4
      refine ttest_raw ?_
      refine tlc_none (i := 4) (p := p3) (ds := nsA.map ndD) rfl (LsD.same (G := H3) ⟨ws3, h3, r3⟩ s4) (by decide) (fun _ => rfl) (fun G x d s hd rx => ?_) fun D0 H5 n5 s5 hD => ?_
      · obtain ⟨g, hg, rfl⟩ := nodeAt hd
        exact gt_judged (gs := [g]) (gva_cons (gv_var rfl rx) gva_nil) (fun z hz => by rw [List.mem_singleton.mp hz]; exact rA g hg) (by show 0 < 1; omega) (by show 1 ≤ 60; omega)
      · refine ⟨(by show 0 ≤ sizeLine; omega), fun e0 ne0 => ?_⟩
        have se := Same.new (o := .lst []) ne0
        exact eqI_nil (is := []) (se _ _ hD) upd_same ⟨_, rfl, q4 _ (s5.trans se)⟩
    have l3 : ws3.length = 5 := r3.length
    have h3' := s4 _ _ h3
    have r3' := RddAll.ex (.same s4) _ r3
    refine sq_ ⟨_, rfl, lst_gv (K := K) (ds := nsB.map ndD) (gva_cons gF (gva_cons gV (gva_cons (gW (gI gI0) (by decide)) (gva_cons (gW (gI (gI gI0)) (by decide)) (gva_cons (gW (gI (gI gI0)) (by decide)) gva_nil))))) (Same.refl _) (by decide) fun p5 ws5 H5 n5 s5 h5 r5 => ?_⟩
    have l5 : ws5.length = 5 := r5.length
    refine ⟨p3, p5, ws3, ws5, rfl, rfl, s5 _ _ h3', h5, by omega, fun p6 n6 => ?_⟩
    have s6 := Same.new (o := .lst (ws3 ++ ws5)) n6
    have h6 : (upd H5 p6 (.lst (ws3 ++ ws5))) p6 = some (.lst (ws3 ++ ws5)) := upd_same
    have r6 : RddAll K (upd H5 p6 (.lst (ws3 ++ ws5))) (ws3 ++ ws5) ((nsA ++ nsB).map ndD) := by
      rw [List.map_append]
      exact (RddAll.ex (.same (s5.trans s6)) _ r3').app (RddAll.ex (.same s6) _ r5)
    generalize upd H5 p6 (.lst (ws3 ++ ws5)) = H6 at s6 h6 r6 ⊢
    refine sq_ ⟨_, rfl, lst_gv (K := K) (ds := nsC.map ndD) (gva_cons (gW (gI (gI (gI gI0))) (by decide)) (gva_cons (gW (gI (gI (gI gI0))) (by decide)) gva_nil)) (Same.refl _) (by decide) fun p7 ws7 H7 n7 s7 h7 r7 => ?_⟩
    have l7 : ws7.length = 2 := r7.length
    refine ⟨p6, p7, ws3 ++ ws5, ws7, rfl, rfl, s7 _ _ h6, h7, by rw [List.length_append]; omega, fun p8 n8 => ?_⟩
    have s8 := Same.new (o := .lst (ws3 ++ ws5 ++ ws7)) n8
    have h8 : (upd H7 p8 (.lst (ws3 ++ ws5 ++ ws7))) p8 = some (.lst (ws3 ++ ws5 ++ ws7)) := upd_same
    have r8 : RddAll K (upd H7 p8 (.lst (ws3 ++ ws5 ++ ws7))) (ws3 ++ ws5 ++ ws7) ((nsA ++ nsB ++ nsC).map ndD) := by
      rw [List.map_append]
      exact (RddAll.ex (.same (s7.trans s8)) _ r6).app (RddAll.ex (.same s8) _ r7)
    generalize upd H7 p8 (.lst (ws3 ++ ws5 ++ ws7)) = H8 at s8 h8 r8 ⊢
    have big : (ws3 ++ ws5 ++ ws7).length = 12 := r8.length
    refine ⟨_, rfl, p8, rfl, ⟨_, SqL.of h8⟩, for_list (K := K) (xs := ws3 ++ ws5 ++ ws7) (fun i σ G => ∃ y5 y6, σ = [some (.ref a), y1, y2, y3, some (.ref p8), y5, y6] ∧ Same H8 G) ⟨_, _, rfl, Same.refl _⟩ ?_ ?_ ?_⟩
    · rintro i σ G _ ⟨y5, y6, rfl, sG⟩
      exact SqL.of (sG _ _ h8)
    · rintro i x σ G hx ⟨y5, y6, rfl, sG⟩
      obtain ⟨d, hd, rx⟩ := r8.get hx
      obtain ⟨g, hg, rfl⟩ := nodeAt (List.mem_of_getElem? hd)
      refine ⟨_, rfl, p8, rfl, ⟨_, SqL.of (sG _ _ h8)⟩, for_list (K := K) (xs := ws3 ++ ws5 ++ ws7) (fun j σ G => ∃ y6, σ = [some (.ref a), y1, y2, y3, some (.ref p8), some x, y6] ∧ Same H8 G) ⟨_, rfl, sG⟩ ?_ ?_ ?_⟩
      · rintro j σ G _ ⟨y6, rfl, sG⟩
        exact SqL.of (sG _ _ h8)
      · rintro j z σ G hz ⟨y6, rfl, sG⟩
        obtain ⟨e, he, rz⟩ := r8.get hz
        obtain ⟨k, hk, rfl⟩ := nodeAt (List.mem_of_getElem? he)
        refine tif_gt (b := false) (gt_judged (gs := [g, k]) (gva_cons (gv_var rfl (Rdd.ex (.same sG) _ rx)) (gva_cons (gv_var rfl (Rdd.ex (.same sG) _ rz)) gva_nil)) (fun m hm => ?_) (by show 0 < 2; omega) (by show 2 ≤ 60; omega)) fun G2 s2 => iteF ⟨_, rfl, sG.trans s2⟩
        rcases List.mem_cons.mp hm with rfl | hm
        · exact rABC _ hg
        · rw [List.mem_singleton.mp hm]
          exact rABC _ hk
      · rintro σ G ⟨y6, rfl, sG⟩
        exact ⟨_, _, rfl, sG⟩
    · rintro σ G ⟨y5, y6, rfl, sG⟩
      exact q G
end
end Sl

set_option Elab.async false
set_option linter.all false
set_option maxRecDepth 100000
set_option maxHeartbeats 2000000
namespace Sl
open PySem PySem.Spec PyProof.Rows L2

theorem all_mk {P : Program} {w : World} {K : PySem.W.Frag} {h : Heap} {mg : Str → Option Value} {fa : Addr} (X : K.In h) (G : h.Ns mainGlobals mg) (hfa : mg "law" = some (.ref fa))
    {fWh : Addr} {odWh anWh : Option Addr} {slWh : Array (Option Value)} {ocWh kVWh dcWh pmWh cdWh ctWh : Value}
    {fBe : Addr} {odBe anBe : Option Addr} {slBe : Array (Option Value)} {ocBe kVBe dcBe pmBe cdBe ctBe : Value}
    {fNm : Addr} {odNm anNm : Option Addr} {slNm : Array (Option Value)} {ocNm kVNm dcNm pmNm cdNm ctNm : Value}
    {fKd : Addr} {odKd anKd : Option Addr} {slKd : Array (Option Value)} {ocKd kVKd dcKd pmKd cdKd ctKd : Value}
    {fWk : Addr} {odWk anWk : Option Addr} {slWk : Array (Option Value)} {ocWk kVWk dcWk pmWk cdWk ctWk : Value}
    {fRw : Addr} {odRw anRw : Option Addr} {slRw : Array (Option Value)} {ocRw kVRw dcRw pmRw cdRw ctRw : Value}
    {fPo : Addr} {odPo anPo : Option Addr} {slPo : Array (Option Value)} {ocPo kVPo dcPo pmPo cdPo ctPo : Value}
    {fNd : Addr} {odNd anNd : Option Addr} {slNd : Array (Option Value)} {ocNd kVNd dcNd pmNd cdNd ctNd : Value}
    {fAn : Addr} {odAn anAn : Option Addr} {slAn : Array (Option Value)} {ocAn kVAn dcAn pmAn cdAn ctAn : Value}
    {fPr : Addr} {odPr anPr : Option Addr} {slPr : Array (Option Value)} {ocPr kVPr dcPr pmPr cdPr ctPr : Value}
    {fNn : Addr} {odNn anNn : Option Addr} {slNn : Array (Option Value)} {ocNn kVNn dcNn pmNn cdNn ctNn : Value}
    {fNe : Addr} {odNe anNe : Option Addr} {slNe : Array (Option Value)} {ocNe kVNe dcNe pmNe cdNe ctNe : Value}
    {fSc : Addr} {odSc anSc : Option Addr} {slSc : Array (Option Value)} {ocSc kVSc dcSc pmSc cdSc ctSc : Value}
    {fWa : Addr} {odWa anWa : Option Addr} {slWa : Array (Option Value)} {ocWa kVWa dcWa pmWa cdWa ctWa : Value}
    {fPt : Addr} {odPt anPt : Option Addr} {slPt : Array (Option Value)} {ocPt kVPt dcPt pmPt cdPt ctPt : Value}
    {fNu : Addr} {odNu anNu : Option Addr} {slNu : Array (Option Value)} {ocNu kVNu dcNu pmNu cdNu ctNu : Value}
    {fCb : Addr} {odCb anCb : Option Addr} {slCb : Array (Option Value)} {ocCb kVCb dcCb pmCb cdCb ctCb : Value}
    {fSt : Addr} {odSt anSt : Option Addr} {slSt : Array (Option Value)} {ocSt kVSt dcSt pmSt cdSt ctSt : Value}
    {fDr : Addr} {odDr anDr : Option Addr} {slDr : Array (Option Value)} {ocDr kVDr dcDr pmDr cdDr ctDr : Value}
    {fPk : Addr} {odPk anPk : Option Addr} {slPk : Array (Option Value)} {ocPk kVPk dcPk pmPk cdPk ctPk : Value}
    {fLB : Addr} {odLB anLB : Option Addr} {slLB : Array (Option Value)} {ocLB kVLB dcLB pmLB cdLB ctLB : Value}
    {fLW : Addr} {odLW anLW : Option Addr} {slLW : Array (Option Value)} {ocLW kVLW dcLW pmLW cdLW ctLW : Value}
    {fLN : Addr} {odLN anLN : Option Addr} {slLN : Array (Option Value)} {ocLN kVLN dcLN pmLN cdLN ctLN : Value}
    {fLS : Addr} {odLS anLS : Option Addr} {slLS : Array (Option Value)} {ocLS kVLS dcLS pmLS cdLS ctLS : Value}
    {fLSs : Addr} {odLSs anLSs : Option Addr} {slLSs : Array (Option Value)} {ocLSs kVLSs dcLSs pmLSs cdLSs ctLSs : Value}
    {fIO : Addr} {odIO anIO : Option Addr} {slIO : Array (Option Value)} {ocIO kVIO dcIO pmIO cdIO ctIO : Value}
    {fIG : Addr} {odIG anIG : Option Addr} {slIG : Array (Option Value)} {ocIG kVIG dcIG pmIG cdIG ctIG : Value}
    {fDN : Addr} {odDN anDN : Option Addr} {slDN : Array (Option Value)} {ocDN kVDN dcDN pmDN cdDN ctDN : Value}
    {fJR : Addr} {odJR anJR : Option Addr} {slJR : Array (Option Value)} {ocJR kVJR dcJR pmJR cdJR ctJR : Value}
    {fLa : Addr} {odLa anLa : Option Addr} {slLa : Array (Option Value)} {ocLa kVLa dcLa pmLa cdLa ctLa : Value}
    {fGI : Addr} {odGI anGI : Option Addr} {slGI : Array (Option Value)} {ocGI kVGI dcGI pmGI cdGI ctGI : Value}
    {fGS : Addr} {odGS anGS : Option Addr} {slGS : Array (Option Value)} {ocGS kVGS dcGS pmGS cdGS ctGS : Value}
    {fGC : Addr} {odGC anGC : Option Addr} {slGC : Array (Option Value)} {ocGC kVGC dcGC pmGC cdGC ctGC : Value}
    {fGL : Addr} {odGL anGL : Option Addr} {slGL : Array (Option Value)} {ocGL kVGL dcGL pmGL cdGL ctGL : Value}
    {fOf : Addr} {odOf anOf : Option Addr} {slOf : Array (Option Value)} {ocOf kVOf dcOf pmOf cdOf ctOf : Value}
    {fGp : Addr} {odGp anGp : Option Addr} {slGp : Array (Option Value)} {ocGp kVGp dcGp pmGp cdGp ctGp : Value}
    {CG : Addr}
    {vE vT vM : Int} {tE tT tM : Tok}
    {t1 t2 t3 : Tok} {aS : Addr} {ddS : Option Addr} {slS : Array (Option Value)} {nS : Nat}
    {CA : Addr}
    (nE : PySem.W.nsIn K mainGlobals "MAX_LETTERS" = some (some (.int vE tE)))
    (eE : vE = 8)
    (nT : PySem.W.nsIn K mainGlobals "MAX_TERMS" = some (some (.int vT tT)))
    (eT : vT = 3)
    (nM : PySem.W.nsIn K mainGlobals "MAX_NODES" = some (some (.int vM tM)))
    (eM : vM = 100)
    (aSW : PySem.W.nsIn K mainGlobals "SIGN_WORDS" = some (some (.ref aS)))
    (lSW : K.lookup aS = some ⟨.type "tuple", ddS, .seq #[.str "fun" t1, .str "let" t2, .str "in" t3] nS, slS⟩)
    (gxA : PySem.W.nsIn K mainGlobals "InvalidGraph" = some (some (.ref CA)))
    (qxA : PySem.W.excIn K CA [.type "ValueError", .type "Exception", .type "BaseException", .type "object"] "ValueError.__new__" = true)
    (kxA : PySem.W.keepIn K (.ref CA) = true)
    (bxA : PySem.W.subIn K (.ref CA) (.type "BaseException") = some true)
    (txA : PySem.W.typeIn K (.ref CA) = some (.type "type"))
    (ixA : PySem.W.isClsIn K CA = true)
    (sxA : PySem.W.subIn K (.ref CA) (.ref CA) = some true)
    (aWh_ : PySem.W.nsIn K mainGlobals "is_whole" = some (some (.ref fWh)))
    (aBe_ : PySem.W.nsIn K mainGlobals "is_below" = some (some (.ref fBe)))
    (aNm_ : PySem.W.nsIn K mainGlobals "is_name" = some (some (.ref fNm)))
    (aKd_ : PySem.W.nsIn K mainGlobals "children_of" = some (some (.ref fKd)))
    (aWk_ : PySem.W.nsIn K mainGlobals "with_children" = some (some (.ref fWk)))
    (aRw_ : PySem.W.nsIn K mainGlobals "_is_row" = some (some (.ref fRw)))
    (aPo_ : PySem.W.nsIn K mainGlobals "_is_pair_of" = some (some (.ref fPo)))
    (aNd_ : PySem.W.nsIn K mainGlobals "_is_node" = some (some (.ref fNd)))
    (aAn_ : PySem.W.nsIn K mainGlobals "are_nodes" = some (some (.ref fAn)))
    (aPr_ : PySem.W.nsIn K mainGlobals "parents_of" = some (some (.ref fPr)))
    (aNn_ : PySem.W.nsIn K mainGlobals "_in_need" = some (some (.ref fNn)))
    (aNe_ : PySem.W.nsIn K mainGlobals "needs_of" = some (some (.ref fNe)))
    (aSc_ : PySem.W.nsIn K mainGlobals "scopes_of" = some (some (.ref fSc)))
    (aWa_ : PySem.W.nsIn K mainGlobals "first_walk" = some (some (.ref fWa)))
    (aPt_ : PySem.W.nsIn K mainGlobals "pointed" = some (some (.ref fPt)))
    (aNu_ : PySem.W.nsIn K mainGlobals "numbered" = some (some (.ref fNu)))
    (aCb_ : PySem.W.nsIn K mainGlobals "check_below" = some (some (.ref fCb)))
    (aSt_ : PySem.W.nsIn K mainGlobals "_law_stream" = some (some (.ref fSt)))
    (aDr_ : PySem.W.nsIn K mainGlobals "_law_draw" = some (some (.ref fDr)))
    (aPk_ : PySem.W.nsIn K mainGlobals "_law_pick" = some (some (.ref fPk)))
    (aLB_ : PySem.W.nsIn K mainGlobals "_law_below" = some (some (.ref fLB)))
    (aLW_ : PySem.W.nsIn K mainGlobals "_law_walked" = some (some (.ref fLW)))
    (aLN_ : PySem.W.nsIn K mainGlobals "_law_needs" = some (some (.ref fLN)))
    (aLS_ : PySem.W.nsIn K mainGlobals "_law_scope" = some (some (.ref fLS)))
    (aLSs_ : PySem.W.nsIn K mainGlobals "_law_scopes" = some (some (.ref fLSs)))
    (aIO_ : PySem.W.nsIn K mainGlobals "_law_is_owned" = some (some (.ref fIO)))
    (aIG_ : PySem.W.nsIn K mainGlobals "_law_is_graph" = some (some (.ref fIG)))
    (aDN_ : PySem.W.nsIn K mainGlobals "_law_drawn_nodes" = some (some (.ref fDN)))
    (aJR_ : PySem.W.nsIn K mainGlobals "_law_judged_right" = some (some (.ref fJR)))
    (aLa_ : PySem.W.nsIn K mainGlobals "law" = some (some (.ref fLa)))
    (cCG : PySem.W.nsIn K mainGlobals "Graph" = some (some (.ref CG)))
    (aGI_ : PySem.W.findIn K (.ref CG) "__init__" = some (some (.ref fGI)))
    (iGI_ : PySem.W.isFn K (.ref fGI) = true)
    (aGS_ : PySem.W.findIn K (.ref CG) "scope" = some (some (.ref fGS)))
    (iGS_ : PySem.W.isFn K (.ref fGS) = true)
    (aGC_ : PySem.W.findIn K (.ref CG) "check" = some (some (.ref fGC)))
    (iGC_ : PySem.W.isFn K (.ref fGC) = true)
    (aGL_ : PySem.W.findIn K (.ref CG) "__len__" = some (some (.ref fGL)))
    (iGL_ : PySem.W.isFn K (.ref fGL) = true)
    (pgG : PySem.W.plainGet K CG Str.empty = true)
    (hdG : PySem.W.hasDictIn K CG = true)
    (poG : PySem.W.plainOver K CG = true)
    (saG : PySem.W.findIn K (.ref CG) "__setattr__" = some (some (.builtin "object.__setattr__")))
    (mkG : PySem.W.makesIn K CG = true)
    (kcG : PySem.W.keepIn K (.ref CG) = true)
    (naG0 : PySem.W.findIn K (.ref CG) "_nodes" = some none)
    (naG1 : PySem.W.findIn K (.ref CG) "_needs" = some none)
    (naG2 : PySem.W.findIn K (.ref CG) "_scopes" = some none)
    {pOf : Addr} {restOf : List Value}
    (aOf_ : PySem.W.findIn K (.ref CG) "of" = some (some (.ref pOf)))
    (rOf_ : PySem.W.recIn K pOf "classmethod" = some (.ref fOf :: restOf))
    (hOf_ : PySem.W.fnIn K fOf = true)
    (dOf_ : PySem.W.findCls K (.ref CG) (.type "type") "of" = some (.get (.builtin "classmethod.__get__") (.ref pOf) .none (.ref CG)))
    (rdG : PySem.W.readsIn K CG (.type "type") = true)
    (gaG : PySem.W.specialIn K (.ref CG) "__getattribute__" = some (some (.builtin "type.__getattribute__")))
    {pGp : Addr} {restGp : List Value}
    (aGp_ : PySem.W.findIn K (.ref CG) "nodes" = some (some (.ref pGp)))
    (qGp_ : PySem.W.specialIn K (.ref pGp) "__get__" = some (some (.builtin "property.__get__")))
    (wGp_ : PySem.W.takesIn K (.ref pGp) = some true)
    (rGp_ : PySem.W.recIn K pGp "property" = some (.ref fGp :: restGp))
    (lWh_ : K.lookup fWh = some ⟨ocWh, odWh, .func (PySem.W.fnOf "is_whole" "is_whole" (defArgs sWhole) (defBody sWhole) (defScope sWhole) .none kVWh dcWh pmWh anWh cdWh ctWh), slWh⟩)
    (cWh_ : PySem.W.codeIn K cdWh "is_whole" = true)
    (kWh_ : PySem.W.keepIn K (.ref fWh) = true)
    (lBe_ : K.lookup fBe = some ⟨ocBe, odBe, .func (PySem.W.fnOf "is_below" "is_below" (defArgs sBelow) (defBody sBelow) (defScope sBelow) .none kVBe dcBe pmBe anBe cdBe ctBe), slBe⟩)
    (cBe_ : PySem.W.codeIn K cdBe "is_below" = true)
    (kBe_ : PySem.W.keepIn K (.ref fBe) = true)
    (lNm_ : K.lookup fNm = some ⟨ocNm, odNm, .func (PySem.W.fnOf "is_name" "is_name" (defArgs sName) (defBody sName) (defScope sName) .none kVNm dcNm pmNm anNm cdNm ctNm), slNm⟩)
    (cNm_ : PySem.W.codeIn K cdNm "is_name" = true)
    (kNm_ : PySem.W.keepIn K (.ref fNm) = true)
    (lKd_ : K.lookup fKd = some ⟨ocKd, odKd, .func (PySem.W.fnOf "children_of" "children_of" (defArgs sKids) (defBody sKids) (defScope sKids) .none kVKd dcKd pmKd anKd cdKd ctKd), slKd⟩)
    (cKd_ : PySem.W.codeIn K cdKd "children_of" = true)
    (kKd_ : PySem.W.keepIn K (.ref fKd) = true)
    (lWk_ : K.lookup fWk = some ⟨ocWk, odWk, .func (PySem.W.fnOf "with_children" "with_children" (defArgs sWithK) (defBody sWithK) (defScope sWithK) .none kVWk dcWk pmWk anWk cdWk ctWk), slWk⟩)
    (cWk_ : PySem.W.codeIn K cdWk "with_children" = true)
    (kWk_ : PySem.W.keepIn K (.ref fWk) = true)
    (lRw_ : K.lookup fRw = some ⟨ocRw, odRw, .func (PySem.W.fnOf "_is_row" "_is_row" (defArgs sRow) (defBody sRow) (defScope sRow) .none kVRw dcRw pmRw anRw cdRw ctRw), slRw⟩)
    (cRw_ : PySem.W.codeIn K cdRw "_is_row" = true)
    (kRw_ : PySem.W.keepIn K (.ref fRw) = true)
    (lPo_ : K.lookup fPo = some ⟨ocPo, odPo, .func (PySem.W.fnOf "_is_pair_of" "_is_pair_of" (defArgs sPairOf) (defBody sPairOf) (defScope sPairOf) .none kVPo dcPo pmPo anPo cdPo ctPo), slPo⟩)
    (cPo_ : PySem.W.codeIn K cdPo "_is_pair_of" = true)
    (kPo_ : PySem.W.keepIn K (.ref fPo) = true)
    (lNd_ : K.lookup fNd = some ⟨ocNd, odNd, .func (PySem.W.fnOf "_is_node" "_is_node" (defArgs sIsNd) (defBody sIsNd) (defScope sIsNd) .none kVNd dcNd pmNd anNd cdNd ctNd), slNd⟩)
    (cNd_ : PySem.W.codeIn K cdNd "_is_node" = true)
    (kNd_ : PySem.W.keepIn K (.ref fNd) = true)
    (lAn_ : K.lookup fAn = some ⟨ocAn, odAn, .func (PySem.W.fnOf "are_nodes" "are_nodes" (defArgs sAreN) (defBody sAreN) (defScope sAreN) .none kVAn dcAn pmAn anAn cdAn ctAn), slAn⟩)
    (cAn_ : PySem.W.codeIn K cdAn "are_nodes" = true)
    (kAn_ : PySem.W.keepIn K (.ref fAn) = true)
    (lPr_ : K.lookup fPr = some ⟨ocPr, odPr, .func (PySem.W.fnOf "parents_of" "parents_of" (defArgs sParents) (defBody sParents) (defScope sParents) .none kVPr dcPr pmPr anPr cdPr ctPr), slPr⟩)
    (cPr_ : PySem.W.codeIn K cdPr "parents_of" = true)
    (kPr_ : PySem.W.keepIn K (.ref fPr) = true)
    (lNn_ : K.lookup fNn = some ⟨ocNn, odNn, .func (PySem.W.fnOf "_in_need" "_in_need" (defArgs sInNeed) (defBody sInNeed) (defScope sInNeed) .none kVNn dcNn pmNn anNn cdNn ctNn), slNn⟩)
    (cNn_ : PySem.W.codeIn K cdNn "_in_need" = true)
    (kNn_ : PySem.W.keepIn K (.ref fNn) = true)
    (lNe_ : K.lookup fNe = some ⟨ocNe, odNe, .func (PySem.W.fnOf "needs_of" "needs_of" (defArgs sNeeds) (defBody sNeeds) (defScope sNeeds) .none kVNe dcNe pmNe anNe cdNe ctNe), slNe⟩)
    (cNe_ : PySem.W.codeIn K cdNe "needs_of" = true)
    (kNe_ : PySem.W.keepIn K (.ref fNe) = true)
    (lSc_ : K.lookup fSc = some ⟨ocSc, odSc, .func (PySem.W.fnOf "scopes_of" "scopes_of" (defArgs sScopes) (defBody sScopes) (defScope sScopes) .none kVSc dcSc pmSc anSc cdSc ctSc), slSc⟩)
    (cSc_ : PySem.W.codeIn K cdSc "scopes_of" = true)
    (kSc_ : PySem.W.keepIn K (.ref fSc) = true)
    (lWa_ : K.lookup fWa = some ⟨ocWa, odWa, .func (PySem.W.fnOf "first_walk" "first_walk" (defArgs sWalk) (defBody sWalk) (defScope sWalk) .none kVWa dcWa pmWa anWa cdWa ctWa), slWa⟩)
    (cWa_ : PySem.W.codeIn K cdWa "first_walk" = true)
    (kWa_ : PySem.W.keepIn K (.ref fWa) = true)
    (lPt_ : K.lookup fPt = some ⟨ocPt, odPt, .func (PySem.W.fnOf "pointed" "pointed" (defArgs sPointed) (defBody sPointed) (defScope sPointed) .none kVPt dcPt pmPt anPt cdPt ctPt), slPt⟩)
    (cPt_ : PySem.W.codeIn K cdPt "pointed" = true)
    (kPt_ : PySem.W.keepIn K (.ref fPt) = true)
    (lNu_ : K.lookup fNu = some ⟨ocNu, odNu, .func (PySem.W.fnOf "numbered" "numbered" (defArgs sNumbered) (defBody sNumbered) (defScope sNumbered) .none kVNu dcNu pmNu anNu cdNu ctNu), slNu⟩)
    (cNu_ : PySem.W.codeIn K cdNu "numbered" = true)
    (kNu_ : PySem.W.keepIn K (.ref fNu) = true)
    (lCb_ : K.lookup fCb = some ⟨ocCb, odCb, .func (PySem.W.fnOf "check_below" "check_below" (defArgs sCheckB) (defBody sCheckB) (defScope sCheckB) .none kVCb dcCb pmCb anCb cdCb ctCb), slCb⟩)
    (cCb_ : PySem.W.codeIn K cdCb "check_below" = true)
    (kCb_ : PySem.W.keepIn K (.ref fCb) = true)
    (lSt_ : K.lookup fSt = some ⟨ocSt, odSt, .func (PySem.W.fnOf "_law_stream" "_law_stream" (defArgs sStream) (defBody sStream) (defScope sStream) .none kVSt dcSt pmSt anSt cdSt ctSt), slSt⟩)
    (cSt_ : PySem.W.codeIn K cdSt "_law_stream" = true)
    (kSt_ : PySem.W.keepIn K (.ref fSt) = true)
    (lDr_ : K.lookup fDr = some ⟨ocDr, odDr, .func (PySem.W.fnOf "_law_draw" "_law_draw" (defArgs sDraw) (defBody sDraw) (defScope sDraw) .none kVDr dcDr pmDr anDr cdDr ctDr), slDr⟩)
    (cDr_ : PySem.W.codeIn K cdDr "_law_draw" = true)
    (kDr_ : PySem.W.keepIn K (.ref fDr) = true)
    (lPk_ : K.lookup fPk = some ⟨ocPk, odPk, .func (PySem.W.fnOf "_law_pick" "_law_pick" (defArgs sPick) (defBody sPick) (defScope sPick) .none kVPk dcPk pmPk anPk cdPk ctPk), slPk⟩)
    (cPk_ : PySem.W.codeIn K cdPk "_law_pick" = true)
    (kPk_ : PySem.W.keepIn K (.ref fPk) = true)
    (lLB_ : K.lookup fLB = some ⟨ocLB, odLB, .func (PySem.W.fnOf "_law_below" "_law_below" (defArgs sLBelow) (defBody sLBelow) (defScope sLBelow) .none kVLB dcLB pmLB anLB cdLB ctLB), slLB⟩)
    (cLB_ : PySem.W.codeIn K cdLB "_law_below" = true)
    (kLB_ : PySem.W.keepIn K (.ref fLB) = true)
    (lLW_ : K.lookup fLW = some ⟨ocLW, odLW, .func (PySem.W.fnOf "_law_walked" "_law_walked" (defArgs sLWalked) (defBody sLWalked) (defScope sLWalked) .none kVLW dcLW pmLW anLW cdLW ctLW), slLW⟩)
    (cLW_ : PySem.W.codeIn K cdLW "_law_walked" = true)
    (kLW_ : PySem.W.keepIn K (.ref fLW) = true)
    (lLN_ : K.lookup fLN = some ⟨ocLN, odLN, .func (PySem.W.fnOf "_law_needs" "_law_needs" (defArgs sLNeeds) (defBody sLNeeds) (defScope sLNeeds) .none kVLN dcLN pmLN anLN cdLN ctLN), slLN⟩)
    (cLN_ : PySem.W.codeIn K cdLN "_law_needs" = true)
    (kLN_ : PySem.W.keepIn K (.ref fLN) = true)
    (lLS_ : K.lookup fLS = some ⟨ocLS, odLS, .func (PySem.W.fnOf "_law_scope" "_law_scope" (defArgs sLScope) (defBody sLScope) (defScope sLScope) .none kVLS dcLS pmLS anLS cdLS ctLS), slLS⟩)
    (cLS_ : PySem.W.codeIn K cdLS "_law_scope" = true)
    (kLS_ : PySem.W.keepIn K (.ref fLS) = true)
    (lLSs_ : K.lookup fLSs = some ⟨ocLSs, odLSs, .func (PySem.W.fnOf "_law_scopes" "_law_scopes" (defArgs sLScopes) (defBody sLScopes) (defScope sLScopes) .none kVLSs dcLSs pmLSs anLSs cdLSs ctLSs), slLSs⟩)
    (cLSs_ : PySem.W.codeIn K cdLSs "_law_scopes" = true)
    (kLSs_ : PySem.W.keepIn K (.ref fLSs) = true)
    (lIO_ : K.lookup fIO = some ⟨ocIO, odIO, .func (PySem.W.fnOf "_law_is_owned" "_law_is_owned" (defArgs sLOwned) (defBody sLOwned) (defScope sLOwned) .none kVIO dcIO pmIO anIO cdIO ctIO), slIO⟩)
    (cIO_ : PySem.W.codeIn K cdIO "_law_is_owned" = true)
    (kIO_ : PySem.W.keepIn K (.ref fIO) = true)
    (lIG_ : K.lookup fIG = some ⟨ocIG, odIG, .func (PySem.W.fnOf "_law_is_graph" "_law_is_graph" (defArgs sLIsG) (defBody sLIsG) (defScope sLIsG) .none kVIG dcIG pmIG anIG cdIG ctIG), slIG⟩)
    (cIG_ : PySem.W.codeIn K cdIG "_law_is_graph" = true)
    (kIG_ : PySem.W.keepIn K (.ref fIG) = true)
    (lDN_ : K.lookup fDN = some ⟨ocDN, odDN, .func (PySem.W.fnOf "_law_drawn_nodes" "_law_drawn_nodes" (defArgs sLDrawn) (defBody sLDrawn) (defScope sLDrawn) .none kVDN dcDN pmDN anDN cdDN ctDN), slDN⟩)
    (cDN_ : PySem.W.codeIn K cdDN "_law_drawn_nodes" = true)
    (kDN_ : PySem.W.keepIn K (.ref fDN) = true)
    (lJR_ : K.lookup fJR = some ⟨ocJR, odJR, .func (PySem.W.fnOf "_law_judged_right" "_law_judged_right" (defArgs sLJudged) (defBody sLJudged) (defScope sLJudged) .none kVJR dcJR pmJR anJR cdJR ctJR), slJR⟩)
    (cJR_ : PySem.W.codeIn K cdJR "_law_judged_right" = true)
    (kJR_ : PySem.W.keepIn K (.ref fJR) = true)
    (lLa_ : K.lookup fLa = some ⟨ocLa, odLa, .func (PySem.W.fnOf "law" "law" (defArgs sLaw11) (defBody sLaw11) (defScope sLaw11) .none kVLa dcLa pmLa anLa cdLa ctLa), slLa⟩)
    (cLa_ : PySem.W.codeIn K cdLa "law" = true)
    (kLa_ : PySem.W.keepIn K (.ref fLa) = true)
    (lGI_ : K.lookup fGI = some ⟨ocGI, odGI, .func (PySem.W.fnOf "__init__" "Graph.__init__" (defArgs sGInit) (defBody sGInit) (defScope sGInit) .none kVGI dcGI pmGI anGI cdGI ctGI), slGI⟩)
    (cGI_ : PySem.W.codeIn K cdGI "Graph.__init__" = true)
    (kGI_ : PySem.W.keepIn K (.ref fGI) = true)
    (lGS_ : K.lookup fGS = some ⟨ocGS, odGS, .func (PySem.W.fnOf "scope" "Graph.scope" (defArgs sGScope) (defBody sGScope) (defScope sGScope) .none kVGS dcGS pmGS anGS cdGS ctGS), slGS⟩)
    (cGS_ : PySem.W.codeIn K cdGS "Graph.scope" = true)
    (kGS_ : PySem.W.keepIn K (.ref fGS) = true)
    (lGC_ : K.lookup fGC = some ⟨ocGC, odGC, .func (PySem.W.fnOf "check" "Graph.check" (defArgs sGCheck) (defBody sGCheck) (defScope sGCheck) .none kVGC dcGC pmGC anGC cdGC ctGC), slGC⟩)
    (cGC_ : PySem.W.codeIn K cdGC "Graph.check" = true)
    (kGC_ : PySem.W.keepIn K (.ref fGC) = true)
    (lGL_ : K.lookup fGL = some ⟨ocGL, odGL, .func (PySem.W.fnOf "__len__" "Graph.__len__" (defArgs sGLen) (defBody sGLen) (defScope sGLen) .none kVGL dcGL pmGL anGL cdGL ctGL), slGL⟩)
    (cGL_ : PySem.W.codeIn K cdGL "Graph.__len__" = true)
    (kGL_ : PySem.W.keepIn K (.ref fGL) = true)
    (lOf_ : K.lookup fOf = some ⟨ocOf, odOf, .func (PySem.W.fnOf "of" "Graph.of" (defArgs sGOf) (defBody sGOf) (defScope sGOf) .none kVOf dcOf pmOf anOf cdOf ctOf), slOf⟩)
    (cOf_ : PySem.W.codeIn K cdOf "Graph.of" = true)
    (kOf_ : PySem.W.keepIn K (.ref fOf) = true)
    (lGp_ : K.lookup fGp = some ⟨ocGp, odGp, .func (PySem.W.fnOf "nodes" "Graph.nodes" (defArgs sGNodes) (defBody sGNodes) (defScope sGNodes) .none kVGp dcGp pmGp anGp cdGp ctGp), slGp⟩)
    (cGp_ : PySem.W.codeIn K cdGp "Graph.nodes" = true)
    (kGp_ : PySem.W.keepIn K (.ref fGp) = true)
    (z0 : PySem.W.nsIn K mainGlobals "isinstance" = some none)
    (z1 : PySem.W.nsIn K mainGlobals "str" = some none)
    (z2 : PySem.W.nsIn K mainGlobals "tuple" = some none)
    (z3 : PySem.W.nsIn K mainGlobals "dict" = some none)
    (z4 : PySem.W.nsIn K mainGlobals "len" = some none)
    (z5 : PySem.W.nsIn K mainGlobals "all" = some none)
    (z6 : PySem.W.nsIn K mainGlobals "set" = some none)
    (z7 : PySem.W.nsIn K mainGlobals "range" = some none)
    (z8 : PySem.W.nsIn K mainGlobals "sorted" = some none)
    (z9 : PySem.W.nsIn K mainGlobals "list" = some none)
    (z10 : PySem.W.nsIn K mainGlobals "int" = some none)
    (z11 : PySem.W.nsIn K mainGlobals "abs" = some none)
    (z12 : PySem.W.nsIn K mainGlobals "max" = some none)
    (z13 : PySem.W.nsIn K mainGlobals "min" = some none)
    (z14 : PySem.W.nsIn K mainGlobals "repr" = some none)
    (z15 : PySem.W.nsIn K mainGlobals "zip" = some none)
    (z16 : PySem.W.nsIn K mainGlobals "enumerate" = some none)
    (z17 : PySem.W.nsIn K mainGlobals "bool" = some none)
    (z18 : PySem.W.nsIn K mainGlobals "iter" = some none)
    (z19 : PySem.W.nsIn K mainGlobals "sum" = some none) :
    ∃ fd : FuncData, (∀ (s : Shared) (v : Value), BindsTo s fd ⟨[v], []⟩ [("_law_script", v)]) ∧ ∀ base : Heap, K.In base → base.Ns mainGlobals mg → FnG P w K mg base (L2.CX P w) 13 fa fd ["_law_script"] (spLaw K) := by
  have e := hfa.symm.trans (PySem.W.mg_of X G aLa_)
  cases e
  subst eE eT eM
  have FWh := fun_mk (st := sWhole) lWh_ cWh_ kWh_
  have bWh := FWh.binds (ps := ["value"]) fun _ _ _ _ _ _ us hl => match us, hl with | [_], _ => rfl
  have gWh := PySem.W.mg_of X G aWh_
  have FBe := fun_mk (st := sBelow) lBe_ cBe_ kBe_
  have bBe := FBe.binds (ps := ["value", "limit"]) fun _ _ _ _ _ _ us hl => match us, hl with | [_, _], _ => rfl
  have gBe := PySem.W.mg_of X G aBe_
  have FNm := fun_mk (st := sName) lNm_ cNm_ kNm_
  have bNm := FNm.binds (ps := ["value"]) fun _ _ _ _ _ _ us hl => match us, hl with | [_], _ => rfl
  have gNm := PySem.W.mg_of X G aNm_
  have FKd := fun_mk (st := sKids) lKd_ cKd_ kKd_
  have bKd := FKd.binds (ps := ["node"]) fun _ _ _ _ _ _ us hl => match us, hl with | [_], _ => rfl
  have gKd := PySem.W.mg_of X G aKd_
  have FWk := fun_mk (st := sWithK) lWk_ cWk_ kWk_
  have bWk := FWk.binds (ps := ["node", "children"]) fun _ _ _ _ _ _ us hl => match us, hl with | [_, _], _ => rfl
  have gWk := PySem.W.mg_of X G aWk_
  have FRw := fun_mk (st := sRow) lRw_ cRw_ kRw_
  have bRw := FRw.binds (ps := ["value", "many"]) fun _ _ _ _ _ _ us hl => match us, hl with | [_, _], _ => rfl
  have gRw := PySem.W.mg_of X G aRw_
  have FPo := fun_mk (st := sPairOf) lPo_ cPo_ kPo_
  have bPo := FPo.binds (ps := ["value", "kind"]) fun _ _ _ _ _ _ us hl => match us, hl with | [_, _], _ => rfl
  have gPo := PySem.W.mg_of X G aPo_
  have FNd := fun_mk (st := sIsNd) lNd_ cNd_ kNd_
  have bNd := FNd.binds (ps := ["value", "nodes"]) fun _ _ _ _ _ _ us hl => match us, hl with | [_, _], _ => rfl
  have gNd := PySem.W.mg_of X G aNd_
  have FAn := fun_mk (st := sAreN) lAn_ cAn_ kAn_
  have bAn := FAn.binds (ps := ["values"]) fun _ _ _ _ _ _ us hl => match us, hl with | [_], _ => rfl
  have gAn := PySem.W.mg_of X G aAn_
  have FPr := fun_mk (st := sParents) lPr_ cPr_ kPr_
  have bPr := FPr.binds (ps := ["nodes"]) fun _ _ _ _ _ _ us hl => match us, hl with | [_], _ => rfl
  have gPr := PySem.W.mg_of X G aPr_
  have FNn := fun_mk (st := sInNeed) lNn_ cNn_ kNn_
  have bNn := FNn.binds (ps := ["parents", "variable", "function"]) fun _ _ _ _ _ _ us hl => match us, hl with | [_, _, _], _ => rfl
  have gNn := PySem.W.mg_of X G aNn_
  have FNe := fun_mk (st := sNeeds) lNe_ cNe_ kNe_
  have bNe := FNe.binds (ps := ["nodes"]) fun _ _ _ _ _ _ us hl => match us, hl with | [_], _ => rfl
  have gNe := PySem.W.mg_of X G aNe_
  have FSc := fun_mk (st := sScopes) lSc_ cSc_ kSc_
  have bSc := FSc.binds (ps := ["needs"]) fun _ _ _ _ _ _ us hl => match us, hl with | [_], _ => rfl
  have gSc := PySem.W.mg_of X G aSc_
  have FWa := fun_mk (st := sWalk) lWa_ cWa_ kWa_
  have bWa := FWa.binds (ps := ["inner", "root"]) fun _ _ _ _ _ _ us hl => match us, hl with | [_, _], _ => rfl
  have gWa := PySem.W.mg_of X G aWa_
  have FPt := fun_mk (st := sPointed) lPt_ cPt_ kPt_
  have bPt := FPt.binds (ps := ["node", "numbers"]) fun _ _ _ _ _ _ us hl => match us, hl with | [_, _], _ => rfl
  have gPt := PySem.W.mg_of X G aPt_
  have FNu := fun_mk (st := sNumbered) lNu_ cNu_ kNu_
  have bNu := FNu.binds (ps := ["nodes", "root"]) fun _ _ _ _ _ _ us hl => match us, hl with | [_, _], _ => rfl
  have gNu := PySem.W.mg_of X G aNu_
  have FCb := fun_mk (st := sCheckB) lCb_ cCb_ kCb_
  have bCb := FCb.binds (ps := ["value", "limit"]) fun _ _ _ _ _ _ us hl => match us, hl with | [_, _], _ => rfl
  have gCb := PySem.W.mg_of X G aCb_
  have FSt := fun_mk (st := sStream) lSt_ cSt_ kSt_
  have bSt := FSt.binds (ps := ["_law_script", "_law_at"]) fun _ _ _ _ _ _ us hl => match us, hl with | [_, _], _ => rfl
  have gSt := PySem.W.mg_of X G aSt_
  have FDr := fun_mk (st := sDraw) lDr_ cDr_ kDr_
  have bDr := FDr.binds (ps := ["_law_stream_here", "_law_high"]) fun _ _ _ _ _ _ us hl => match us, hl with | [_, _], _ => rfl
  have gDr := PySem.W.mg_of X G aDr_
  have FPk := fun_mk (st := sPick) lPk_ cPk_ kPk_
  have bPk := FPk.binds (ps := ["_law_stream_here", "_law_items"]) fun _ _ _ _ _ _ us hl => match us, hl with | [_, _], _ => rfl
  have gPk := PySem.W.mg_of X G aPk_
  have FLB := fun_mk (st := sLBelow) lLB_ cLB_ kLB_
  have bLB := FLB.binds (ps := ["_law_node"]) fun _ _ _ _ _ _ us hl => match us, hl with | [_], _ => rfl
  have gLB := PySem.W.mg_of X G aLB_
  have FLW := fun_mk (st := sLWalked) lLW_ cLW_ kLW_
  have bLW := FLW.binds (ps := ["_law_nodes"]) fun _ _ _ _ _ _ us hl => match us, hl with | [_], _ => rfl
  have gLW := PySem.W.mg_of X G aLW_
  have FLN := fun_mk (st := sLNeeds) lLN_ cLN_ kLN_
  have bLN := FLN.binds (ps := ["_law_nodes"]) fun _ _ _ _ _ _ us hl => match us, hl with | [_], _ => rfl
  have gLN := PySem.W.mg_of X G aLN_
  have FLS := fun_mk (st := sLScope) lLS_ cLS_ kLS_
  have bLS := FLS.binds (ps := ["_law_needs_here", "_law_at"]) fun _ _ _ _ _ _ us hl => match us, hl with | [_, _], _ => rfl
  have gLS := PySem.W.mg_of X G aLS_
  have FLSs := fun_mk (st := sLScopes) lLSs_ cLSs_ kLSs_
  have bLSs := FLSs.binds (ps := ["_law_nodes"]) fun _ _ _ _ _ _ us hl => match us, hl with | [_], _ => rfl
  have gLSs := PySem.W.mg_of X G aLSs_
  have FIO := fun_mk (st := sLOwned) lIO_ cIO_ kIO_
  have bIO := FIO.binds (ps := ["_law_nodes", "_law_at"]) fun _ _ _ _ _ _ us hl => match us, hl with | [_, _], _ => rfl
  have gIO := PySem.W.mg_of X G aIO_
  have FIG := fun_mk (st := sLIsG) lIG_ cIG_ kIG_
  have bIG := FIG.binds (ps := ["_law_nodes"]) fun _ _ _ _ _ _ us hl => match us, hl with | [_], _ => rfl
  have gIG := PySem.W.mg_of X G aIG_
  have FDN := fun_mk (st := sLDrawn) lDN_ cDN_ kDN_
  have bDN := FDN.binds (ps := ["_law_stream_here"]) fun _ _ _ _ _ _ us hl => match us, hl with | [_], _ => rfl
  have gDN := PySem.W.mg_of X G aDN_
  have FJR := fun_mk (st := sLJudged) lJR_ cJR_ kJR_
  have bJR := FJR.binds (ps := ["_law_nodes"]) fun _ _ _ _ _ _ us hl => match us, hl with | [_], _ => rfl
  have gJR := PySem.W.mg_of X G aJR_
  have FLa := fun_mk (st := sLaw11) lLa_ cLa_ kLa_
  have FGI := fun_mk (st := sGInit) lGI_ cGI_ kGI_
  have mGI : Meth K _ "__init__" fGI := ⟨aGI_, iGI_, kGI_⟩
  have FGS := fun_mk (st := sGScope) lGS_ cGS_ kGS_
  have bGS := FGS.binds (ps := ["self", "node"]) fun _ _ _ _ _ _ us hl => match us, hl with | [_, _], _ => rfl
  have mGS : Meth K _ "scope" fGS := ⟨aGS_, iGS_, kGS_⟩
  have FGC := fun_mk (st := sGCheck) lGC_ cGC_ kGC_
  have bGC := FGC.binds (ps := ["self", "node"]) fun _ _ _ _ _ _ us hl => match us, hl with | [_, _], _ => rfl
  have mGC : Meth K _ "check" fGC := ⟨aGC_, iGC_, kGC_⟩
  have FGL := fun_mk (st := sGLen) lGL_ cGL_ kGL_
  have bGL := FGL.binds (ps := ["self"]) fun _ _ _ _ _ _ us hl => match us, hl with | [_], _ => rfl
  have mGL : Meth K _ "__len__" fGL := ⟨aGL_, iGL_, kGL_⟩
  have FOf := fun_mk (st := sGOf) lOf_ cOf_ kOf_
  have bOf := FOf.binds (ps := ["cls", "nodes"]) fun _ _ _ _ _ _ us hl => match us, hl with | [_, _], _ => rfl
  have FGp := fun_mk (st := sGNodes) lGp_ cGp_ kGp_
  have bGp := FGp.binds (ps := ["self"]) fun _ _ _ _ _ _ us hl => match us, hl with | [_], _ => rfl
  have clG : Cls K CG := ⟨pgG, hdG, poG, saG⟩
  have gcG := PySem.W.mg_of X G cCG
  have mkG : Mk K CG fGI := ⟨mkG, aGI_, iGI_, kcG⟩
  have B : Bt mg := { isi := PySem.W.mg_none_of X G z0, str := PySem.W.mg_none_of X G z1, tuple := PySem.W.mg_none_of X G z2, dict := PySem.W.mg_none_of X G z3, len := PySem.W.mg_none_of X G z4, all := PySem.W.mg_none_of X G z5, set := PySem.W.mg_none_of X G z6, range := PySem.W.mg_none_of X G z7, sorted := PySem.W.mg_none_of X G z8, list := PySem.W.mg_none_of X G z9, int := PySem.W.mg_none_of X G z10, abs := PySem.W.mg_none_of X G z11, max := PySem.W.mg_none_of X G z12, min := PySem.W.mg_none_of X G z13, repr := PySem.W.mg_none_of X G z14, zip := PySem.W.mg_none_of X G z15, enum := PySem.W.mg_none_of X G z16 }
  have z_bool := PySem.W.mg_none_of X G z17
  have z_iter := PySem.W.mg_none_of X G z18
  have z_sum := PySem.W.mg_none_of X G z19
  have U : Tops K mg := { letters := ⟨_, PySem.W.mg_of X G nE⟩, terms := ⟨_, PySem.W.mg_of X G nT⟩, nodes := ⟨_, PySem.W.mg_of X G nM⟩, sw := ⟨aS, PySem.W.mg_of X G aSW, fun H => .inr ⟨_, _, _, lSW, rfl, rfl, (by show 3 ≤ sizeLine; decide), .cons ⟨_, rfl⟩ (.cons ⟨_, rfl⟩ (.cons ⟨_, rfl⟩ .nil))⟩⟩ }
  have Bi' : Bi mg := ⟨B.isi, B.int, z_bool, B.tuple, B.len, B.all⟩
  have N : Gn K mg fWh fBe fNm fKd fWk fRw fPo fNd fAn _ _ _ _ _ _ _ _ _ := ⟨FWh, bWh, gWh, FBe, bBe, gBe, FNm, bNm, gNm, FKd, bKd, gKd, FWk, bWk, gWk, FRw, bRw, gRw, FPo, bPo, gPo, FNd, bNd, gNd, FAn, bAn, gAn⟩
  have Dg : Gd K mg fPr fNn fNe fSc fWa fPt fNu _ _ _ _ _ _ _ := ⟨FPr, bPr, gPr, FNn, bNn, gNn, FNe, bNe, gNe, FSc, bSc, gSc, FWa, bWa, gWa, FPt, bPt, gPt, FNu, bNu, gNu⟩
  have L : Gr K mg CG := ⟨clG, naG0, naG1, naG2, gcG⟩
  have RG : Rz K mg "InvalidGraph" CA := ⟨PySem.W.mg_of X G gxA, qxA, kxA, bxA, txA, exm_self bxA ixA txA sxA⟩
  exact ⟨PySem.W.fnOf "law" "law" (defArgs sLaw11) (defBody sLaw11) (defScope sLaw11) .none kVLa dcLa pmLa anLa cdLa ctLa, fun s v => .of_eq rfl, fun base _ _ => by
    have USr : Uf P w K mg base "_law_stream" ["_law_script", "_law_at"] 1 (spStream K) := ⟨fSt, _, gSt, kSt_, bSt, ok_stream FSt B⟩
    have UDr : Uf P w K mg base "_law_draw" ["_law_stream_here", "_law_high"] 1 (spDraw) := ⟨fDr, _, gDr, kDr_, bDr, ok_draw FDr B⟩
    have UPk : Uf P w K mg base "_law_pick" ["_law_stream_here", "_law_items"] 2 (spPick K) := ⟨fPk, _, gPk, kPk_, bPk, ok_pick FPk FDr bDr gDr B⟩
    have ULb : Uf P w K mg base "_law_below" ["_law_node"] 1 (spLBelow K) := ⟨fLB, _, gLB, kLB_, bLB, ok_lBelow FLB B⟩
    have ULbH : Uh P w K mg base "_law_below" ["_law_node"] 1 (spLBelow K) := ⟨fLB, _, gLB, kLB_, bLB, ok_lBelowH FLB B⟩
    have ULs : Uf P w K mg base "_law_scopes" ["_law_nodes"] 3 (spLScopes K) := ⟨fLSs, _, gLSs, kLSs_, bLSs, ok_lScopes FLSs FLN bLN gLN FLS bLS gLS FLB bLB gLB B⟩
    have UWd : Uf P w K mg base "_law_walked" ["_law_nodes"] 2 (spLWalked K) := ⟨fLW, _, gLW, kLW_, bLW, ok_lWalked B FLB bLB gLB FLW⟩
    have UIo : Uf P w K mg base "_law_is_owned" ["_law_nodes", "_law_at"] 2 (spLOwned K) := ⟨fIO, _, gIO, kIO_, bIO, ok_lOwned B ULb FIO⟩
    have UIoH : Uh P w K mg base "_law_is_owned" ["_law_nodes", "_law_at"] 2 (spLOwned K) := ⟨fIO, _, gIO, kIO_, bIO, ok_lOwnedH B ULbH FIO⟩
    have UIg : Uf P w K mg base "_law_is_graph" ["_law_nodes"] 3 (spLIsG K) := ⟨fIG, _, gIG, kIG_, bIG, ok_lIsG B UIo FIG⟩
    have UIgH : Uh P w K mg base "_law_is_graph" ["_law_nodes"] 3 (spLIsG K) := ⟨fIG, _, gIG, kIG_, bIG, ok_lIsGH B UIoH FIG⟩
    have UDn : Uf P w K mg base "_law_drawn_nodes" ["_law_stream_here"] 3 (spLDrawn K) := ⟨fDN, _, gDN, kDN_, bDN, ok_lDrawn B UDr UPk FDN⟩
    have ULn : Um P w K mg base CG "__len__" ["self"] 1 (spGLen K CG) := ⟨fGL, _, mGL, bGL, ok_gLen B FGL L⟩
    have USp : Um P w K mg base CG "scope" ["self", "node"] 5 (spGRow K CG fun _ S => S) := ⟨fGS, _, mGS, bGS, ok_gScope N Bi' B L FGS ⟨FGC, mGC, bGC⟩ FCb bCb gCb⟩
    have UNd : Up P w K mg base CG "nodes" 1 (spGNodes K CG) := ⟨pGp, fGp, _, ⟨aGp_, qGp_, wGp_, ⟨_, rGp_⟩⟩, bGp, ok_gNodes FGp L⟩
    have UOf : Ucx P w K mg base CG "Graph" "of" 8 (spGOfX K CG CA) := ⟨fOf, pOf, .type "type", gcG, ⟨rdG, gaG⟩, ⟨dOf_, ⟨_, rOf_⟩, hOf_⟩, ((ok_gOfX N Dg U Bi' B L RG FOf FGI mkG).raw bOf .nil).imp fun vs H Q E h => by rw [List.append_nil]; exact h⟩
    have UJr : Uf P w K mg base "_law_judged_right" ["_law_nodes"] 11 (spLJudged K) := ⟨fJR, _, gJR, kJR_, bJR, ok_lJudged B L RG UIg UIgH UWd ULs UOf UNd USp ULn FJR⟩
    exact ok_law FLa B USr UDn UJr⟩
end Sl

set_option Elab.async false
set_option linter.all false
set_option maxRecDepth 100000
open PySem PySem.W PyProof.Rows
set_option maxHeartbeats 0 in
theorem PySem.Challenge.cw_sharedlets_k11_whole_which_nodes_are_gra_holds : PySem.Challenge.rw_sharedlets_k11_whole_which_nodes_are_gra.Holds := by
  w_on; o_law; k_head; (case hw => w_witness2)
  k_fill
  refine Sl.walkG (l := PySem.Challenge.rw_sharedlets_k11_whole_which_nodes_are_gra) (n := 63) (k := 13) (x := "_law_script") (sp := fun w => Sl.spLaw _) rfl (by decide) rfl ⟨rfl, by decide, by decide⟩ (fun w h Y => PySem.W.kIn_of Y) ?F (fun w G a ns hl _ hS => ⟨a, ns, rfl, hS, by omega, fun _ => rfl⟩)
  case F =>
    intro w mg fa h KX G hmg
    refine' Sl.all_mk KX G hmg ?nE ?eE ?nT ?eT ?nM ?eM ?aSW ?lSW ?gxA ?qxA ?kxA ?bxA ?txA ?ixA ?sxA ?aWh_ ?aBe_ ?aNm_ ?aKd_ ?aWk_ ?aRw_ ?aPo_ ?aNd_ ?aAn_ ?aPr_ ?aNn_ ?aNe_ ?aSc_ ?aWa_ ?aPt_ ?aNu_ ?aCb_ ?aSt_ ?aDr_ ?aPk_ ?aLB_ ?aLW_ ?aLN_ ?aLS_ ?aLSs_ ?aIO_ ?aIG_ ?aDN_ ?aJR_ ?aLa_ ?cCG ?aGI_ ?iGI_ ?aGS_ ?iGS_ ?aGC_ ?iGC_ ?aGL_ ?iGL_ ?pgG ?hdG ?poG ?saG ?mkG ?kcG ?naG0 ?naG1 ?naG2 ?aOf_ ?rOf_ ?hOf_ ?dOf_ ?rdG ?gaG ?aGp_ ?qGp_ ?wGp_ ?rGp_ ?lWh_ ?cWh_ ?kWh_ ?lBe_ ?cBe_ ?kBe_ ?lNm_ ?cNm_ ?kNm_ ?lKd_ ?cKd_ ?kKd_ ?lWk_ ?cWk_ ?kWk_ ?lRw_ ?cRw_ ?kRw_ ?lPo_ ?cPo_ ?kPo_ ?lNd_ ?cNd_ ?kNd_ ?lAn_ ?cAn_ ?kAn_ ?lPr_ ?cPr_ ?kPr_ ?lNn_ ?cNn_ ?kNn_ ?lNe_ ?cNe_ ?kNe_ ?lSc_ ?cSc_ ?kSc_ ?lWa_ ?cWa_ ?kWa_ ?lPt_ ?cPt_ ?kPt_ ?lNu_ ?cNu_ ?kNu_ ?lCb_ ?cCb_ ?kCb_ ?lSt_ ?cSt_ ?kSt_ ?lDr_ ?cDr_ ?kDr_ ?lPk_ ?cPk_ ?kPk_ ?lLB_ ?cLB_ ?kLB_ ?lLW_ ?cLW_ ?kLW_ ?lLN_ ?cLN_ ?kLN_ ?lLS_ ?cLS_ ?kLS_ ?lLSs_ ?cLSs_ ?kLSs_ ?lIO_ ?cIO_ ?kIO_ ?lIG_ ?cIG_ ?kIG_ ?lDN_ ?cDN_ ?kDN_ ?lJR_ ?cJR_ ?kJR_ ?lLa_ ?cLa_ ?kLa_ ?lGI_ ?cGI_ ?kGI_ ?lGS_ ?cGS_ ?kGS_ ?lGC_ ?cGC_ ?kGC_ ?lGL_ ?cGL_ ?kGL_ ?lOf_ ?cOf_ ?kOf_ ?lGp_ ?cGp_ ?kGp_ ?z0 ?z1 ?z2 ?z3 ?z4 ?z5 ?z6 ?z7 ?z8 ?z9 ?z10 ?z11 ?z12 ?z13 ?z14 ?z15 ?z16 ?z17 ?z18 ?z19
    (case nE => k_is)
    (case eE => rfl)
    (case nT => k_is)
    (case eT => rfl)
    (case nM => k_is)
    (case eM => rfl)
    (case aSW => k_is)
    (case lSW => k_is)
    (case gxA => k_is)
    (case qxA => (first | rfl | kernel_rfl))
    (case kxA => k_is)
    (case bxA => k_is)
    (case txA => k_is)
    (case ixA => k_is)
    (case sxA => k_is)
    (case aWh_ => k_is)
    (case aBe_ => k_is)
    (case aNm_ => k_is)
    (case aKd_ => k_is)
    (case aWk_ => k_is)
    (case aRw_ => k_is)
    (case aPo_ => k_is)
    (case aNd_ => k_is)
    (case aAn_ => k_is)
    (case aPr_ => k_is)
    (case aNn_ => k_is)
    (case aNe_ => k_is)
    (case aSc_ => k_is)
    (case aWa_ => k_is)
    (case aPt_ => k_is)
    (case aNu_ => k_is)
    (case aCb_ => k_is)
    (case aSt_ => k_is)
    (case aDr_ => k_is)
    (case aPk_ => k_is)
    (case aLB_ => k_is)
    (case aLW_ => k_is)
    (case aLN_ => k_is)
    (case aLS_ => k_is)
    (case aLSs_ => k_is)
    (case aIO_ => k_is)
    (case aIG_ => k_is)
    (case aDN_ => k_is)
    (case aJR_ => k_is)
    (case aLa_ => k_is)
    (case cCG => k_is)
    (case aGI_ => k_is)
    (case iGI_ => k_is)
    (case aGS_ => k_is)
    (case iGS_ => k_is)
    (case aGC_ => k_is)
    (case iGC_ => k_is)
    (case aGL_ => k_is)
    (case iGL_ => k_is)
    (case pgG => k_is)
    (case hdG => k_is)
    (case poG => k_is)
    (case saG => k_is)
    (case mkG => k_is)
    (case kcG => k_is)
    (case naG0 => k_is)
    (case naG1 => k_is)
    (case naG2 => k_is)
    (case aOf_ => k_is)
    (case rOf_ => k_is)
    (case hOf_ => k_is)
    (case dOf_ => k_is)
    (case rdG => k_is)
    (case gaG => k_is)
    (case aGp_ => k_is)
    (case qGp_ => k_is)
    (case wGp_ => k_is)
    (case rGp_ => k_is)
    (case lWh_ => k_is)
    (case cWh_ => k_is)
    (case kWh_ => k_is)
    (case lBe_ => k_is)
    (case cBe_ => k_is)
    (case kBe_ => k_is)
    (case lNm_ => k_is)
    (case cNm_ => k_is)
    (case kNm_ => k_is)
    (case lKd_ => k_is)
    (case cKd_ => k_is)
    (case kKd_ => k_is)
    (case lWk_ => k_is)
    (case cWk_ => k_is)
    (case kWk_ => k_is)
    (case lRw_ => k_is)
    (case cRw_ => k_is)
    (case kRw_ => k_is)
    (case lPo_ => k_is)
    (case cPo_ => k_is)
    (case kPo_ => k_is)
    (case lNd_ => k_is)
    (case cNd_ => k_is)
    (case kNd_ => k_is)
    (case lAn_ => k_is)
    (case cAn_ => k_is)
    (case kAn_ => k_is)
    (case lPr_ => k_is)
    (case cPr_ => k_is)
    (case kPr_ => k_is)
    (case lNn_ => k_is)
    (case cNn_ => k_is)
    (case kNn_ => k_is)
    (case lNe_ => k_is)
    (case cNe_ => k_is)
    (case kNe_ => k_is)
    (case lSc_ => k_is)
    (case cSc_ => k_is)
    (case kSc_ => k_is)
    (case lWa_ => k_is)
    (case cWa_ => k_is)
    (case kWa_ => k_is)
    (case lPt_ => k_is)
    (case cPt_ => k_is)
    (case kPt_ => k_is)
    (case lNu_ => k_is)
    (case cNu_ => k_is)
    (case kNu_ => k_is)
    (case lCb_ => k_is)
    (case cCb_ => k_is)
    (case kCb_ => k_is)
    (case lSt_ => k_is)
    (case cSt_ => k_is)
    (case kSt_ => k_is)
    (case lDr_ => k_is)
    (case cDr_ => k_is)
    (case kDr_ => k_is)
    (case lPk_ => k_is)
    (case cPk_ => k_is)
    (case kPk_ => k_is)
    (case lLB_ => k_is)
    (case cLB_ => k_is)
    (case kLB_ => k_is)
    (case lLW_ => k_is)
    (case cLW_ => k_is)
    (case kLW_ => k_is)
    (case lLN_ => k_is)
    (case cLN_ => k_is)
    (case kLN_ => k_is)
    (case lLS_ => k_is)
    (case cLS_ => k_is)
    (case kLS_ => k_is)
    (case lLSs_ => k_is)
    (case cLSs_ => k_is)
    (case kLSs_ => k_is)
    (case lIO_ => k_is)
    (case cIO_ => k_is)
    (case kIO_ => k_is)
    (case lIG_ => k_is)
    (case cIG_ => k_is)
    (case kIG_ => k_is)
    (case lDN_ => k_is)
    (case cDN_ => k_is)
    (case kDN_ => k_is)
    (case lJR_ => k_is)
    (case cJR_ => k_is)
    (case kJR_ => k_is)
    (case lLa_ => k_is)
    (case cLa_ => k_is)
    (case kLa_ => k_is)
    (case lGI_ => k_is)
    (case cGI_ => k_is)
    (case kGI_ => k_is)
    (case lGS_ => k_is)
    (case cGS_ => k_is)
    (case kGS_ => k_is)
    (case lGC_ => k_is)
    (case cGC_ => k_is)
    (case kGC_ => k_is)
    (case lGL_ => k_is)
    (case cGL_ => k_is)
    (case kGL_ => k_is)
    (case lOf_ => k_is)
    (case cOf_ => k_is)
    (case kOf_ => k_is)
    (case lGp_ => k_is)
    (case cGp_ => k_is)
    (case kGp_ => k_is)
    (case z0 => k_is)
    (case z1 => k_is)
    (case z2 => k_is)
    (case z3 => k_is)
    (case z4 => k_is)
    (case z5 => k_is)
    (case z6 => k_is)
    (case z7 => k_is)
    (case z8 => k_is)
    (case z9 => k_is)
    (case z10 => k_is)
    (case z11 => k_is)
    (case z12 => k_is)
    (case z13 => k_is)
    (case z14 => k_is)
    (case z15 => k_is)
    (case z16 => k_is)
    (case z17 => k_is)
    (case z18 => k_is)
    (case z19 => k_is)
