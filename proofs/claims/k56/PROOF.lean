import PyProof.Rows.All
import Wide.All
import OpenK.AllK
import Wide.FinOn
import Lean
import PyProof.EqAt
import PyProof.EqKinds
import PyProof.TupleCall
import KE.KDictList
import KE.KRevIter
import KE.KTurns
import PyProof.Rows.SetFrom
import PyProof.Rows.SortStr
import PyProof.FactsAll.set
import PyProof.Draws
import PyProof.EnumMake
import PyProof.AttrMissSeq
import KE.KDictOf
import PyProof.Walks
import KE.KSortTup
import KE.KItemsList
import KE.KDictSum
import PyProof.Rows.SortRev
import KE.KDictLaws
import PyProof.DictTruth
import PyProof.MinMaxWalk
import PyProof.WalkInts
import PyProof.ExcAttrAll.ValueError
import KE.KIsAll
import PyProof.DictRoadsH
import PyProof.SeqI3
import PySem.Challenge.RW_doneroom_k56_whole_one_room_a_making_spo
set_option compiler.extract_closed false
set_option compiler.reuse false
set_option genSizeOf false
section
variable{G:Prop}
theorem xa{p q:Prop}(h:p∧q)(k:p→q→G):G:=k h.1 h.2
theorem xaa{p q r:Prop}(h:p∧q∧r)(k:p→q→r→G):G:=k h.1 h.2.1 h.2.2
theorem xaaa{p q r s:Prop}(h:p∧q∧r∧s)(k:p→q→r→s→G):G:=k h.1 h.2.1 h.2.2.1 h.2.2.2
theorem xaaaa{p q r s t:Prop}(h:p∧q∧r∧s∧t)(k:p→q→r→s→t→G):G:=k h.1 h.2.1 h.2.2.1 h.2.2.2.1 h.2.2.2.2
theorem xaaaaa{p q r s t m:Prop}(h:p∧q∧r∧s∧t∧m)(k:p→q→r→s→t→m→G):G:=k h.1 h.2.1 h.2.2.1 h.2.2.2.1 h.2.2.2.2.1 h.2.2.2.2.2
theorem xaaea{p q:Prop}{r s:A→Prop}(h:p∧q∧∃x,r x∧s x)(k:p→q→∀x,r x→s x→G):G:=h.2.2.elim fun x h0=>k h.1 h.2.1 x h0.1 h0.2
theorem xaea{p:Prop}{q r:A→Prop}(h:p∧∃x,q x∧r x)(k:p→∀x,q x→r x→G):G:=h.2.elim fun x h0=>k h.1 x h0.1 h0.2
theorem xaeeaa{p:Prop}{q r s:A→B→Prop}(h:p∧∃x y,q x y∧r x y∧s x y)(k:p→∀x y,q x y→r x y→s x y→G):G:=h.2.elim fun x h0=>h0.elim fun y h1=>k h.1 x y h1.1 h1.2.1 h1.2.2
theorem xe{p:A→Prop}(h:∃x,p x)(k:∀x,p x→G):G:=h.elim fun x h=>k x h
theorem xea{p q:A→Prop}(h:∃x,p x∧q x)(k:∀x,p x→q x→G):G:=h.elim fun x h=>k x h.1 h.2
theorem xeaa{p q r:A→Prop}(h:∃x,p x∧q x∧r x)(k:∀x,p x→q x→r x→G):G:=h.elim fun x h=>k x h.1 h.2.1 h.2.2
theorem xeaaaa{p q r s t:A→Prop}(h:∃x,p x∧q x∧r x∧s x∧t x)(k:∀x,p x→q x→r x→s x→t x→G):G:=h.elim fun x h=>k x h.1 h.2.1 h.2.2.1 h.2.2.2.1 h.2.2.2.2
theorem xeaae{p q:A→Prop}{r:A→B→Prop}(h:∃x,p x∧q x∧∃y,r x y)(k:∀x,p x→q x→∀y,r x y→G):G:=h.elim fun x h=>h.2.2.elim fun y h1=>k x h.1 h.2.1 y h1
theorem xee{p:A→B→Prop}(h:∃x y,p x y)(k:∀x y,p x y→G):G:=h.elim fun x h=>h.elim fun y h=>k x y h
theorem xeea{p q:A→B→Prop}(h:∃x y,p x y∧q x y)(k:∀x y,p x y→q x y→G):G:=h.elim fun x h=>h.elim fun y h=>k x y h.1 h.2
theorem xeeaa{p q r:A→B→Prop}(h:∃x y,p x y∧q x y∧r x y)(k:∀x y,p x y→q x y→r x y→G):G:=h.elim fun x h=>h.elim fun y h=>k x y h.1 h.2.1 h.2.2
theorem xeeaaa{p q r s:A→B→Prop}(h:∃x y,p x y∧q x y∧r x y∧s x y)(k:∀x y,p x y→q x y→r x y→s x y→G):G:=h.elim fun x h=>h.elim fun y h=>k x y h.1 h.2.1 h.2.2.1 h.2.2.2
theorem xeeaaaa{p q r s t:A→B→Prop}(h:∃x y,p x y∧q x y∧r x y∧s x y∧t x y)(k:∀x y,p x y→q x y→r x y→s x y→t x y→G):G:=h.elim fun x h=>h.elim fun y h=>k x y h.1 h.2.1 h.2.2.1 h.2.2.2.1 h.2.2.2.2
theorem xeeaaaaa{p q r s t m:A→B→Prop}(h:∃x y,p x y∧q x y∧r x y∧s x y∧t x y∧m x y)(k:∀x y,p x y→q x y→r x y→s x y→t x y→m x y→G):G:=h.elim fun x h=>h.elim fun y h=>k x y h.1 h.2.1 h.2.2.1 h.2.2.2.1 h.2.2.2.2.1 h.2.2.2.2.2
theorem xeeea{p q:A→B→C→Prop}(h:∃x y z,p x y z∧q x y z)(k:∀x y z,p x y z→q x y z→G):G:=h.elim fun x h=>h.elim fun y h=>h.elim fun z h=>k x y z h.1 h.2
theorem xeeeaa{p q r:A→B→C→Prop}(h:∃x y z,p x y z∧q x y z∧r x y z)(k:∀x y z,p x y z→q x y z→r x y z→G):G:=h.elim fun x h=>h.elim fun y h=>h.elim fun z h=>k x y z h.1 h.2.1 h.2.2
theorem xeeeaaa{p q r s:A→B→C→Prop}(h:∃x y z,p x y z∧q x y z∧r x y z∧s x y z)(k:∀x y z,p x y z→q x y z→r x y z→s x y z→G):G:=h.elim fun x h=>h.elim fun y h=>h.elim fun z h=>k x y z h.1 h.2.1 h.2.2.1 h.2.2.2
theorem xeeeaaaa{p q r s t:A→B→C→Prop}(h:∃x y z,p x y z∧q x y z∧r x y z∧s x y z∧t x y z)(k:∀x y z,p x y z→q x y z→r x y z→s x y z→t x y z→G):G:=h.elim fun x h=>h.elim fun y h=>h.elim fun z h=>k x y z h.1 h.2.1 h.2.2.1 h.2.2.2.1 h.2.2.2.2
theorem xeeeea{p q:A→B→C→D→Prop}(h:∃x y z u,p x y z u∧q x y z u)(k:∀x y z u,p x y z u→q x y z u→G):G:=h.elim fun x h=>h.elim fun y h=>h.elim fun z h=>h.elim fun u h=>k x y z u h.1 h.2
theorem xeeeeaaa{p q r s:A→B→C→D→Prop}(h:∃x y z u,p x y z u∧q x y z u∧r x y z u∧s x y z u)(k:∀x y z u,p x y z u→q x y z u→r x y z u→s x y z u→G):G:=h.elim fun x h=>h.elim fun y h=>h.elim fun z h=>h.elim fun u h=>k x y z u h.1 h.2.1 h.2.2.1 h.2.2.2
theorem xeeeeeaaa{p q r s:A→B→C→D→E→Prop}(h:∃x y z u v,p x y z u v∧q x y z u v∧r x y z u v∧s x y z u v)(k:∀x y z u v,p x y z u v→q x y z u v→r x y z u v→s x y z u v→G):G:=h.elim fun x h=>h.elim fun y h=>h.elim fun z h=>h.elim fun u h=>h.elim fun v h=>k x y z u v h.1 h.2.1 h.2.2.1 h.2.2.2
theorem xeeeeeeaaaa{p q r s t:A→B→C→D→E→F→Prop}(h:∃x y z u v w,p x y z u v w∧q x y z u v w∧r x y z u v w∧s x y z u v w∧t x y z u v w)(k:∀x y z u v w,p x y z u v w→q x y z u v w→r x y z u v w→s x y z u v w→t x y z u v w→G):G:=h.elim fun x h=>h.elim fun y h=>h.elim fun z h=>h.elim fun u h=>h.elim fun v h=>h.elim fun w h=>k x y z u v w h.1 h.2.1 h.2.2.1 h.2.2.2.1 h.2.2.2.2
end
theorem y11{p q:A→Prop}(x:A)(h0:p x)(h1:q x):∃x,p x∧q x:=⟨x,h0,h1⟩
theorem y12{p q r:A→Prop}(x:A)(h0:p x)(h1:q x)(h2:r x):∃x,p x∧q x∧r x:=⟨x,h0,h1,h2⟩
theorem y13{p q r s:A→Prop}(x:A)(h0:p x)(h1:q x)(h2:r x)(h3:s x):∃x,p x∧q x∧r x∧s x:=⟨x,h0,h1,h2,h3⟩
theorem y14{p q r s t:A→Prop}(x:A)(h0:p x)(h1:q x)(h2:r x)(h3:s x)(h4:t x):∃x,p x∧q x∧r x∧s x∧t x:=⟨x,h0,h1,h2,h3,h4⟩
theorem y15{p q r s t m:A→Prop}(x:A)(h0:p x)(h1:q x)(h2:r x)(h3:s x)(h4:t x)(h5:m x):∃x,p x∧q x∧r x∧s x∧t x∧m x:=⟨x,h0,h1,h2,h3,h4,h5⟩
theorem y16{p q r s t m n:A→Prop}(x:A)(h0:p x)(h1:q x)(h2:r x)(h3:s x)(h4:t x)(h5:m x)(h6:n x):∃x,p x∧q x∧r x∧s x∧t x∧m x∧n x:=⟨x,h0,h1,h2,h3,h4,h5,h6⟩
theorem y17{p q r s t m n o:A→Prop}(x:A)(h0:p x)(h1:q x)(h2:r x)(h3:s x)(h4:t x)(h5:m x)(h6:n x)(h7:o x):∃x,p x∧q x∧r x∧s x∧t x∧m x∧n x∧o x:=⟨x,h0,h1,h2,h3,h4,h5,h6,h7⟩
theorem y20{p:A→B→Prop}(x:A)(y:B)(h0:p x y):∃x y,p x y:=⟨x,y,h0⟩
theorem y21{p q:A→B→Prop}(x:A)(y:B)(h0:p x y)(h1:q x y):∃x y,p x y∧q x y:=⟨x,y,h0,h1⟩
theorem y22{p q r:A→B→Prop}(x:A)(y:B)(h0:p x y)(h1:q x y)(h2:r x y):∃x y,p x y∧q x y∧r x y:=⟨x,y,h0,h1,h2⟩
theorem y23{p q r s:A→B→Prop}(x:A)(y:B)(h0:p x y)(h1:q x y)(h2:r x y)(h3:s x y):∃x y,p x y∧q x y∧r x y∧s x y:=⟨x,y,h0,h1,h2,h3⟩
theorem y24{p q r s t:A→B→Prop}(x:A)(y:B)(h0:p x y)(h1:q x y)(h2:r x y)(h3:s x y)(h4:t x y):∃x y,p x y∧q x y∧r x y∧s x y∧t x y:=⟨x,y,h0,h1,h2,h3,h4⟩
theorem y25{p q r s t m:A→B→Prop}(x:A)(y:B)(h0:p x y)(h1:q x y)(h2:r x y)(h3:s x y)(h4:t x y)(h5:m x y):∃x y,p x y∧q x y∧r x y∧s x y∧t x y∧m x y:=⟨x,y,h0,h1,h2,h3,h4,h5⟩
theorem y26{p q r s t m n:A→B→Prop}(x:A)(y:B)(h0:p x y)(h1:q x y)(h2:r x y)(h3:s x y)(h4:t x y)(h5:m x y)(h6:n x y):∃x y,p x y∧q x y∧r x y∧s x y∧t x y∧m x y∧n x y:=⟨x,y,h0,h1,h2,h3,h4,h5,h6⟩
theorem y30{p:A→B→C→Prop}(x:A)(y:B)(z:C)(h0:p x y z):∃x y z,p x y z:=⟨x,y,z,h0⟩
theorem y31{p q:A→B→C→Prop}(x:A)(y:B)(z:C)(h0:p x y z)(h1:q x y z):∃x y z,p x y z∧q x y z:=⟨x,y,z,h0,h1⟩
theorem y32{p q r:A→B→C→Prop}(x:A)(y:B)(z:C)(h0:p x y z)(h1:q x y z)(h2:r x y z):∃x y z,p x y z∧q x y z∧r x y z:=⟨x,y,z,h0,h1,h2⟩
theorem y33{p q r s:A→B→C→Prop}(x:A)(y:B)(z:C)(h0:p x y z)(h1:q x y z)(h2:r x y z)(h3:s x y z):∃x y z,p x y z∧q x y z∧r x y z∧s x y z:=⟨x,y,z,h0,h1,h2,h3⟩
theorem y34{p q r s t:A→B→C→Prop}(x:A)(y:B)(z:C)(h0:p x y z)(h1:q x y z)(h2:r x y z)(h3:s x y z)(h4:t x y z):∃x y z,p x y z∧q x y z∧r x y z∧s x y z∧t x y z:=⟨x,y,z,h0,h1,h2,h3,h4⟩
theorem y35{p q r s t m:A→B→C→Prop}(x:A)(y:B)(z:C)(h0:p x y z)(h1:q x y z)(h2:r x y z)(h3:s x y z)(h4:t x y z)(h5:m x y z):∃x y z,p x y z∧q x y z∧r x y z∧s x y z∧t x y z∧m x y z:=⟨x,y,z,h0,h1,h2,h3,h4,h5⟩
theorem y40{p:A→B→C→D→Prop}(x:A)(y:B)(z:C)(u:D)(h0:p x y z u):∃x y z u,p x y z u:=⟨x,y,z,u,h0⟩
theorem y41{p q:A→B→C→D→Prop}(x:A)(y:B)(z:C)(u:D)(h0:p x y z u)(h1:q x y z u):∃x y z u,p x y z u∧q x y z u:=⟨x,y,z,u,h0,h1⟩
theorem y42{p q r:A→B→C→D→Prop}(x:A)(y:B)(z:C)(u:D)(h0:p x y z u)(h1:q x y z u)(h2:r x y z u):∃x y z u,p x y z u∧q x y z u∧r x y z u:=⟨x,y,z,u,h0,h1,h2⟩
theorem y43{p q r s:A→B→C→D→Prop}(x:A)(y:B)(z:C)(u:D)(h0:p x y z u)(h1:q x y z u)(h2:r x y z u)(h3:s x y z u):∃x y z u,p x y z u∧q x y z u∧r x y z u∧s x y z u:=⟨x,y,z,u,h0,h1,h2,h3⟩
theorem y44{p q r s t:A→B→C→D→Prop}(x:A)(y:B)(z:C)(u:D)(h0:p x y z u)(h1:q x y z u)(h2:r x y z u)(h3:s x y z u)(h4:t x y z u):∃x y z u,p x y z u∧q x y z u∧r x y z u∧s x y z u∧t x y z u:=⟨x,y,z,u,h0,h1,h2,h3,h4⟩
theorem y50{p:A→B→C→D→E→Prop}(x:A)(y:B)(z:C)(u:D)(v:E)(h0:p x y z u v):∃x y z u v,p x y z u v:=⟨x,y,z,u,v,h0⟩
theorem y51{p q:A→B→C→D→E→Prop}(x:A)(y:B)(z:C)(u:D)(v:E)(h0:p x y z u v)(h1:q x y z u v):∃x y z u v,p x y z u v∧q x y z u v:=⟨x,y,z,u,v,h0,h1⟩
theorem y52{p q r:A→B→C→D→E→Prop}(x:A)(y:B)(z:C)(u:D)(v:E)(h0:p x y z u v)(h1:q x y z u v)(h2:r x y z u v):∃x y z u v,p x y z u v∧q x y z u v∧r x y z u v:=⟨x,y,z,u,v,h0,h1,h2⟩
theorem y53{p q r s:A→B→C→D→E→Prop}(x:A)(y:B)(z:C)(u:D)(v:E)(h0:p x y z u v)(h1:q x y z u v)(h2:r x y z u v)(h3:s x y z u v):∃x y z u v,p x y z u v∧q x y z u v∧r x y z u v∧s x y z u v:=⟨x,y,z,u,v,h0,h1,h2,h3⟩
section
open Lean
def obS:=["eeeeeeaaaa","eeeeeaaa","eeeaaaa","eeaaaaa","eeeeaaa","eeeaaa","eeaaaa","eeaaa","eeeaa","aeeaa","eeeea","aaaaa","eaaaa","eeaa","aaea","eeea","eaae","aaaa","eaa","eea","aaa","aea","ea","aa","ee","a","e"]
def obG(ps:Array (TSyntax ``Parser.Tactic.rcasesPatLo))(t:Term):MacroM (TSyntax `tactic):=do
 let n:=ps.size
 if n<2 then Macro.throwUnsupported
 let p←ps.mapM fun p=>do `(rintroPat|$(←`(rcasesPat|($p))):rcasesPat)
 let c←if t.raw.isIdent then `(tactic|try clear $(⟨t.raw⟩)) else `(tactic|skip)
 let a←(obS.toArray.filter (·.length<n)).mapM fun s=>do
  let k:=s.length
  let x:=mkIdent ("x"++s).toName
  if k+1==n then `(tacticSeq|refine $x $t ?_;$c;rintro $p*)
  else
   let q:=ps.extract k n
   let r:=p.extract 0 k
   `(tacticSeq|refine $x $t ?_;$c;rintro $r* z;obtain⟨$[$q],*⟩:=z)
 let a:=a.push (←`(tacticSeq|rcases $t:term with ⟨$[$ps],*⟩))
 `(tactic|first $[|$a]*)
def obI(ts:Array Term)(f:Term->MacroM (TSyntax ``Lean.Parser.Tactic.tacticSeq)):MacroM (TSyntax `tactic):=do
 let n:=ts.size
 if n<3||n>9 then Macro.throwUnsupported
 let a←([3,2,1,4,5].filter (·<n)).toArray.mapM fun i=>do f (←`($(mkIdent s!"y{i}{n-1-i}".toName) $ts*))
 let a:=a.push (←f (←`((⟨$[$ts],*⟩))))
 `(tactic|first $[|$a]*)
end
local macro_rules
 |`(tactic|exact⟨$[$t],*⟩)=>obI t fun x=>`(tacticSeq|exact $x)
 |`(tactic|refine⟨$[$t],*⟩)=>obI t fun x=>`(tacticSeq|refine $x)
local macro_rules|`(tactic|obtain⟨$[$p],*⟩:=$t)=>obG p t
theorem zq{a c:A}{b d:B}(e:some (a,b)=some (c,d)):a=c∧b=d:=by cases e;exact⟨rfl,rfl⟩
local macro_rules|`(tactic|cases $h:ident)=>`(tactic|first|subst $h|(have z:=Option.some.inj $h;clear $h;subst z)|(obtain⟨x,y⟩:=zq $h;clear $h;subst x;subst y)|cases ($h))
set_option Elab.async false
set_option bootstrap.genMatcherCode false
set_option linter.all false
set_option maxRecDepth 100000
section
open Lean
def zS(m:NameMap Syntax):Nat->Syntax->Syntax
 |n+1,.node _ k a=>.node .none k (a.map (zS m n))
 |_,.ident i r v p=>match m.find? v.getRoot with
  |some s=>if v.isAtomic then s else mkIdent (v.replacePrefix v.getRoot s.getId)
  |_=>.ident i r v p
 |_,s=>s
def zA(d:NameMap (List Name×Syntax))(e:Syntax->Syntax)(s:Syntax):Option Syntax:=
 let (f,a):=if s.isOfKind `Lean.Parser.Term.app then (s[0],s[1].getArgs) else (s,#[])
 match d.find? f.getId with
 |some (p,b)=>if p.length==a.size then some (if p==[] then e b else zS ((p.zip a.toList).foldl (fun m x=>m.insert x.1 (e x.2)) {}) 999 (e b)) else none
 |_=>none
def zO(k:SyntaxNodeKind)(a:Array Syntax):Syntax:=.node .none k a
def zL(a:Array Syntax):Syntax:=zO `null a
def zT(s:String):Syntax:=.atom .none s
def zU(k:String):Name:=.str `Lean.Parser.Tactic k
def zP:Nat->Syntax->Syntax
 |n+1,s=>if s.isIdent then zO (zU "rcasesPat" ++ `one) #[s] else if s.getKind==`Lean.Parser.Term.anonymousCtor then zO (zU "rcasesPat" ++ `tuple) #[s[0],zL (s[1].getArgs.map fun x=>if x.isAtom then x else zO (zU "rcasesPatLo") #[zO (zU "rcasesPatMed") #[zL #[zP n x]],zL #[]]),s[2]] else zO (zU "rcasesPat" ++ `ignore) #[s[0]]
 |_,s=>s
def zK(k:SyntaxNodeKind)(a:Array Syntax):Syntax:=
 let g:=fun s t=>zO (zU t) (a.set! 0 (zT s))
 if k==zU "tacticLet__" then
  let q:=a[2]![0]
  if q[0].getKind==`Lean.Parser.Term.anonymousCtor then zO (zU "obtain") #[zT "obtain",zL #[zO (zU "rcasesPatMed") #[zL #[zP 9 q[0]]]],zL #[],zL #[q[3],zL #[q[4]]]] else g "have" "tacticHave__"
 else if k==zU "tacticLetI__" then g "let" "tacticLet__"
 else if k==zU "show" then g "exact" "exact"
 else if k==zU "apply" then g "show" "show"
 else if k==zU "refine'" then g "apply" "apply"
 else if k==`«term#[_,]» then
  let b:=a[1]!.getArgs
  if b.size==0 then zO k a else if b.size%2==0 then zO k (a.set! 1 (zL b.pop)) else zO `Lean.Parser.Term.anonymousCtor #[zT "⟨",a[1]!,zT "⟩"]
 else zO k a
def zE(d:NameMap (List Name×Syntax)):Nat->Syntax->Syntax
 |n+1,s=>match zA d (zE d n) s with
  |some t=>t
  |_=>match s with
   |.node _ k a=>
    let a:=if k==`Lean.Parser.Term.basicFun then a.modify 0 fun b=>zL (b.getArgs.map fun x=>if x.isOfKind `Lean.Parser.Term.hole then mkIdent `_x else x) else a
    zK k (if k==`null then a.foldl (fun r x=>
     if x.isOfKind (zU "show") then
      let t:=if x[1].isOfKind `Lean.Parser.Term.tuple then x[1][1][0]::x[1][1][2].getSepArgs.toList else [x[1]]
      (t.foldl (fun r t=>r.push (zT ";")++match zA d (zE d n) t with
       |some y=>if y.isOfKind `Lean.Parser.Term.byTactic then y[1][0][0].getArgs else #[zK (zU "show") #[x[0],y]]
       |_=>#[zK (zU "show") #[x[0],zE d n t]]) #[]).foldl (fun (r,b) y=>(if b then r else r.push y,false)) (r,true)|>.1
     else r.push (zE d n x)) #[] else a.map (zE d n))
   |.atom _ v=>zT v
   |.ident _ r v p=>.ident .none r v p
   |x=>x
 |_,s=>s
def zN(m:Syntax):Syntax:=m.setArg 4 (zL #[zO `Lean.Parser.Command.noncomputable #[zT "noncomputable"]])
def zD:Nat->Syntax->Syntax
 |n+1,c=>
  let d:=c[1]
  if c.isOfKind `Lean.Parser.Command.mutual then c.setArg 1 (zL (d.getArgs.map (zD n)))
  else if c.isOfKind `Lean.Parser.Command.in then c.setArg 2 (zD n c[2])
  else if d.isOfKind `Lean.Parser.Command.definition then c.setArg 1 (zO `Lean.Parser.Command.theorem #[zT "theorem",d[1],zO `Lean.Parser.Command.declSig #[d[2][0],d[2][1][0]],d[3]])
  else if d.isOfKind `Lean.Parser.Command.abbrev&&c[0][4].getNumArgs==0 then (c.setArg 0 (zN c[0])).setArg 1 (zO `Lean.Parser.Command.definition #[zT "def",d[1],d[2],d[3],zL #[]])
  else c
 |_,c=>c
def zC(d:NameMap (List Name×Syntax))(c:Syntax):Syntax:=
 match c[1].isStrLit? with
 |some s=>if s.front != '-' then c else zO `Lean.Parser.Command.end #[zT "end",zL (if s.length==1 then #[] else #[mkIdent (s.drop 1).toName,zL #[]])]
 |_=>zD 9 (zE d 999 c)
def zH(s t:String):List String:=s.toList.flatMap fun a=>t.toList.map fun b=>String.ofList [a,b]
def zQ:List String:="ÀÁÂÃÄÅÆÇÈÉÊËÌÍÎÏÐÑÒÓÔÕÖØÙÚÛÜÝÞßàáâãäåæçèéêëìíîïðñòóôõöøùúûüýþÿĀāĂăĄąĆćĈĉĊċČčĎďĐđĒēĔĕĖėĘęĚěĜĝĞğĠġĢģĤĥĦħĨĩĪīĬĭĮįİıĲĳĴĵĶķĸĹĺĻļĽľĿŀŁłŃńŅņŇňŉŊŋŌōŎŏŐőŒœŔŕŖŗŘřŚśŜŝŞşŠšŢţŤťŦŧŨũŪūŬŭŮůŰűŲųŴŵŶŷŸŹźŻżŽžſΑΒΓΔΕΖΗΘΙΚΛΜΝΞΟΡ΢ΤΥΦΧΨΩγδεζηθμνξοπςυχψωϊϋόύώϏϐϑϒϓϔϕϖϗϘϙϚϛϜϝϞϟϠϡϢϣϤϥϦϧϨϩϪϫϬϭϮϯϰϱϲϳϴϵ϶ϷϸϹϺϻ".toList.map (·.toString)++zH "jABCySuTqvHPixMcpkfdwzglosmnRbrtea" "03456789abcdefghijklmnopqrtuvwxyzABCDEFGHIJKLMNOPQRSTUVWXYZ"++(zH "zjqxZJ" "abcdefghijklmnopqrstuvwxyzABCDEFGHIJKLMNOPQRSTUVWXYZ").flatMap fun s=>"0123456789abcdefghij".toList.map s.push
def zB(l:List Syntax):NameMap (List Name×Syntax):=(zQ.zip l).foldl (fun d x=>
  let b:=x.2
  let (p,b):=if b.isOfKind `Lean.Parser.Term.fun then (b[1][0].getArgs.toList.map (·.getId),b[1][3]) else ([],b)
  if b.isOfKind `Lean.Parser.Term.hole then d else d.insert (.str .anonymous x.1) (p,if b.isOfKind `Lean.Parser.Term.paren then b[1] else b)) {}
def zM(cs:Array Syntax):MacroM Syntax:=do
 unless cs[0]!.isOfKind `Lean.Parser.Command.check do Macro.throwUnsupported
 let d:=zB cs[0]![1][1].getSepArgs.toList
 return zL ((cs.extract 1 cs.size).map (zC d))
end
local macro_rules|`(mutual $cs* end)=>zM (cs.map (·.raw))
mutual
#check[
λa=>.lst a,λi=>.int i,List Str,List W,λa=>.ref a,by simp,λa=>by refine Na a,by simp,List Pt,by lia,List Nat,List Value,List Spt,by lia,λa=>.tup a,λa=>.lst a,by decide,Value->Ϸ,λd=>if_pos d,λh=>if_neg h,λa g=>λa g=>?_,λy c e=>λy c e=>?_,List V,λc=>List c,λx=>.str x,Option (W×MH),List (Addr×Obj),λh=>(Nd.mp h).1,λk=>.inl k,Option W,Inv X pins σ H s,λa=>Qa a Qc,λc=>Ĵ t c,λg c=>(by rw[g]at c;cases c),λv=>some v,λa=>wpAny Ĝ A a Q E s,Qb 3,λa r=>OpR X a r,λa=>B5 a,λb=>λb=>?_,λi=>by show Aj i,λx=>.inr x,.ref 0,λe a=>by show zmg e a,List Mn,Qb 0,List zBj,Array Keyed,λx=>RelV x u,λa=>q5 a,Qb 2,λa h=>.nx a h,λw=>Rw K R w v,List Rm,Qb 1,Al p out,λa=>.ref a,λb P'=>T prog w A E s b P' st,λV=>List (Key×V),λa b=>by show absurd a b,#[_,rfl],by decide,a.h X k,List Expr,λa b=>Qe wEq a b,λa=>.bl a,λa o=>upd H a o,λa b=>PM X a b,λa=>by show jo4 a,by omega,sO frN,λr t=>.cons r t,λw b=>sO (w,b),by omega,Nw _,λa=>by show gz a,λa=>B7 a,x.2.length,λt e c=>(by let#[t,e]:=c),λb g Q=>by intro b s g H Q I h,λa z=>a.trans z,Rh K R h H,Str->vo,Qb 4,λx=>.inr x,λP=>P σ h,.type "list",λb r d=>Zh b λr=>Zg d,λe a b=>(by by_cases e:a=b),(by first|(show Ĵ g c)|cases c),model prog w,List Ln,λa=>by show HM a,λi=>sO Ō,ú a,λc d s=>wpAny (model X.prog X.w) X.A c d X.xe s,λc=>by show Aj c,λe=>Nc.mp e,λr=>r.h X k,X.calm=true,List Ky,λa=>by show Nl a,λg=>.tup g,λa=>.done a,λa=>StateT SortSt Sem a,.ref h.length,λj t f e=>(by let#[j,t,f]:=ģ e),λi=>.int i,Option Int,if_pos rfl,λc=>Nv c.symm,λa=>by show HQ a,λa=>jh a,λa=>Ż a σ,λt c=>(by let#[t,rfl]:=c),λa d n o e=>(by let#[#[a,d],n,o]:=ģ e),Array Value,λf b=>@ob _ _ f b,λc=>ND.mp c,λa l=>PE X a l,λj y=>#[j,y],λc a=>k R H _ Ε c a,X.A.units+64<cLine,GoodP N bs ws p,List (Ky×Int),.lst ws,λa b=>CallR X a b,λb o e B=>λb o e B=>?_,λa b=>zmf a b,λb=>s.heap.get? b,λa=>wpAny _ _ a _ _ s,λh=>(by rcases HE h with rfl|h),λa c j e=>thn a (Õ c j e),((k:Int)),s.2.2.1,.tup ws,NO _,List Cd,ĭ i,λa=>Qa a Qc,R.ρ n,λp f g a i j=>(by let#[p,f,g,a,i]:=j),sO zC9,λd=>h.get? d,λw v=>Rw X.K R w v,λk=>lev ls k,λa=>by rw[if_pos a],λa σ b c=>Inv X a σ b c,λe=>Np _ e,λg J a=>λg J=>a,λa=>yA a,mC oJ,List (Tr×Addr×V),#[rfl,rfl],SortSt->Prop,λa b=>mMt "list" Qp a b,λi=>.inl i,(λ_ _=>rfl),λr=>(by unfold Rw at r),λo c=>RelV o c,λa=>C3 J9 a,.lst [],out.length<=200,Qb 5,Hp->Prop,Qb 6,List Int,((n:Int)),λV=>Option V,λb o q r=>(by show Az b o q r;cases q),λy q c=>(by let#[y,q,rfl]:=TM c),NM _ rfl,λM m l t=>(by let#[M,m,l]:=t),λf b=>@om _ _ f b,λa=>h.set n a,sO (.ref f),sO (.ref j),I.tok _,λe d=>Qe wIx e d,λR' w v=>Rw K R' w v,λo g B=>#[o,g,B],Ã->qj,ϵ h D B,(ask p out M key q).1,λa=>Ni a (by decide),λa σ=>Inv X a σ H s,λa=>wpAny _ _ a _ _ _,λe r=>(by let e:=r.length),sO Ti,λx b=>(by rename_i x;cases b),λc=>.dct c,λP D=>by rw[P];show D,λh=>Ô x h,mC xD1,Ext.refl _,A.handled=nO,λx i d=>λx i=>d x (C0 i),λV=>List (Str×V),Vals xs us,List Addr,(λ_=>rfl),.str x,λa=>by refine Nl a,by rw[this];rfl,λa=>.dct a,λa=>ci a,λa=>jp4 a,λa=>by show xzf a,λa=>zpi a,ú n,λe a=>(by cases e;show a),λa=>Qe wIx a (mC (.int 0)),Nu _ _,λU q=>(by rcases NI.mp U with q|q),λa=>by refine Qg a,List (W×W),Nl ?_,QZ 0,sO v,λq=>drf h n q,CxOk c X,(λ_=>nO),.ref 0,λa=>Aq a,λx j d c=>ŏ x H1 I1 j d c,λC=>sO oj,List Pn,v=Ä a,xD2=false,ls.map cdL,λc=>.ref c.heap.objs.size,(bk m h k).1,Rws K R ws xs,X.N[i]?=sO x,Rh X.K R h H,Ls.length+2,s.2.2.2.1,λh=>I.list h,List Env,λb=>#[rfl,b],Rc p s,λa b I q h=>(by let#[a,b,I,q]:=h),λr=>Ng.mp r,λa b=>Ϛ a b,Ń b=sO o,λa b=>Qa a b,à ø,M.map Q0,out.map Qj,GoodP 700 bs ws p,λg=>by simp[g],λh=>#[_,h,rfl],Rws K R ws vs,.bl true,UR p out M,λw A f r N=>(by let#[w,A,f]:=r.get N),λh=>by simp at h,ZQ e=false,λk=>rem x i k,λM a Q s=>wpAny M A a Q E s,λq=>by simp[q],Qr k,H b=nO,Gl X x,λF A f d=>k F _ _ A f d,λa=>i.e c a,λa=>.dic a,λb o e n P B=>λb o e n P B=>?_,ú x,ĭ j,λa=>yW a,.ref s.heap.objs.size,λh D B=>LsH C h r aN aR aA D B G,λh v c a b=>by show(vi h,MR v c a b h),Shared->Prop,λb=>λ_=>Ql b,skS rfl (by simp),λt c e=>(by let#[t,c,rfl]:=ϗ e),by simpa using this,λz d=>by show Β z d,p[part]?=sO x,λi l=>NH.mpr (ĺ i l),λZ=>if_neg (Eb Z),λq=>(by rcases q with q|q),λx=>out.push x,sO .cell,Ext R R',List Rcd,(by simp at this),λt=>SV p t,λb a=>elem' b a,λR1=>Ext R R1,λb i=>λb i=>?_,λa=>jEh a,λa=>Bi a,λg a b v i c=>ņ (uJ g a b) v i c,#[way,part,k,false],λa=>Qe ZX a (mC (.int 1)),sq out q,λh=>(by show xB h;subst h),Array xd1,λb=>(by simp at b;subst b),s.2.2.2.2.1,Keyed->Prop,Qo st,Qb 7,ZS es=true,λq=>λ_ _ q=>q,List Stmt,Kw l=true,Nat×Nat,((0:Int)),List Tr,.inl ?_,by refine Na ?_,ls[j]?,λz=>N6.mp z,λa=>.inr a,λL=>tv L k,λo=>o.2.2.1,λe a=>λz=>e a,λa=>by show jp9 a,λa=>zng a,λt c h f=>by show(á c,Ĵ h f),fL\/pU=CQ,λa=>Qa (Qb 0) a,s.heap.objs.size+1,List (Ky×jc4),λa=>Value.ref a,by rw[if_neg (by simp)],(λ_ _=>False),λa h=>sO (ô a h),ls.map QI,Loc X.env.scope x,h[n]?=sO xJ1,λa q=>by rw[Qu a];show q,List (κ×V),x.2[k]?=sO l,q<out.length,λq=>((nomatch q)),Option Nat,((i:Int)),pur w=true,s.toks+1,Option Src,sO .free,m σ h,RelV x v,λa=>K.lookup a,λa=>.str a,λq=>.int q.2,N5 _,List En,List Fn,λh a=>absurd h a,λi=>by simpa using i,λb u e=>λb u e=>?_,_,λa b=>PMS X a b,λj a=>j b o a e,λe a=>xAi e a,λa=>cG a,λa=>jN a,λc=>sO (Ï c),_,List pw,λa=>QA 4 a,x=Ä a,bJ x=sO c,by show zW,λb o q r=>(by let#[b,o,q]:=ϗ r),.type "tuple",λm F o l S e0=>(by let#[ad,m,rfl,F,o]:=l.lsAt S e0),M.length<=100000,λκ=>List (κ×Value),(λ_ _ _=>rfl),#[_,_,rfl],ws.length<=5,pSq m h k,h++[.lst []],p[i]?=sO x,NN e,.inl rfl,Qb 8,λo=>(by rcases o with z|z),λh2=>sO (.rt v h2),_,λa=>decide a,EE p out,λU=>(by cases U),.frz ws,λd=>.dic d,λn=>P n σ h,λe r=>(by subst e;cases r),Gt p s,λc a=>λc=>a ,λe l=>(by cases e;cases l),λa b=>Qe J3 a b,λc d=>by show#[c,d],λh1 a=>h1.get? a,λa=>à a,k _ _ joe e,λa=>Q6 a,ő a=sO o,λa=>QA 3 a,λa=>QA 2 a,∀x,qme,mC xD7,_,Hp->VK->Prop,_,λa=>Heap.SameBut a s.heap h',λc=>(by rcases NI.mp c with c|c),λa=>mFn Q3 a,L2.hN w 8 k,_,mC .non,.dic (fd FD),xs.length<=sizeLine,live src items h,λh=>I.tuple h,λe=>(by rw[e]at this;cases this),λe=>eval e X.env,by simp;omega,if_pos Ty,GOk p out M K G,sO (.int n),h'[a]?=h[a]?,λi a b=>(by let#[i,a]:=NH.mp b),λr a g c=>(r.2 a g).trans c,x="either",Qb 9,Option Addr,λP D=>by show Β P D,λq h=>(by let#[rfl,q]:=h),λa=>if a=true then _ else _,p.map JJ,λa=>PlainL bs ws a,_,i.e c e,b.trs[t]?,ZP st,λb p=>b.heap.get? p,JQ e≠0,e.kd=.oo,((j:Int)),Qj s,λa b c=>QD Zv a b (QZ 0) Vw c,dI G,Ky×Int,λl d a=>k R1 H1 _ l d a,λM=>WB M G Ls,λa=>(by simp at a ⊢),c=true,.str _,λa b=>Rws K R a b,λi=>Ny _ i,λf l=>mFn f l,λs=>mdS p s,λu o I J5 q c=>(by let#[u,o,I]:=J5 q c),λc=>Ny _ c,λc=>by show c.elim,λa=>by show xza a,λc a=>xzg c a,by show jOg,Bool->Ϸ,λa=>by refine Ý a,_,yN ř,_,λj=>sO (Ad j),_,ú b,yY l,Ċ o h,_,λa=>Qe wIx a (mC (.int 1)),λu q=>(by obtain rfl:u=Value.ref Ŏ:=q),s.toks+(Qh prog w).draws k,fpL r aN aR aA G,sO (Ĩ xje),BlkOk X scope cl Nb cp,λb a=>b.extract a b.size,o.data=.set es ep t,sO zYd,Ni (Nu _ _) hu,_,by show zW,.lst ws,List (Str×Addr),λv d l=>λR1 H1 v d l rv=>?_,_,∃r,out=sp0::r,_,λN=>sj t.mask h N,λa=>Nl a,sO zC9,D.map Q7,λa=>wIx a (.int i) h,((jfe:Int)),λu c d=>(by let#[u,rfl,c]:=KA d),i<R.length,Qm (Qb 0),λH' a=>Inv X pins σ H' a,λh e=>(by rcases HE h with e|e),sO .local,_,λq=>by rw[q];simp,HOk P w H h,Ext.refl _,λg=>absurd rfl g,pure false,_,λa=>NC.mpr a,λz=>False.elim z,.tup ws,_,_,_,_,λa b z=>(by rcases Dg a b with z|z),_,(g X k).1,(g X k).2,i<es.size,gAt G k,[Ο D],λw=>I.ok.hd w,.bl b,((1:Int)),λa=>by show NC.mpr a,λb=>h'.get? b,W->Bool,λq=>.int q.1,List Fc,.lst vs,λj=>st.mono j,λh=>LH G Ls h,.int _,id rfl,.ref 1,λp a=>λp=>decide a,λi=>SqL.of i,λb=>.bool b,λc=>by simp only[c],λv=>h v NA,λj=>Ow o j,ϙ->jOh,λa=>QQ a,#[_,ŭ,rfl,rfl],W->W->qj,λg e0=>(by let#[g,e0,e]:=ģ e),jT σ2 h2,[Ä a],λb a=>by show(jo b,a),u=jQ a,jv q,v=Ä b,St->Ŧ,ą e m,λt i q l e a=>by show ĵ t i q l e;refine a,λa=>Qe wIx (Qb 0) a,λH'=>Inv X pins σ H' { s with heap:=h',toks:=t' },(Wds p).map .str,sj t.mask h N,Ls++[[]],_,h0.length+1,NZ jOi hu,(by show wg;cases p),λa=>Qa (Qb 1) a,h0.length+2,λl=>l.map .str,λq=>by rw[q];simp,keys.map Qr,c.sc.names.lookup x,List (Str×Value),GoodP 300 bs ws p,λq' S=>by rw[<-q'];show S,λh=>decide_eq_false h,λe=>λ_ _ e=>e.elim,λm=>h.Ns mainGlobals m,List xs1,_,Value->Prop,#[t,rfl],x≠"__name__",K.length<=6400,_,_,A.units<cLine,body σ1 h,λh=>absurd h fD,_,s.head=true,Qm (Qb 1),i<xs.size,_,hk R F,Vals xs its,_,λe a=>Rw.mono e _ _ a,λg n=>λb g=>(n b g).1,Nu _ _,.dct [],h[n]?=sO o,Ze ws=true,Option Str,Nat->Addr,Option MF,PM X a ma,Ls++[[]],dP M P,ls[k]?,.inl rfl,λj=>by refine' E6;intro j,λe=>eval e env,λd v=>Rws X.K R d v,g.2+2,_,λe p=>(by by_cases e:p.1=k),pure nO,_,λa b=>by show Nh a b,Nq d,λa=>by refine#[a,?_],List MO,R.ρ n,_,_,sO o::r,key∈K,λb c e=>(by rename_i b c;cases e),Rc p t,zD K,_,sO p.2,λr=>by rw[<-r.length],λF b a=>Paired F b a,λe t=>PT X e t,λl x a=>l.map λx=>a,λa=>NU _ a,λt d r C=>(by let#[t,d,r,_]:=Bp C),sO o5,[QJ p,À Ϝ],Ń S=sO o,V->Pe,yN Δ,b∉ch,Ż a b,Ċ w h,λi d c q a=>by show(Ů i d c q,a),λa=>Qe wIx (Qb 1) a,mUn Yy (mC (.int 1)),_,rA r key rl jUe (pT v),_,_,starEach [a] X.env=[(false,Hh a)],R.map jP6,(by first|show SH|show jce|assumption),by refine Qv (g:=[]) (by simp) ?_ (by simp),e::es,λa=>Nx p #[way,part,k,false] a,_,_,λc=>wpAny (model X.prog X.w) A c Q E s,fd FD,λb k=>λb=>decide (b.1=k),seqObj "list" vs.toArray 0,λp u o=>p.trans (Ē u o),λr z=>by show(u6 r,z),seqObj "list" #[] 0,#[way,part,k+1,false],λh=>.ref h.length,λt c σ=>t c s σ H _ I h,List (Tr×zU4),λk a=>(Qh prog w).is s.heap k a,t.fits es.size=true,Eg p out out.length,.dic (dJ p out M Q),s.heap.objs.size+1,λd=>Zu (drf h n) d,a.length<sizeLine,_,λe=>by show gc e;split at e,λa=>by · show a,O M xKd out,h0.length+3,λf=>(by let#[rfl,rfl]:=f),λa=>(by subst this;show a),λh=>Ni h (by decide),De _ _,λg c i b=>λR1 H1 x g c i=>b,done out ia ib,done out na nb,λa=>Mm->Q (.ref p) a,EP X a b Q,s.2.2.2.2.2,λa=>Nh a (by decide),.str x c,_,λg p=>Rw.mono g _ _ p,λg=>by rw[Nt,g];rfl,ixS out t,λx r=>Rws.mono x _ _ r,λb=>SqL K H a b,λq=>(by let#[rfl,q]:=q),.ref 1,Room k X.A,Kq e=false,runEnd m i,Np _ e,PE X a ta,PE X e te,λe=>by rw[e];rfl,λa=>Rws K R a xs,_,PM X o mo,K3 o=true,Sg st0 st,hL S G Ls,λn C e=>(by rename_i n C;split at e),QC _ _,λc=>Rst K R a c,_,Tab t es,O M n xs,sO lw,_,λp j=>SqT X.K H p j,_,λa b=>(a++b).length,_,by refine bN ?_,s∈out,(by unfold th res),λc=>NC.mp c,λa=>.Name x a,_,_,K.In h,λa c=>by show Rws.cons a c,_,_,λa=>Rh K R' h a,λz=>λz=>?_,λr=>IxR X r,λa=>pyIter a,λa b=>by refine a;show b,St.ledW w,_,_,_,λa=>Qk a,_,_,[Á i,Á j],h'.get? b,Unit->Ϸ,à ť,λb=>some oz,some Cz,Nat->Þ,λl r=>(by show Pv l r;cases l),ú f,ú r,Ĥ r,MH->Ú,t∈vD,λY=>Ű (Qw Y),λy o n e s m j=>by show(Ĭ y o n e,Az s m j n),_,Q7 q,λz r u B n=>(by let#[z,r,u,B]:=Bp n),model X.prog X.w,λz=>(by rcases z with⟨rfl,rfl⟩|⟨_,rfl,rfl⟩|⟨_,rfl,rfl⟩|⟨_,rfl,rfl⟩),λb u=>ő b=sO u->zBb,λe g d p v q=>(by show AW e g;let#[d,p]:=v q),λa Q E=>wpAny (model X.prog X.w) X.A a Q E s,∀a o,zXe->R'.F a=sO o,by rw[if_pos (by decide)],mFn Xk Qc,by refine Qv (g:=[]) (by simp) ?_ rfl,[MO.dic mY],λb v=>if b.1=k then(b.1,v)else b,.lst xs,SetTable.grown d.size,x.2.map QI,L.map Qj,λe a b=>(by show Ě e a b;·subst e;simp),_,λl=>LineOk bs ws later l,λa=>ForInStep.yield a,#[way,part,k,true],mC (.str "either"),b.rws[j]?=sO rB,Rw.int _,λe=>by show(show False from e).elim,starEach es X.env,b w σ h=zi3,mC (.str "again"),_,_,sO zeg,sO (.ref 2),λc a=>Zj c a,λO=>sO (O.reverse.map cd),by kernel_rfl,PMA X (e::es) ms,_,xf2<=5,_,L.map QR,_,#[rfl,rfl,rfl],_,λa h'=>Q a { s with heap:=h' },Qm (Qb 2),_,A.units+n<cLine,List (Str×Nat),A.units+1,λb=>beq_self_eq_true b,sO Hr,λu b f=>u pos b s f H _ I h,λh=>(by rw[Rws.cons_iff]at h),λb=>Nf b (Nu _ _),_,_,λw n p o e=>(by let#[#[w,n],p,o]:=ϗ e),_,Option Value,QL [0,1],E3 _ _,h++[.lst []],model P w,_,λs=>decide_eq_true s,λq=>.inl ze4,a<h.length,x="again",_,x::r,λQ3 b=>(by unfold Q3 at b;split at b),.bl false,nx p s,((ks FD,X)),MO.dct [],λa=>by simp;show Vd a,QmU l=false,sO (as,ns),λh=>(Q5 h).stE _ _,λg=>by show Nf g (Nu _ _),At xs i,λd=>Value.ref d,λn x u=>IsQ s.heap n x u,λx l=>decide (x∈l),Em _,λh0=>.ref h0.length,(λ_=>?_),λs a=>Mono p s a,sO w,PE X b tb,zhj=nO,XE CX X E,sj m h n,Sg st0 d,[nO,sO 3],_,_,_,_,_,_,_,λR=>Ends K R D r,λp=>.ref p.2.1,sO (.ref s),dK S,λd c=>d.trans c.symm,λt b=>(by intro t b;simp at b),x="or",λo=>h.set n o,λa=>eval a X.env,_,Yz ?_,List Pl,dG G,λa c=>(by simp;show λz=>a c),λa=>a.Perm ks,((i:Nat)),_,λu' r'=>by refine#[u',r',?_],ZU p,XU o,λv=>(by cases v<;>rfl),λI e=>I.cell x c e,pure r,.ref _,R.ρ x,λa f=>QcD X a f b,λk=>#[k,?_],λg=>s.mono g,λP a=>(by subst P;refine a),λr=>SlR X r,λh=>NK.mp h,λW=>List W,∀b o,yz,λn=>cg F D C B n,gE-ό,λa b g=>xze a b g,Ar ϝ,sO (Ï jzb),λa=>by show Ý a,.fields #[Ä l,nB,],_,λg d v=>by show(qu e g d p v q,qr z),λa=>by show Æ a,λr o n p m l=>by show(Ĭ r o n e,ū p m l n),sO (Á j,h),_,λi=>by rw[Qt i,į],λi=>(by let e:b=it:=é i),λo g e S=>λb o g e=>Bz S b g e,ő b=sO o,Õ a u e,Bool->Ŧ,((key,xD4)),λa b=>by ·rw[ĸ a];show b,à î,[Á m],λl j=>zv9 a d l j,ú d,Ad y,zA7 V,S8 e,Ň-1,H b=nO,v=Ù x,Ö->Be,SN e p,W3 a,λI r F v1=>by show(Ž I r,Ž F v1),λy m e=>ŏ y H2 I2 m q2 e,Mi.blk X scope cl Nb f H2 C fp ka,λa=>((false,Hh a)),_,λa=>mUn (zve C) a,Option Nat,(λq=>Qj (sq out q)),Eg p out out.length,sO jc5,O M (jf1 zHa) out,_,aW p out M,λl r=>(by let#[u,rfl,l]:=Xm r),.Name x p,by simp;lia,λb c d g=>(by show xP h;let#[a,xs,b,c,d]:=h;show g),gn M (sq out q),_,sc.names.lookup x,λf=>(by simp only at f;subst f),.Compare a [op] [b] pos,_,.frz (ns.map .int),_,.ref it,_,λv e a c=>λv e=>wpAny (model X.prog X.w) X.A a c X.xe e,(strKind prog w).hash x,_,_,xoe\/es.size<=1,_,_,Rw.bl _,sO dX,_,_,Value->zMc,Ls.length+2,_,λa=>Qe Jw a (mC .non),λc=>beq_eq_false_iff_ne.mpr c,.seq l.toArray k,_,λc f x=>Inv X c f H { s with heap:=x },λh x=>(Qh prog w).is h x.1 x.2.1,λh g q=>(by rw[NB,NV,NV];by_cases h:g.1=q),Dd K (.ref f)=true,.type "list",Cmp prog w A s κ M,λa=>Qa a (Qa (mC (.bl false)) Qc),_,_,mC xJa,_,mC xIh,_,λp=>(by unfold Ze at p;rw[Eh]at p),_,.str "most",h'.length=h.length,_,.type "dict",((.int ws.length,h)),_,Nat->MSt->jd8,λe=>(by let#[e,part,k,head]:=s),L.length<sizeLine,Option (Bool×MH),_,λA a Q E b=>wpAny (model prog w) A a Q E b,_,L.map QI,_,Binds K fd ps [],sO (!ws.isEmpty),λc=>(by let#[v,rfl,c]:=KA rw),A.in1.handled=nO,sIx items.size 0 lo,binaryOp .Add,QfD X.K R h d,N0 ..,X.mg "range"=nO,SqT K H a b,λz a=>λz=>absurd a vP,λo=>ObjOk P w H h a o,∃x r,l=x::r,List (Ky×α),λR b=>After K R w b Q,(λ_ _=>rfl),t σ h,.lst _,Gl X "range",Q7 m.2,_,QmR p l=sO j,(bk m h k).2,λy=>s.2.1.push y,λh=>Ot j f h h',Heap->Prop,λr=>IterR X tg r,ixS out s,Option Expr,_,_,_,_,_,_,_,_,KOk p out k,tf f 14,_,_,λe=>Rws X.K R e xs,λL a=>(L++a).map cdL,.inr rfl,Vh st,by intro _;show rfl,sO (ZL a),λκ=>DecidableEq κ,l.length=n,by show Rws.nil,nrm p.1,YE X.K fin,sO (.lst (Wd.map .str)),sO (.int c),sO (.lst (M.map Q0)),Qw j,_,_,λd=>R κ M N lo d,arrOf s,Cls X.K C,(λ_=>true),λh=>(by rw[Rws.nil_iff]at h),PM X b mb,pure true,Qca kx xs,Nat->Prop,MSt->Prop,R1.ρ j,λH=>SqT K H a xs,Dz _ _,sO frR,λc=>tS K c D σ H,λk n=>Ends.ext k n,λi e=>(by rename_i i;split at e),sO .non,λh=>(by unfold Rw at h ⊢),λa=>tI K a σ H Q,FY X G a,Nat->Nat,(λ_=>?_),JQ e≠3,e.kd=.ei,(λ_ h=>h),sc E S n,.refl _,λq c=>q.obj n _ c,λs=>tn i s.heap,_,λI=>((nomatch I)),λh=>sO (.non,h),[Qw f],λa i=>(by rcases D1 a i with z|z|z),List Kv,List Rc,t∈out,e.2∈Q,rkD L j,b=true,v=.non,λp j=>SqL X.K H p j,λn q=>(by rw[n]at q;simp at q),DW _,_,inW x c,_,QZ 4,H p=nO,_,hk R F,by rfl,λa=>by show#[a,rfl],k∈ks,bits h,sO .ei,tk q 3,x∈bs,λs=>(by rw[Nr,NQ,El]at s),_,λb=>Vals b us,_,λq=>q.h c X k,λa=>QfT a.2 s,(by simp[Yp]at e),_,_,_,_,_,λb g u=>EP X b g Q u s,sO q.1,λt=>t.2.2.2.1,_,λn1=>skS rfl n1,_,λe=>(by show nomatch e),λp d=>SqT K H p d,λa d p q h=>(by let#[a,d,rfl,p,q]:=h),_,_,λu U=>X6 (k:=u) U,λu=>Rd H a u,λa b=>PMI X tg a b,λc=>a.size-c,λa=>tH p out a,λe f=>#[e,f,rfl],_,_,_,_,_,_,_,λa=>.inr a,λQ=>λa s σ H Q I q=>xzj Q,sB m,_,_,_,W->ŷ,λF D C B n=>(by let#[F,f1,f2,D,C,B]:=xE3 n),_,λa=>ϸ a,λz r S I=>(by rw[Nt]at z;show Ϻ r S z;let I:=Ü S;rw[NQ]at *),sO { cls:=Ę,data:=sP },_,by show(Š r,r),by intro t a;show yG a c,_,_,by show(xIf,jOg),L.map Po,_,up Ç _ jzh,by exact ÿ,pu x3 x5 x6,V->Į->Į->Be,by show Sw,λa j f=>(by let#[z,a,n,r,j,e]:=xXc f),϶ h v c a b,[Qw f,À CI],[Bm,À xF5],à ĕ,λz r u B n g=>(by let#[z,r,u,B]:=ϒ n;show Ž g r),Result->Ϸ,λa=>ō a,ul Bc,λc q=>by intro x c;show Ŭ y q c,À (yY O),((zC8,Ä x)),ú j,λb z h y=>by show γ b z;·show h y z,λa=>ŝ ó a,o.cls=AA,ve<cLine,Array Pn,œ (k+1),g L O,à ŧ,ul Δ,jT σ h,some qC,xo=sO t,SG=sO c,a∉Cp,Ş d,_,ú t,ú p,ú S,Ϡ e,Ģ c,Ģ b,_,Ģ h,Ģ L,λe f=>jI e (Ē f z),_,_,_,((ŉ,h)),λA B j g=>(by rename_i A;show ū B j g e),_,_,_,_,_,_,x=Ä l,b∉ex,β->Ŝ,_,λa b c=>lT n0 kw r a jO9 b c,np uw=jUb::starEach es X.env,Nat×jy,λa=>.ListComp elt a scope pos,_,_,sq out e.1,typeOf pO=pure xF2,dJ p out M Q,Qf 1 Zs (Qa (Qb 0) Qc),(ixs R).map rf,λb=>mUn (Z5 a "numbers") b,PassesOwn (model X.prog X.w) X.A X.env X.xe,λk b c=>Room k (A.deeper (envOfC b jr s.heap.objs.size f c)),FnOk X.prog X.w X.K X.mg X.base CX k f fd ps sp,ns.map .int,by refine bI (s:=#[way,part,k,false]) ?_,sq out j,unsupported "internal:list.sort.merge-bound",(leap m (sq m h n).i (sq m h n).perturb).1,.builtin id,λa b=>lev (ls.map cdL) a-lev (ls.map cdL) b,(by let hp:=I.hok.fresh xG7),λm z a=>(by obtain⟨m,rfl⟩:∃z,m=z+1:=a),_,λe=>sO xrd,X.env.scope.names.lookup x,decide (mw<30)=true,_,λa=>by show Qg a,h.set wl (.lst jTg),λc=>I1.kept (t':=c.toks) kP,_,by apply ve+n<cLine;lia,.dic mY,w.params.followText "set-order",λa=>Zp items nO b body a σ h,λa b=>QM a λ_=>Ql b,E.map (stW p out),λa b=>show ObjOk X.prog X.w _ _ _ a from b,X.pn++j,_,_,_,mFn JO (Qa (Qb 2) Qc),bootBuiltins x,_,(hI p out M P G Ls).length,(λp=>Ha p),(a==sysModules)=false,_,_,(d==sysModules)=false,_,_,_,drf h 40,λs3 s4=>by refine zh2 s3;refine zh2 s4,.type "range",λp f d j o=>(by let#[p,f,d]:=xZ j o),λx=>(by let#[x,_,rfl]:=zf8),_,_,λy i d=>λy i=>d y (C0 i),I.ok.hd hc,rU p r key bl nO,FnScope N ps (Qo st),sIx items.size items.size hi,gt R i,(λw=>(w,h)),QA 2 (mFn Xk Qc),λD=>NZ D (by decide),.inl qRd,al.map zF5,Array (Option Value),X.A.units+1,#[#[tk,rfl],h],λl b=>(by let#[l,b,rfl]:=zf8),(pendingOf st).size,_,(λb o e=>Ŗ e),X.base.get? b=sO o,sO .globalImplicit,_,Binds X.K fd ps ds,its.size<=sizeLine,_,_,Dfs p met st n out,List (κ×Nat×ι),h.set n xu,λh a=>How w S T h es ep t vs i a,_,_,λb=>.BoolOp .And b pos,_,_,_,Vis X.env.scope x,_,(by unfold QfF;rw[if_pos EN]),_,_,.Name x pos,λb=>.BoolOp .Or b pos,ps.zip us,items[i]?,PMI X tg iter mi,by unfold Qz;rfl,λN T D=>by rw[N.2 T D];show e,_,Option Bool,_,_,_,nm out.zipIdx,_,_,λz=>(by let#[z,g,d,tk,os]:=s),h.IsTuple a its,g i j,_,Array DictEntry,List xpg,.type T,eqW a b,.int i t,E2 _,((nO,())),λj=>(by let#[o,e,c,d]:=id j),λg=>fs.lookup g,λc=>[c.heap.objs.size],λa=>by simp only[XT,a],λk b=>L2.IsT s.heap 8 k b,xs.map .str,X.fn x=true,λj=>Vl p j w part k v,IntsAre vs ns,λb=>(lsW h a).map λws=>b,DicR K R a kx,t.plain=false,Sb.Up t.place,_,NL (NN e),Q6 (Qb 2),Q6 (mC .non),_,λa=>(L++a).map QI,sO (.lst ((ixs R).map rf)),K w.params,_,_,_,.dict #[],sc E S n,λM=>(by split at M;·cases M),λi=>At t.place i,λe=>(by rw[e]at this;show this),λd=>λh=>(Nd.mp d).2,PlainAttrs T,(λa o ha=>?_),_,bs.length<=5,((s.part,s.k)),_,λk v=>IsT s.heap n k v,sO (.ref r),sO (lnW p (sq out e.1)),sO (plW (sq out e.2)),_,QcA cp σ,hL S G Ls,_,_,tb f L,_,.tup xs,λr=>.cons r .nil,_,λS=>NG p out S wd e,_,K.In s.heap,Vals dvs ds,sO (.dT kx),.ty "",[.ins C []],(Q5 h).star,["program"],0<bs.length,_,0<ws.length,_,_,_,Ls.length+1,p.length<=3,_,[MO.lst []],_,λj=>(by rcases j with rfl|j),c=(nO,()),λp f=>s.heap.update p f,_,K7 x c.N,λa=>(by let#[y,r,rfl]:=Jg a),l.map QR,.int e.1,λs=>AllBare s.gens,λd o=>BlkOk X d o Nb cp,_,_,λb=>b.map Qr,A[i]?=sO x,λa=>by show Nh a (Nu _ _),_,_,#[#[c,]],_,R.length+1,PMT X a ta,_,(by simp only[Yp]at e),_,(by unfold pln at p),_,_,by rfl,_,_,["script"],_,e.fs+1,_,Ze vs=true,_,_,trQ q,λa=>InU p out M a al,_,_,_,vs++dvs,.dic [],i.t c a,p.map JJ,hG G Ls,Q false s,PT X a tA,λa=>!decide a,.int 0,PM X e me,coLoB c x,Wk FD n L,tvZ D,NU _ z,atP es,cd x,λx=>env.kindOf x,[a,b,d],R.ρ x,dcn x.2,H a=sO o,aa i j p,M.map Q0,a.size-1,QL [0,1],gL G key,λe=>λ_ _ e=>e,_,_,_,_,_,_,_,_,_,_,_,λa=>a.map .str,sO (.lst (is.map (QaD R))),w::ws,_,Qnm q,Qb 10,Wds p,_,_,_,a==b,λx=>IsT h n x v,.dK b,_,λn σ2 h2=>Qs t body n σ2 h2,λy z P N i=>(by let#[y,z,rfl,P,N]:=Qhf i),λb=>FR K R fs b,e.1∈S,mi σ h,R1.ρ j,c::x::r,List FM,(by rwa[Nr]at this),_,Qr e.1,_,λq=>q _ (I.hok.fresh (Nw _)),x="end",mC w,Qj t,QZ 3,zB K,λa=>#[a,rfl],λX=>PMG X tg b,λw=>drf h 40 w,.frz _,j<R1.N,sO .ag,ι->ι,Qr key,λa b=>ItOk K R a b nO,λi=>I1.list i,λe=>by show(Nd.mp e).1,λq=>q.lstAt r,by decide +kernel,λr=>lcg m r i,λi=>sortedS i,λa=>h.all y a,_,_,_,_,λm t=>by simp[m,t],λy=>(by rw[NQ,Nr,El]at y),λZ2=>box frN Z2,λc=>D.nx a c,_,λh=>.nx σ h,λe=>by dsimp only at e,λp=>(by unfold pur at p),_,_,_,λi j f=>(by by_cases i:j<f.length),(by show xz9;·cases e),P6 l j,λo=>qu v c y E o l,_,gz xAb,_,_,jv e,λd=>ς x i j d,_,_,by show á r;rfl,_,â f c,uI h,(shL M out w).map λq:Nat=>Î jve,λa=>by show uU a,Z.map λq=>Î jv5,_,#[_,rfl,Å],(by let#[e,m,f,d,l]:=xJ3;show xO6),runEnd m ό,s.heap.get? b=sO o,decide_eq_false É,(("numbers",Ä yT)),λB=>by let:=xNj B;show ϻ,b≠X.env.locals,λu=>by show(qu e j i p u q,xQb),_,sO (Á (i+j),h),λa=>by show(Ž g r,xI5,a),λc=>QfY hc hk hkey ha c lu,Ψ zpa,λi f=>PM (P6 i f) elt me,#[_,ŭ,rfl],_,_,pu Pq x5 x6,h.get? b=sO o,_,∀b u,qt b u,(λq=>j (ϟ q)),λi j d=>by show(ŏ i k e j l g,xFh j d),_,_,λi j=>sO (ă jDh,h),uC b k,[sO (uI h0)],j b o e a,∀o,qt a o,by show AW v c;apply _,_,_,λa=>show zvd from Na a,_,_,_,_,sO (Ĩ jU),[Ο qva,ţ],_,_,_,sO (Ï v5),_,_,_,sO (AU Hc),sO (Ï ql4),_,è b,_,_,λa b=>show ń a from Na b,_,λd a=>by rw[d];show NL a,λy d=>(by let#[y,_,rfl]:=TM d),zv9 d f t p,(by unfold Qk;show Ξ),λq=>by rw[NF (Ü q)];show q,A.units+1,à å,atI xFb Ň,mq a b,AU a,w∈Pz,λa=>plain a,ŵ R a x,đ d e Q,ý xGj N9,kK<cLine,R.map jP6,ů kE xNf,E.map se,Ş h,_,ϟ z,_,Ï a,px zyb,yN Bc,ō sx,_,pF ó,_,Ï Ϝ,pT e,_,_,AU pC,some iP,_,_,_,æ qeb r,_,v=Ä Ŏ,Ļ d PQ,λa=>mFn Q3 a,ú C,_,_,_,_,_,_,ú D,_,_,İ g,_,ye L,Ģ e,ź d,Ï b,λa h=>(by ·rw[Ó a]at h;cases h),λj l=>(by rename_i j l;show PC l),qmg V,ď+1,x=Á i,R++[s],λa=>by show(xI3,ħ a),Ct b d,rJ h G,.int 0,[.ins C (lsF yT yX uW),Sx,Sx,Sx],_,(by refine congrArg (λd=>ķ d iO) (funext (è p));show(Đ c h p,Hu c)),(by subst e;show I1.fpOk (Nw _) (s9 I1)),λF=>VB (o:=Qw f) (g:=[]) (by simp) F mH ?_ (by simp) #[_,rfl,by simp],(λj=>((os'++g)[j]?).bind xDg),.Call Pw uw [] pos,λd=>tS p out sK zGj qAg d,_,Q (.ref s.heap.objs.size) { s with heap:=h',toks:=tk },λa=>Qe wGt a (mC (.int 0)),(h.update a jY5).get? a=sO xHe,_,λc p=>(by rw[decide_eq_false (λz=>A3 z)];show zGc c p),mC jSb,.tup ((Wds p).map .str),_,_,_,_,_,_,_,λI1=>I1.hok.fresh (Nw _),_,_,_,_,stW p out,b++qA++[MO.lst zw7],λn=>Eg p out j++((nx p pL).take n).map λt=>(j,Te),by simp only[Zu,Nk,e];rw[if_pos jSc],λτ t M=>Inv (Mi.blk X scope cl Nb f H2 C fp ka) [] τ t M,_,attributeBase o name X.env (Br o)=Hh o,_,_,(by rw[show n+(j+1)+1=n+1+j+1 by show zf5]at this;show this),_,_,_,_,_,sO BQ,F++[zKj],drf h n,mC sS,λa=>PMS X xE5 a,_,λb=>.Call xG8 b [] pos,λm=>G++qTg,run.map Qj,λa=>a==sysModules,λc a g f b=>(by cases e;show(iA c,bM a g f b c)),Kx (Qe wIx (Qb 1) (mC jSb)),λj c=>by rw[show qS7 by lia];show c,λs=>(gn M s).map .str,(Eg p out out.length).map (stW p out),sO (.lst (gone.map .str)),sO (.int j),λH=>un9 rfl zR8,ledW w,[Ο rH,qC7],_,.seq its.toArray n,LX xGh,(by repeat (any_goals (first|assumption|wp_step))),.bl true,rawInt ((i:Int)+1),forIn _ _,Mi.blk X scope cl Nb S Y C ex pn,mC (.str "pair"),λq a=>Gk (s:={ s with heap:=q }) e c d (by decide) a,mC qeh,HT.sIx xs.length 0 lo,_,_,_,_,(λb c v e=>a b c v (x.trans e)),.Call (.Name x p) [] [] pos,λf a b=>show ObjOk X.prog X.w _ f _ a from b,Qa (Qb 4) (Qa (Qb 5) Qc),_,_,_,_,_,.dic (fd (FD++xfc)),_,Array Keyed,_,λc d=>Rs c xHg d st0,_,λd x=>show s.heap.IsTuple ad d.toArray from x,λx y a=>if qw4 then sO a else nO,_,_,_,λo i=>.Subscript o i pos,(apos.endLine==cpos.line)=true,_,_,_,(e::es).length,qVi k=true,λg i t x=>(by rcases Q1 g with⟨i,t,rfl,rfl⟩|⟨x,t,rfl,rfl⟩),∀σ H Q,t' σ H Q->t σ H Q,_,Qf 1 ZT (Qa (Qb 0) Qc),_,c%2147483647*48271%2147483647,λz q=>(by rw[Qu (λz=>zM0 q)];show q),Ip K mainGlobals x,mMt "list" QeB (Qb 4) Qc,by simp[Qw],x.2.map cdL,λU=>(by unfold Qcy;simp only[U,K9,Nk];unfold QmN),(by let#[as,m,d]:=ϗ e;subst d),.type "list_iterator",by unfold Wr;show zW,(kyL p out).map Qr,λa=>res xIe a 3,Builtin.Tuple.tupleExact _,CC p out M K G [] D B [] c,e.1.2.map .str,_,(λ_ _ _ _ _=>(h ..).2.1),λm x=>(by rw[Nt]at hw;let#[m,x,rfl]:=Ng.mp hw),λj=>(by rcases j with rfl|rfl),#[way,part,en+1,false],l.map (aW p out M),fd F0,behindInMarks op b=false,_,_,_,by show zbd;omega,((part,k)),_,_,(λ_ _ _ _ _=>(h ..).1),_,_,(Q5 h.2.1).comp h.2.2,_,_,_,_,(λi=>zYi),_,b<s.heap.objs.size,_,_,_,out++a.extract c (c+k),_,λa=>starEach a X.env,DctE prog w s.heap d xs,_,#[r,q.1,q.2+1,false],.bool true,by simp at h;show h,by rw[Ol];kernel_rfl,_,Dd X.K (.ref f)=true,λQ=>by show Nh Q (by decide),(((sIx n 0 lo:Nat):Int)),.int 0 0,items.length<=sizeLine,_,s.heap.IsTuple l items,modify (QgB minGallop),[("or":Str)],res kp (hk R F) 2,_,pyNext (.ref it),λd c=>s.heap.IsSliceOf d vl c .none,H a=sO qYj,s.heap.IsList l items,b.length=n,_,tu D v.1 zNb,zhj=sO (.ref f),(by let#[i,j,rfl,rfl,q]:=h),_,O0 K (.ref f)=true,λa R s=>codeAny (model prog w) A a R s,Mt%(m+1),ps.length=items.size,wa (EE p out) k.1,λx=>s.2.2.2.1.push x,Qjo i c (e::es),_,_,_,_,_,hI p out M P G Ls,(sc E S n).map QR,La.reverse.map QR,h[n]?=sO (.dct c),(by let#[n,rfl,hn]:=JA e1),_,_,λa=>.Constant a j pos,λa p=>.nx (a.set i (sO p.1)) p.2,RawD s.heap d es ep,_,X.mg "enumerate"=nO,a.extract ia a.size,b.extract ib b.size,us.length=vs.length,_,_,_,(ask p out M k q).1,∀b∈fp,t b=nO,_,l.take i,λβ=>ForInStep β,hg.kind.trans hk,_,∀u∈us,u∈vs,fd zGa,λc=>c.heap.objs.size+1,_,_,(by show jb4;cases e),ltr qra,_,λb=>by simp at b;omega,_,_,_,o.data=.dict es ep,b.length<=sizeLine,_,_,zY a=true,_,sO (.int size),v∈zii,(by let hl:=rv.length),_,_,.Dict [] [] pos,fin o n j i C D,λx=>congrArg List.length x,by rw[IS,Fw];kernel_rfl,mC (.int 4),by simp[ch],_,_,_,Ls.length+1,_,_,(("__debug__":Str)),D.length<sizeLine,_,_,_,_,_,_,_,_,_,_,_,_,_,_,_,_,_,(K w.params).In h,hI p out M P G Ls,λg=>λb o g e=>eb b o g e,binaryOp .Mult,Obj.putSet f g,(Q5 h).stE _ _,_,sO (ZL later),sO .non,PA X (e::es) t,by unfold KG;rfl,Gl X "enumerate",d.size+1,(λ_ _ _ _ _=>rfl),bk x,trS s,_,λx=>X.env.cells.lookup x,λq=>NY _ (NY _ (V2 q e)),compareOp .In,λm F o l S=>(by let#[ad,m,rfl,F,o]:=l.tupAt S),_,λC=>by rw[T.len];show C,_,ForInStep GaS,ForInStep HgS,_,.t (sh0::shs),k.rm.mono h.1,λm=>G++qTg,F.map zg3,b[i]?=sO x,by show d qn8 e,(by unfold Rws at h ⊢),_,_,XT h (.ref n),_,(gt R i).b,_,_,λa=>Paired a ks its.toList,_,_,_,λf=>(by let#[ad,g,rfl,p,_]:=f),PI X tg iter wi,_,λf=>by rw[NB,NB];refine .cons ?_ f,_,_,zM a=sO d,_,_,_,_,_,Rws X.K R ws xs,setPending st u,[.i q.1,.i q.2],_,_,_,_,_,_,List (List Nat),_,sO t,sO (Qr (ask p out M key q).1),sO (.int (ask p out M key q).2),Nv this.symm,(U7 j c).isSome,JJ x,Yk met,_,λh G=>MM ek eo h T G,λt E=>(by let#[n,rfl,t]:=JA E),mdS p s,.int i t,_,_,λd=>Nh (Nu _ _) d,SqL X.K H a xs,_,SqT X.K H a xs,_,_,H a=sO zp,_,NoAttr X.K C f,fs.length<1000,Slot T name id,_,_,_,SqL K R.F a xs,_,_,_,RawD h d es ep,_,_,_,_,_,_,_,_,(λ_ _ _ _=>rfl),sO (.ref 2),_,_,L.length<=2,_,_,#[w,s,true],λa=>.Assign a e pos,tOp r ta tb,_,_,_,λg=>Zu (drf h 40) g,λX=>by rw[QT,Nt,X];rfl,_,((n,Wds p)),_,_,_,Q6 (Qb 4),λB E=>by rw[Nz,<-B];show E,λa=>(by cases e;show .flat rfl a),Mt%(m+1),_,_,#[_,rfl,?_],sj m h n,Qm (Qb 9),Qm (Qb 4),λf=>Ds K (.ref C) f,_,DctR K R a kx,a.size+b.size,s.2.2.2.2.2.1,_,s.2.2.2.2.2.2,G κ M N p st,r.1.ps.length,.own x,a::b::rest,λb=>Fun K x b st f fd,PMA X [a] ms,_,_,_,_,_,_,_,_,_,_,_,_,_,_,_,_,_,Ze us=true,_,_,_,_,_,_,_,_,_,_,_,_,_,_,_,λe h=>(by let#[o,e,h,hd]:=id hit),out.push y,λA=>KE (A.map cdL) [],λl=>LineOk bs ws la l,((K,[])),λc J=>λb o c e=>An J c,λa=>Rw K R a a,by ·simp[QK,Qx,b,a,ch],(λ_ _=>False),G κ M N p a,IsPart vl lo,_,_,ns.length<=n,DGet H a y o,_,_,q.gsub a u e,items.drop i,U8 true,turns m,ia+1==a.size,tf f 10,x≠"either",Wt (i+1),0<out.length,_,_,_,_,_,_,_,_,_,_,_,_,_,_,_,_,_,_,_,_,_,_,_,_,_,_,_,_,_,_,_,_,_,_,λh0=>by rw[Nr];show h0,_,λd=>.int d.length,λa=>Kd K R h H n v a,(bk m h 0).1,λf d=>#[f,iter,d,0],λj a=>j _ a (N0 ..),(by simp only[ET,b]at h),(sq m h n).j,((f,l+v,t)),A.length<=j,Lp K C=true,_,Na ?_,LR K C=true,sp vs H Q E,_,vs[i]?=sO v,ps[j]?=sO p,PMA X es ms,OpM X.K r f,_,ps.length=n,λP=>(by let#[x,l]:=aj i P),(X i x l).2,(Z i x l).1,λa=>h _ _ (Sg.refl _) a,yy j=sO k,c out ia ib,minGallop+1,c out na nb,na-1<a.size,(ps[i]).2.1,(ps[i]).2.2,Ls[i]?=sO l,λa=>JV [] a h.length,λV=>List (Option V),λb a o=>ObjOk X.prog X.w b h' a o,λk=>.Tuple es k pos,λW=>Option (HF W),sO (true,h),Rw.str _,List Str,Qa me Qc,a.size-1,λP=>P.cast P.n.symm,λc b=>(by let#[x,c,hk,_]:=b.ex),pk a b c,λH=>SqL K H a xs,λd s=>show d+1<=s from z,(λp hp=>?_),J.stop i H,Vals vs us,false=true,Ro K R o u,items[j]?=sO v,nrm w=sO k,pln w=true,(by unfold dep at d),KD ws=true,sO (ws,[]),atKey xs k,below xs j,ib==b.size,na<=a.size,nb<=b.size,Zw n ks ls,Sb.Ex g h',Mat ls k e,p[0]?=sO x,(4-i)*702,[QJ p],b::rest,by split;·rfl,.rt w h,U9 true,R1.ρ n,.lst [],At xs i,i.t c q,swE E S,w v.1 t,tvZ D k,sO (.ref n),D0 _,.d n,λl o d=>(by let#[f,fd,F,l,o]:=d.ex),na-1,k+1+i,Option HO,if_pos hk,if_neg hk,PA X es t,tIG X.K b,tI X.K me,T=="list",T=="dict",λd j z g f r t=>(by let#[d,rfl,j,z,g]:=f.refAt r t),PM X i mi,PM X e mv,λh a=>DctE prog w h D a,(ps[i]).2,(ps[i]).1,kindOf st,[nO,sO 2],ls[e.fs]?,x.2[s.k]?,n∈ks FD,kyL p out,((q:Int)),λa q=>(EJ _ _ a).trans q,λa g f d j=>(by let#[a,g,rfl,f,d]:=j.tupAt r),QbG hu,[e,it],bind _,WC f m,((e.2,e.1)),r x y H Q,λs=>Ni (NO _) s,by show True.intro,(by simp at this ⊢),Q7 one,Nl (Nl ?_),Nv d,H b=sO u,sO e,J.go i H,λH'=>J.yld i H x H',Room k A,λb=>#[b,rfl,rfl],Df _ _ _,Bool×MH,p.1=true,NC.mp hw,λr=>#[rfl,rfl,r],Yl L n t,.seq #[],pil ls k,L.map QR,.ref q.1,rf i,pk a b c,Qc9 i,λe=>eval e env,N7 ?_,λa=>O M a.size a,ZZ (x:=x),g.2+1,rcV R,ks[j]?,(by unfold Rw at rv),by simp only[ET,b],sO .oo,(by let few:=A.few),p.1=q.1,.bool b,KV a vs,v=.bl b,Cls K C,((b,p.2)),eqW a x,.ref ad,V1 k ws,Ex h h',λb=>by intro b xs us e r v,tk f 10,m.2∈P,λs4=>Jk (QS s4) ?_,sO x,sO (.int 0),lo+n,λc=>IsPart c hi,kV k,λp=>q.sub p u e,eqW x y,Ku e,λn=>Rch E S a n,i==j,λd=>PA X [a] d,(by let hit:=st.2),λi=>.int i 0,λl r=>Nf (F6 l FK) r,by infer_instance,r.1=nO,X.mg x,by refine Nl ?_,R1.F a,KG a b,sO σ1,j∉js,QcE ws,es[i]?,uniq l,f.ok Z,sO .en,y∈bs,dcn ls,rk p s,((wd,q)),wa M q,gn M s,a≠aN,a≠aR,gL G k,λt=>PSs X st t,λw=>(by cases w;show .nil),λa h=>wIx a (.int 0) h,λr=>LexA A s r,k b u q,λf d a=>(by let#[f,d]:=Nd.mp a),(by rw[F]at C ⊢),λa=>.nx a p.2,λI F=>I.hok.fresh F,(by simp[plN]at e),λa=>.Assign a e _,λa=>λ_ h=>sO a,λa=>h true _ X a,∀b o,b≠a->ϙ->zAh,[Ő,uc,Cg w,sO ë],[sO Ϫ,ğ n,υ r],[ii,Á N,À cr,dB],∀b o,ϙ->zAh,Aq ϛ,∀b xs,zmi xA5,by show(HV j,xDf),#[yF,[]],jL t m e l,#[e,cv],λi h e=>(by let#[i,rfl,q]:=h;show á e),jp4 xBg,cG cH,by show(jqf,xT2),W9 ϛ,Ï P5,λA y=>zmj e1 e2 e A e3 y,some lI,ė m=zpc,Ş i,Ė x,jE a,İ c,Ĩ f,Ϡ a,Ģ l,Ģ d,0<j/\zG5,fG m=nO,Ï g,ú l,ú I,TV z,è e,ϔ z,fh=sO w,fh=sO v,Nat->Ϸ,λa=>by split at e;·show zmg e a,qS8=zpc,Nat->A4,C0 b,rep x n,vM I,by intro l h;rw[zS6],Nat->Sc,vL+1,AH+c,qmg W,by show(xU6,qx),Nat×jy,BP+1,[Î jU],[uO,ţ],yc=sO q,zDh=true,jG L=nO,wl∉Cp,sL H,b++[k4],(λi=>r6),St.emptySet TZ,λa b=>ZI a b QP,λe a=>by show Χ e a,(s.heap.push (St.emptySet (St.ledW w))).objs.size,λc=>H b=sO c->H' b=sO c,λe8 e9 e3 P z g=>(by let#[ys,e8,e9]:=ģ e3;show Ĭ P z g e9;split at g),(s.heap.push { cls:=kt,data:=zw2 }).objs.size,lV ns k CH vg zci xt θ x7 qUb x9 x10 x11,(by repeat (any_goals (first|assumption|wp_step))),λa b d c=>DJ x a xi BL jr .none kV b pm d c ct,rT a b Bw x5 qUa x7 Ų x9 ű,mo p M x2 x3 x4 di x6 x7 nO,(λq=>Î xB9),λu Y U Z M S b=>(by let#[#[ob,u],Y,U]:=ģ Z;let#[#[ix,M],S,b]:=ģ U),Obj.mapSeq λ_=>(#[]:Ķ),∀j v w,õ cL->xK9,λf a e=>(by show Ě f b a;·subst f;show(â Z9 e,new)),I.base.free b o e n a,λa j=>(by let e:b=a.heap.objs.size:=é j;show oN),X.s₀.heap.get? b=sO o,sO { cls:=Ę,data:=zCe },.inr (Ł L U m d),λa=>CG a,t.place.toList.drop zvh,Nat->β->Ī xCa,(by let:j=k+1:=Í;subst this),[Qw f,À iw,cJ],[#[xL9,j,0,false]],λa=>∃i,v=Á i/\a=Á i,λd=>(by let#[d,_,p,_]:=ϒ q;show xO3),λd=>(by let#[d,_,p,_]:=Bp q;show xUa),λq0 t S=>(by let q0:jz<t:=Í;let S:(t:Int)<1000000:=Í),by show(xE8,ŏ a b i g d h),[MO.dic uB],λe j h1 F I=>#[e[j]'(Nf (Nf h1 (İ F)) (İ I)),Nn _],λi g c=>#[_,_,i.int_eq,g.int_eq,Ļ c qN],Ē l (uE A j L),h'[j]?=sO (AU xX1),[QJ p,À Ϝ,À sC],λD C d f=>by show(qCe D C d f,PC f,Nl h),λl=>by show(Š f,qJc f,Cn u l),by show(xJd,ku c a j b m),Ĩ [Á d,oW o],Ł R1 H1 g f,jR8=xs.length,I.freeC x c e,(A5+qRd*1).toNat,(λ_ _ q=>Ŗ q),(λ_ h=>A3 h),by show(xT5,ħ (h _)),[Qw J,À [qKd]],(by rw[i]at b;show γ b c),λd=>(Kz h a).bind λc=>(K9 b).map λk=>d,∃u,yi e=sO u,λa=>if zB3 then sO a else nO,ku c a f b xM6,yN å,pu Pq rC rD,Ċ v h1,BA\/vy\/Hf,λP=>by rw[Nr];show nz P,Ń b=sO u->zBb,sO (À qF,[]),(λq=>Å),λa=>Ė a,λe A=>by rw[V5,Ó e];show A,PB=CQ\/PB=j8,zAb<=sizeLine,k6 r=jT a h',((r:fm×Unit)),Ψ ó,[Qw f,ţ,ţ],[Î jU,Á k],TH a [x],sO (À qF,h),zPh i r/\iW h,ė m=Ċ x h1,λo=>(by let#[w,hw,rfl]:=TM o),ă (AQ xW0),uE l A j,[Ä i,Ä j],[yk q,Ae q],j7 y++zy0,h[j]?=sO jW4,x.1∉Pz,[À (w4 K)],hk ut sv,zv6 a xVi,λe=>by show(Ů e a c q,qLc),Ä (j+1),uQ e=sO as,uQ d=sO bs,λf a=>(by split;· rename_i f;show a),mj zJ9 n,mj zJa n,i9 ř,à jR3,sO (Ï iw),Q7 n6,sO (Ï qq1),K++[Ź],λx2=>by show Bh z;·show x2 z,λU1=>ŀ i7 (Fs X.K U1),λf Y=>by rw[Ò f];show Y,λb h1 x=>by show Bh b;·show h1 x b,ĺ c a,mq o i,j0 z d,fG f=sO v,uC e k,uC g q,by show(Š r,xN2),ą oQ xR6,px xKh,px xK8,by show(Š r,xLb),mF=sO xVb,D8.mpr ş,xs.map jWd,So->j<=vL,lt' x key,lt' key x,ul xDj,[xGc,Á k],sO (ţ,h),vD++st,[Qw f,ţ],h0++oK,i∈ixs R,F.map xGi,λa=>Q a { s with toks:=A7 },λc=>Ï (c.set j v),λm=>#[m-1,ć],sO (dB,h),λf t i=>by intro h;rw[NB,ths,f (Η t i h)],Ň+1,Α xI7,Α xIj,λx=>Nf x (İ u),kf=sO pO,kf=sO fA,by show(jm h,xn),((ī,xK7)),Ã->Bool,qfc=sO as,((Ù x,h)),(by cases e;show jm r),by intro l h;show jO8,obj=ϋ s,Î [k,x],Unit->Ŝ,ul um,yN ĕ,à qy,à ó,ul î,g[j]?=zG8,ú PV,AU BS,! vO x g,Ï k8,(by unfold Qm;show Ξ),Ï jTg,Pm ó,Pm ť,hk ut sv,Ï sC,λh1=>(by rw[Nn h1]at this;show ϻ),λd=>if_neg (yZ d),by show yh (Ϡ h),λL=>∀l∈L,qI l,λa=>NL (Nf xH6 a),λx8 x9=>kS p (.lst Ϝ) rn su sJ fY x8 x9,forIn ifs true λc r=>if r=true then do let ok <-isTrue c jQc xF7;pure qdj else pure (qJ r),(a.map λ(n,k)=>if(zvb n)then xOb else(n,k)).lookup x,λs H M a=>Mi.blk X scope cl Nb s H C M a,λJ=>λe J=>Ϩ (model prog w) xD8 Q J,λn=>k==NameKind.free&&qz3&&wP n==j8,λc x=>λb o z=>c.sub b o (x.f b o z),wpAny _ A.in1 xE1 _ _ s,λa=>Z5 a "numbers",lT n0 kw r Pq (sO (.ref wl)) rC rD,(by repeat' (first|(with_reducible rfl)|((with_reducible refine JE ?_ xT)<;>dsimp only)|(with_reducible refine Qy xT)|(with_reducible refine Zq ?_ ?_))),below t.place (sj t.mask h N),emptySet sM,λd=>uS k xVf xVg xVh d,(by rw[show W8 f v xR0=xFi from rfl];by_cases hk:k=f),((match zi1 with|ã o=>sO o|none=>if zzf then H1 a else nO)),.fields #[.int lo t,.int hi u,.int 1 v,],(s.heap.push { cls:=kt,data:=jXc }).objs.size,congrArg bind ?_,RK/\(sD a)=false/\∃vs,jf6/\h.DictOf zNf a vs,Ds K (.ref C) "__setattr__"=sO xGe,(Bk.map QR).reverse,mo p M bA qIe nO nO nO nO nO,fpL r aN aR aA (G++[((ask p out M key q).1,h.length,[])]),(by cases a<;>first|(show gd b;cases b.1;done)|(unfold V1;rw[if_pos b.1,this];rfl)),s.heap.push { cls:=il,data:=d5 },AH+(runEnd m (bk m h k).1-(bk m h k).1)+1,l.set wl (.lst ((Wt++[(ask p out M key q).1]).map Qr)),Qk (Qe wEq (Qe wIx (Qb 0) (mC (.int 0))) sW),Qk (Qe wGt zx8 (mC (.int 0))),Rws.pur_mono b ws xs xIb c,by unfold ixN;rw[if_pos (by decide),if_pos (by lia)];rfl,b++[k4]++[.lst (Bk.map QR).reverse],(by unfold Qar;rw[Ei];refine' ER;intro e _;show qE4),oS p (zHe x) xVe,mdS p (sq out q),(wa (Eg p out out.length) m).map (aW p out M),c.heap.push { cls:=.type "slice",data:=.fields #[vl,vu,.none,] },(λp q=>zRa),Qe wIx (Qb 2) (Qe wIx (Qb 1) (mC (.int 2))),Qe wIx (Qe wIx (Qb 1) (Qb 4)) (Qb 5),w.params.followText "set-order",mFn JO (Qa jt Qc),mFn JO (Qa (Qb 3) Qc),mS p (sO (.int j)) qId nO nO nO nO nO nO,Qe J3 xEi (Qb 2),.fields #[zgg,rawInt (zAa-1),],(Obj.putSet es' t' o).data=.set es' b t',by show(CP h z,absurd z.symm e,z),EE p out,.Call xK4 (e::es) [] pos,Wd.map .str,(Builtin.Range.rangeSize lo hi c).toNat,h.set bl (.lst zz6),(b.extract k (c-1)).reverse,Qf 1 Z0 (Qa (Qb 0) Qc),(by let:=congrArg List.length H.nm;show jb),Zf (λb o z=>d.sub b o (x.f b o z)) l,Qe wIx (Qb 2) (mUn Yy (mC (.int 1))),λa=>(Qh prog w).keeps a f hd iF,(s.heap.push (emptySet (ledW w))).objs.size,G++zz3,((match h[n]? with|some (.lst ws)=>sO ws|_=>nO)),(λi j=>decide xJg),[.Subscript o i pos'],[#[tg,iter,ifs,0]],EA ?_ qae,Qf 2 QN (Qa (Qb 0) (Qa (Qb 3) Qc)),Tw++[MO.dic (fd [(m,0,nO)])],λe=>λo e=>k it (by simp) o e,res (zaa [1]) R7 3,by show(ϖ a b I q h,xLg),λs a g p=>show s.heap.IsTuple a g.toArray from p,by apply(zKg=="do")=true;decide,Qa (Qb 3) (Qa (Qb 6) Qc),(λz:Nat=>(vw z,g z)),λa=>Qe Qck a (mC (.int 1)),[(e.1,Ls.length)],backTo pos jYg,by show gd p;unfold th;rw[Zi f ws p];rfl,(Bk++qx4).map QR,backToKw pos xKc,ws.length<=sizeLine,by wp_walk using Dx a,IW b;show qs1,(Obj.putSet es' t' o).ExactSet,Qa (Qb 4) (Qa zA5 Qc),seqObj "tuple" vs.toArray 0,λc g=>(by subst c;show g),zW0+st*(0+(k:Int)),∃j,aL/\zO/\zi4/\zx=a,Qk (Qe Jw (Qb 1) (mC .non)),Qk (Qe wEq (mFn JO (Qa (Qb 6) Qc)) (mC (.int 1))),a.length+xN3<=sizeLine,(by let#[i,P]:=ai x hm;let#[D,t]:=ae i x P),QA 2 (Qe wIx (Qe wIx (Qb 0) (Qe wIx (Qb 1) (mC (.int 1)))) (mC (.int 1))),Qv (g:=[]) (by simp) e (by simp),met++[s],k b o (λz=>a (by simp[z])) e,(xg8 i)\/(xg8 j),mFn J9 Qc,res (zaa [0]) wD 3,λV=>ns.map V.int,λe=>qLe->bindArgs e zI4=pure fg,λa=>Paired (λp q=>Rw K R p.1 zB7/\xo=MK/\Rw K R p.2 q.2.2) a kx,((d.toArray.size:Int)),a.length+rest.length,λg=>#[g.kind,g.failed,g.o,rfl],λa g=>λ_ _ _ q=>Ju a λ_ _ d=>Ju d λ_ _ q2=>g _ _ _ _ q2,λB a b=>(by let B:ths a b=sO b:=Zi _ _ (by simp)),mo p M vT nO nO nO nO nO nO,ask p out M k,B4 g b=sO o,envOfC b a s.heap.objs.size f cd,λu d a Q=>λu d=>wpAny (model X.prog X.w) X.A a Q X.xe d,DX C s.heap.objs.size,(V1 k ws).map λp=>xR8 ,Qh prog w,x.length<=sizeLine,sq t.mask (L2.hN w 8 k) n,λh=>(by simp only[Tr.t.injEq,L0,Tr.i.injEq,and_true]at h),λC=>JX (L:=D) (k:=k) (xye C),.ref q.2.1,λB=>hS.at λo e=>d.heap S _ B e,.ok (.ret .none),NZ (NW (by decide) _) hu,yi b=sO u,HT.sIx items.size 0 lo,λl=>(by cases d;let#[v,rfl,l]:=KA rv),.type "tuple_iterator",(t.put (sj t.mask h N)).2,[yk x,.int x.2.1,.int x.2.2],.Name "enumerate" p,0<=j/\zX4/\i.natAbs<2^64,Nat×Nat,pS bs ws later size op t k c,i _ _ _ q,(Zu (drf h n) ws).map .lst,xL6=_,(by let f:=xxh;let g:=key 1 b rfl),xMg=false,λb=>(a.take b).map (ask p out M k),(λe=>(zYg,Ha e)),L2.hN w 8 k,QJ p,λf j=>(by rcases Q1 f with⟨j,u,rfl,e⟩|⟨y,u,rfl,e⟩),s.TypeIs (.ref a) "tuple",λq D m=>Em _ (Nf (q▸I2.lt:D<f.heap.objs.size) m),zw=sO xPi,.seq vs.toArray,ND.mpr rfl,xs.length+a.length<=sizeLine,.type "list_reverseiterator",bS ls xVd,sO (Qj #[c,part,k,false]),QaD R,P (n+r.length) a h',Jj ((k:Int)-1) (-1) k,L2.IsT h₀ 8 k (.ref x),.ins C xP5,.ins C ql2,(ask p out M k q).2,p.take j,Qi [.ref n,.int m] h,(prw p).map .str,λr u i=>(by rw[Rws.cons_iff]at rv;let#[v,r,rfl,u,i]:=rv),by show Ni (Nu _ _) hu,K3 (.dic (fd FD))=true,v+(1+rem x i (d+1)),ZV (Qa (Qb 1) Qc),[5,6,7,8],p.map λx=>QcC bG,(tv L k).isSome,X.env.kindOf x,Array GenState,Rws.th_ok c l ws b us h1 d,min (N-lo) (minRun' N N 0),(λz=>(no _ z).elim),if_pos (d _ _ _ c),Nh Qgp (by decide),λN=>sj t.mask (L2.hN w 8 k) N,(pendingOf st).toList[i+1],.frz (ns.map W.int),c.inn qv5 b,B.sub x c e,w.params.setOrder S ep,(s.heap.push _).objs.size,λa=>(by apply(Ls.map λl=>MO.lst a)[i]?=_;rw[Nt,h];rfl),λσ2 h2=>Zp items src b body r σ2 h2,λb=>λa (p,j)=>a.setIfInBounds b p,b.rws++xQ1,[(k,h.length,[])],fin qvd,I.tok _,([]:xm8).length,Q nO { s with heap:=h' },#[[xv9,a],[]],SetTable.below t.place c,∀c st,MM qA2,QA 3 (mFn Xk Qc),nrO out,e=x\/H e=sO tW,(pendingOf st).toList[i],lev (ls.map cdL) k,qH (met++[s]) st,by rw[d.isEmpty],N.length=ps.length+more,QD fin mi cp b mt me,.cons (a:=p) (b:=q) h t,List.range ns.length,Str.ofString "__next__",by simp only[NK,DQ,or_false,not_or],rule "list.sort.gallop",.yield xT6,b.extract (c+1) je1,mC (.int 2147483647),tf f2 26,[QJ p,ZU p,Qj s],λt=>pS bs ws later size op t k c,h[n]?=sO (.dct dq),j<1073741824,X.A.in1.units+40<cLine,Str.ofString "keys",sO (.lst vs),#[way,part,m,false],[(m,0,nO)],.str "grows",λx b=>(by rcases x with⟨t,rfl⟩|⟨b,rfl,rfl⟩),λf=>(by let a:(g==f)=true:=beq_iff_eq.mpr h),Dd K (.ref C)=true,sO (.ct σ2 h2),b.rws.map qXe,λt M a=>(by let t:∀q,xb8<sizeLine:=λq=>Ni a (by decide)),(ly E S eE L).2,sO (Qj (sq out j)),.Name x j,ObjM s.heap x dx C mA,.Attribute e f pos,-18446744073709551616,by simp[dep],below.go xs j f lo hi,List.range es.size,.type "dict",<-elem' b ib,<-elem' a ia,b.size-nb,mC xx3,DG _ (by decide),(O++[x]).map .str,λx=>sO (.str x.1),dK (shL M out w),PGs X es qF0,λI=>λo e=>hk I (by simp) o e,λp q d m=>(by let p:=Dv q;let d:xwb:=zhg p m),(bks ls ls.length).st,mdS p (sq out e.1),fin gone (gt R i),QcD X pins H b,by simpa using hu,#[us,[]],items.size<=sizeLine,d.params.defaults=[],ė a=sO xX2,List (Str×NameKind),.type "set_iterator",Hi M a b n na nb out,["program","manner"],#[[],[],[]],Qfp p q.1 zR4,(wa M q).map .str,λi h m p=>(by let#[#[cls,dd,data,i],h,m,n,hd]:=id p),λq e=>by rw[q.len];show zU e,Qbo C h (.ref r),mC (.int 7),mC (.int 8),tf (tf q 3) 4,hG G (Ls++[[]]),(λf vs=>Yb0 f vs),cp.length=Nb.length,λb a=>∃b,zgc/\a=.bl b,compareOp .NotIn,λa z=>a (by rw[z];show NA),sq m h n,(λ(p:Nat)=>rawInt p),Lo M a b,Hi M a b,(pendingOf st).back?,vs.length<=sizeLine,List (Value×Value),standAt apos.atName,by unfold QfT;rw[b],L.reverse.map QR,λc=>RelO (fs.lookup f) (c f),λr i=>(by subst z;rw[r]at i;show i),σ.set i (sO v),(hi-lo).toNat,λl=>Heap.SameBut it s.heap l,∀b,P xVc st,λg c=>#[_,rfl,WH ha hb d g jfg],by rw[if_neg (by decide)],z.length<=sizeLine,eval iter X.env,∀b∈P,y b=nO,λZ=>by rw[Nr];show Z,Rws.mono e ws xs d,X.mg "reversed"=nO,(by dsimp only;rw[if_neg nofun]),λd a=>(by rintro k c d _ _ ⟨f,hI⟩;refine JR a ?_),λa=>ZI a (Q6 (mFn J9 Qc)) QP,["program","spot"],#[[],0,0,false],(("do":Str)),way.map U5,(kyL p out).length,((ixs R,liv gone R)),λf=>f.get? s.heap.objs.size,λf=>show sO []=sO ks from f,by intro ps xs us e r v,(by unfold U4;rw[if_neg]),by simp only[Ya6,EY,if_false],f b _ q λz=>z,sizeLine=16777216,.builtin "max",.builtin "len",b.length<sizeLine,List (Key×Value),λa=>QD fin mi cp a mt me σ h,by unfold pur;rfl,by simpa using hi,λI H=>k I (by simp) _ H,es.size<=sizeLine,.type "enumerate",mC (.str "do"),sO (0,"Least"),sO (.int op),λe=>(by rw[z,g]at e;cases e),i^j.toNat,λg i=>(by cases g;let#[u,rfl,i]:=rv.one),wIn false,λe=>e 0 w rfl σ h c,(QfU kx k).isSome,λh=>SetL prog w h a ks led,λr=>lsO vs.toArray r,λM=>Ls[g.2]?=sO (wa M g.1),.type "tuple",(Qhc h H).get? b,b≠X.env.locals,Value->Sem Value,compareOp .Lt,compareOp .Is,ZY X.prog X.w,Room (k+1) X.A,d.names.lookup y,(by rcases below n b with b|b),cl.lookup x=sO c,box frN m args h,Qh X.prog X.w,λa=>by rw[NX a,NX a],a.size+b.size,["pair",x,w,y,z],(hG G Ls).length,Q (.ref a) H,λt=>base.Ns mainGlobals t,pSq m h k,λz v=>by rw[<-z];show DM.mpr v,W.ref e.2.1,x+v.2,((Sum.inl a:Key)),((Sum.inr a:Key)),A.units+8<cLine,ZY P w,.List es pos,Qhc c.heap H,inplaceOp op,QbL ws lo hi,List (Str×Int),Gl X "reversed",items.size-0,(by unfold ofAClassStatement),lo+a.snd.fst,sz-1-i,p[s.part]?=sO x,s.way.length<=4,List (Spt×Nat),Der p out M k v,Q6 (Qb 1),λa=>h.IsTupleIter it a i,xs=[.ref p],λb=>HT.sIx b.length 0 lo,#[σ,h,KF,c],λs a=>SetT w G₁ h₀ s.heap S a led,λy=>env.cells.lookup y.1,Kx (Qb 2),Kx (Qb 9),by rw[OG _ rfl];show Nl h,h.objs.size<=a,binaryOp op,((O.length:Int)),Room k callerA,(λ_ _ _=>False),SqT K R.F a xs,List DictEntry,[.Name x pos'],#[_,hS,rfl],G κ M N p st',R κ M N lo st,ns.length-1,i.e c r.1.1,Nq (Ni p s),ls.length<=900,List (κ×Nat),Qj q.1,λl w=>RH j f l w h',sO (.ins C fs),keys.take j,QdD M p [] run,λm f d=>(by simp only at m hd f d;subst m hd f d),λD S=>(by let#[n,rfl,D]:=VZ S),λf=>(ths f ws).map .lst,.str nm,a<h.objs.size,sO k,TP X a b Q,by rw[N,o],start N vs,Rst K R' a σ,upd R.F p o a,Qu (hG a u e),Qe f ma mb,x.cps.size<=i,R.N+js.length,ZI t a b σ h,storedH_old t,by show D0 _,nb-1,Qjo i c es,k.gl h.2.1,coMo.h X k,["lines","k"],q.2+1,sO (l.map .s),(ks FD).Nodup,by simp;omega,V6 H.i rfl,λH'=>HOk X.prog X.w H' h',zg9/\Rw K R p.2 q.2,.int ep 0,λu f=>#[_,u _ _ f,rfl,_,rfl],λn=>List.replicate n c,.int part,λs=>Chn p s.way s.part,λJ=>by simp only[Kz,J],GrW out v,#[H1,I1,f],hk (R.map (fin gone)) F,NoAttr K C f,us++ds,W->Option Tr,Qx more m,i<x.cps.size,λr d c v=>Zx fin items src b mt me r d c v.2,EC.mp h,TabIs es tab,sO (false,h),sO (.lst us),t.led=ledW w,(Nd.mp hk).1,bits h,MS X Y Z Nat,lo+a.snd.fst,R κ M N N a,f.d=d/\f.x=x,JQ r.1.1≠0,Qa a.m Qc,[nO,nO],[nO,nO,sO 5],sO (j,md,en),(λh n hn=>?_),by simp[bks],∀j,kp j=nO,.int en,qH met st,ixS out t,λa=>(l.map W.str).mapM a,h'[0]?=h[0]?,l.map rwW,tvZ D k=n,λj r=>λc v j r=>k c v ?_ r,λf=>Obj.mapSeq f,λa b f c=>I.lset (its':=a++b) f e (by simp) c ?_,λa=>by rw[Nz];show Nh a z,λx=>Txt.slice x lo hi,λA M=>G0 (es:=A) (ep:=M) lo,λu=>(by obtain⟨_|r,u⟩:=u<;>rfl),λb=>b.map λp=>kW p.1,λk=>(sc E S n).take k,(by injection e with c _),Nl h,H l=sO (.lst xs),Addr×Value,(λ_ q=>q),sO (.str r),frs X.stack,l.length<=m,(λi _=>n<=i),(j-i).toNat,OJ K C=true,i<vs.length,i<xs.length,n<=sizeLine,l.most=sO n,Lk _ _ _,Rws R ws xs,.l n,Qe (wIn true) (Qb 0) (Qb 1),y.2≠.cell,F2 X.K f,by simp;lia,js[i]?=sO j,Qn a b σ h,xs.map f,QI l,QI (x::r),Qj (sq out q),NM _ rfl,o.getD j nO,u.2.2.2.2.1,gallopOf st,ia+1<a.size,failedOf st,((lo,n,0)),(h.loc k).1,(h.loc k).2,(by let#[r,rfl]:=r),.str abc,tk f2 26,λz a=>(by ·let:=KR (x:=x) (i:=i) z a;lia),out.idxOf t,shL M out w,LW j lw L h,tu L k v,key∈W0++b,xs++a,λe=>λ_ _ _ e=>e,.ty n,λd=>sO (.ins C d fs),λa=>by simp only at a;split at a,λo=>(by intro a o _ _ _;unfold Zx),lo+hi,λn=>.seq items n,YaB s,λf=>λx=>(x.1,x.2.1,f),s::st,λa=>by simp at a;lia,λh=>by rw[Iu,h];simp,v=.str x c,IsT h n,trk h H,X.pn++pins,j<=1000000,!d.isEmpty,l++[x],GU I.hok e,(λ_=>nO),a.length+1,G.length+1,h.length+1,a.length-1,.bool true,R.F a=sO o,R.G a=sO o,.frz ws,sO (ws,nO),QbA X id f,pur b=true,ma σ h,ms σ h,c.1.length,(by unfold QD;rw[hi,Nk]),t.led=true,(λp=>g p.2),(λk hk=>?_),IsQ h n,s.2.1-1,List Qd.Kv,Kw l=false,U6 p s.way,x.2[k]?=nO,.str wd,0<sizeLine,hL S [] [],ek e.1,.ref aA,(gt R i).s,λU l=>(by let#[u,hu,U]:=rv.get l),[(k,v)],#[rfl,q],k.ext g,λd=>sO (!d.isEmpty),λa b=>Cal P w K mg base a x ps b,.lst us,N6.mp i,s.2.1-1,λe=>Nf (NW e lo) hn,.str nm,λa=>#[a.up,a.le],λw=>by show N8 w _,key=v.1,Sum.inl b,Sum.inr b,.cons _ t,Array Int,JF q c,Mut (H x),NU _ a,PS X st t,(b X k).1,NY _ z,NY _ (ND.mpr rfl),(b X k).2,Int->Prop,i != 0,#[_,e],IV _ _,E5 _ _,Ext R1 R2,ws++us,.r n,QA i m,x.cps[i]?,body σ h,m<1000000,Array Nat,es[i].key,Z4 rfl,(g p.2).1,s.2.2.2.2,ib<b.size,λb=>pure (sO b.snd),(by simp only[plN]at e),(by rename_i z;subst z),k.ix i,k.ix j,.Name x _,λg=>g.h _ xW7,(Q5 h).ix,[nO,sO 5],top 40,a.fs+1,(by simp only[stp]at e),Km a,t+st*b,cdL l=.ot,ls.map QI,QaM h1 h2,qH met st,rkD a.2 j,m∈ks FD,et k,Option Ky,Qr key,W0++Rs,λR=>Rst K R σi σ,λa=>MSt->MH->Option a,λs a=>SetL prog w s.heap S a led,λh=>L2.IsT h n k v,λs=>Ex h₀ s.heap,λd b=>(by rw[d]at b;simp only[Zv]at b),K×Value,.inr rfl,k b ob q,b∉X.fs,id I.loc,Vals c d,Int->Int,a _ _,Qai c,Rw.int _,mb d p.2,items[i],z▸E,x.ρ n o,.lst _,MH->Prop,.ins _ _,QbW h,(by by_cases hm:x∈A),ZL xs,by simp only[lsW,Nk],ks++[x],λP a g=>P a { s with heap:=g,toks:=tk },λd=>by show Ni (De _ _) d,KV kx vs,d.size+1,Wf n e x,.yield c,c+1+k,n<=ia+ib,JQ o≠2,JQ b≠0,JQ o≠0,e.kd=.ag,Ln->Bool,cdL l,U6 p way,y="pair",trK k,Gr P a b,Str×Spt,λt=>Value.str x t,λt=>I.freeC x c t,λe=>congrArg sO e,λr=>r x lo hi H Q,λg r=>(by let#[v,g,_]:=r.get e),λa=>wIx a (.int 1) h,λh a=>h.IsTuple a items,λc=>(a.size-na)+c,λe=>λz=>Ku e z.symm,λz=>sO (.str z.1),Nn a,Nv y,KV b vs,d c _ z,d b _ e,NL u,sO a,sO (.ref h.length),λI c=>I.hok.fresh c,Eb c,((0:Nat)),Nq g,Nq c,Nq e,Nq (Ni e (by decide)),Nq (Ni (Nh (Nv A) N) (by decide)),Nq (Ni b (by decide)),Nq (Ni I (by decide)),d++c,by dsimp only;split,[(f,v)],Yb4 _ _,n<R.N+1,Za n,hr 3,‹_›,QqU h n,pure (),.done c,Array a,((2:Int)),Ef.mp a,by simp only[Dj],DN LM _,es[i].1,m<=nrem,lo+n<=N,λa=>by wp_walk;show a,QZ 8,QZ 6,Ym a,ls[fs]?,Ql7 s r,V<=1000,.int fs,s∈met,f as h1,hG G Ls,by rw[EH];simp[Qcx],λH=>HOk P w H h',((a:Int)),λd=>by rw[d];rfl,λi c=>(by let#[i,J,c]:=I.look),λl r f=>by rw[<-l];show r f,λH s=>HOk P w H s.heap,(s.heap.push { cls:=zBe,data:=HN }).objs.size,λa=>jh (Qa qJ8 (Qa ŧ (Ϛ (Qf 3 (ZW a) jGj) jK8))),Œ i v1->Œ g c->š v1 m->š c l->xAf,Œ m v1->Œ l e->š v1 p->š e o->xAg,[sO ë,RP,Cq,bz,zLj,ğ c,ž,tj,nO,nO],by show(đ d o R,xDi,ς J x y r,xR9),(by show(xC9,xAj,joi o c);by_cases u:qn9),jh jj0,(by rename_i g;show(jph,xCf,ub f n J F)),(by let#[t,g,c,b]:=xzd;show ϭ t g c b),q.push { cls:=mL,data:=HN },by show(xLe,jk7),(by intro f a b B C g m;show jqb;rw[NS]at g),by show(ub c e w q2,Ž L r,joi q e),by show(xCh,gz gC,gz gC),[sO ë,HL,Cq,xk,ğ c,ž,nO],by show(jph,AB m F o l S e0,xBa),jh (Aq ϛ),jh xz6,Aq xz7,Ϛ (zz2 ø) xB4,Ϛ xA9 cD,#[R,d,h,w,g,f,st,e,xB1],∀(j:Nat) (w:W),xzi,À (out.zipIdx.map zn6),∃a xs,ψ/\zb3 H/\ύ,by show(ſ A e,xBj,CL y r c),λA=>∀(tk:Nat) (C:Cb),xK6->xEd A,ϳ (ō î),by show(zri h y t,P3 h v1),∃a xs,ψ/\qx6/\ύ,ji g a b v i c,by show(HR r E D N C B,rK t E),(by rintro(h|h|h);·show jo4 lS),(by subst m hw p;show cg x u r q f),(by subst p hw q;show cg y x u r g),show yH from r,by show(HR d j e2 c i Z,xRf),λi=>(by show xA2 i;·cases ĸ c;show zy5 b),[xU0,sO jLc,υ r],∀b o u,zmi jsi,by split at e;·show zmg e xA6,by show(HR d N M c L J,xAh),∀x∈O,zpd,zn3 a d g b,HR r o n p m l,Ϛ jDb zra,by show(xAd,jSg e),by show xA4;·show xRb,r[j]?=sO w->xzh,#[f,M,cy,?_],λU S=>by show xBf U S;rw[NX U,NX S];rfl,cg C B A y l,cg Q N M L y,sZ=0/\zoi,λz J=>by show(SI j,xPc);·show xC1 z J,by show(jL x y t q,xSi),sO (zr3,o::g),sO (À cr,h),ub d v1 x v,Ą D lW,λb=>∀k a,n<=k->k<b->js9,λa=>by rw[e,Nk];refine(if_pos a).trans ?_,by intro q;show#[xY,zp2],ŕ a σ c d,Nat->Tr->Sc,λa o=>ObjOk P w (Ą a o) h' a o,(λx c e=>?_),ς x d f c,λb=>holding [v,b] (Br i),∀b,iH->bX,i<2^62/\ql5,by ·rw[Ò d,Ò d];show þ,by ·rw[Ó d,Ó d];show þ,ġ xJe T7 s,(λ_ e=>A3 e),(λ_ z=>A3 z),BM c b=sO o,Ą T dt,pure (qJ r),P6 h f,P6 f e,Ph N l M j,jv6 I c,Á (lo+i*c),by rw[<-this];show Ļ f PQ,by show(jpf,Ů n l i h),by show(Ů g d e h,xG2),ŵ R1 cL v,some (Α a),λy u=>Bz y b (λu:b=S=>zJ6 z u) e,λg=>#[_,g,rfl,nl,rfl],Np _ hS,∃b,iH/\nN,out.push zH8,out.push zH9,pure (ĩ fE),λg1=>#[zAc g1,q.le,xV3 g1],λc=>by show(jHf i y,BE c z,xM2),jh xA0,Aq qb,cN lF,q5 xCg,λa=>((λw=>match w with|Á k=>Ù a|w=>w)),λn=>sO (ĭ (pP k (k-n))),(λ_ h=>ϥ h),ă (wG qQe),À [Qj sp0],.inl ze4,sO (ī,xR2),ă (wG xY2),sO (Ï qKg),o++[ţ],sO (ī,xR3),cZ->vx->Bx,[xGg,vF,vF],sO (Ï xV7),b++[k4],hk ut F,zv6 a x9,sO (Ï xI2),is.map nh,λc e a=>(by let#[ol,b,_,nl,c]:=e;show Æ xEc;refine(show ń xM7 from Na (IJ a hd (x:=Ä l) rfl (show ń (BF (jQ l==Value.none)) from ?_)));show xQ5;refine(show ń xM8 from xP3 a);refine(show ń xM9 from Na (Fe b c ?_))),λA a=>wpAny jv8 A xzb a E { s with heap:=s.heap.push (St.emptySet TZ) },by show(xMa,jB3,uU xB8,uU xA8),λa=>by show ê a,(by (show jO6;(funext g;show Ů f j q2 g;rcases f with _|f;(show(xM1,jth,jth));rfl))),.ref s.heap.objs.size,Shared.TypeIs { s with heap:=s.heap.push (St.emptySet TZ) } (.ref s.heap.objs.size) "set",(by let hS:(s.heap.push (St.emptySet TZ)).get? s.heap.objs.size=sO (St.emptySet TZ):=NM _ rfl),λa=>SetT w G₁ s.heap h' s.heap.objs.size a TZ->Ex s.heap h'->Q (.ref s.heap.objs.size) { s with heap:=h',toks:=tk },by show(ĵ a d n o e,#[R,b,h,a,d,j,st,n,T3 g c i #[R1,d,a,w,m,c,i,o,zZ2]]),λI n=>(by unfold Builtin.«set.__init__» noKeywords Builtin.Frozenset.updateFrom;generalize I:pyIter=PI;wp_walk;subst I;refine FC n xB6),λd r=>(by refine YaN (Q₁:=λobj d=>zu2/\d={ s with heap:=zwb }) F.kt_called_dict (Ya5 _) F.entry_dict_init xJb λobj d r=>?_;show uX r),xC5\/(zJ4 b a)\/(zo2 a)\/∃x,Pd/\a=Ù x,.inl rfl,λt=>λfin t=>fin=.done xC6/\Q (.ref s.heap.objs.size) t,∀b ps,H b=sO (.tbl ps)->∃more,H' b=sO xAe,by show ĵ a i o j e;refine#[R,d,h,a,i,m,st,o,zoh],λo c=>by show(Ph J v1 F o,Ž E c,xGa),λb g c e=>(by let#[l,b,g,c]:=id m;show(Æ xDe,Æ xQj);first|show Æ (D5 hit.typeIs (qig e))|show Æ (FL hit.typeIs (qig e))),I.turnedL (ch:=ze8) xOg hf (wZ e) (zW8 n) λb u n e=>by show â n e,((cp.map λo=>match o with|none=>nO|ã j=>match σ[j]? with|ã v=>v|none=>nO)),ŝ ĕ (à (Bi xA3)),λd f o j g c=>(by let#[os,d,f,o]:=id j;let g:s.TypeIs (ú c) "slice":=#[os,d,f];unfold getItem;show qj4;first|show Æ ζ|skip),λa=>Ş a,by show(xN9,jB3,uU xTg,uU xT3),show xU8=Î xB5 from rfl,mo p M (sO x2) (sO x3) (sO x4) di (sO (ĭ N)) (sO d) (sO qV3),∃(N:Int) (L:Ã),v=Î xBh/\ϣ/\jRj,λa=>by refine ê a,λb c=>by show(xD3,Æ (Nl (Na (Ii b c ?_))),jR,Æ (Nl (Na (Fv b c ?_))),jR,zi0),((λw=>match w with|Î [_,q]=>eqW q zrc|_=>false)),∀(k:Tr) (v:Value) (s:Shared) (Q:Int->Ϸ),dh k v->xJ0->ä xVa,λf a=>Æ (N7 (Na (Ui (Na (Ut (s:={ s with toks:=A7 }) (xs:=xs) hu c hD f a ?_))))),(by show BW d;rcases d with d|rfl;show jSg h;·show N5 _),(by unfold thO at e;show Az c g d e;subst d),λB h2=>by show(Æ (xWf (Ŷ o B h2)),qx,Æ (show ż xNa from ?_),Æ (YaT B ?_));rw[Y],(by let#[d,c,j,i,C,D]:=xR7),(∀b o,nj->Ń b=sO o->jOh)->oT,(by simp at n;rcases n with h|h<;>(rw[h];first|show Nw _|show Sw)),λe h=>∀e,P e->∃a,b (enc x) e h=sO a/\P a/\mt a h=sO (t x,h)/\(xS0 h),Q xN7 { s with toks:=A7 }->qv jAg Q E,((λj=>match zg4,l[j]? with|ã x,sO y=>qE6|_,_=>false)),λl i m=>Na (wpAny_dictFind_heap (s:={ s with toks:=Co }) hu b f hd l i m ?_ ?_),∀h',xLi->Bg d->Q () { s with heap:=h',toks:=Co },λt F B=>(by obtain rfl:i=n:=Í;show qe3;apply zvd;show Æ (xL0 t);rw[F9 (Nv F)]at hS;show zB8 B),λc e d=>(by show xTa c;let:=e xUh c.2 λy d=>(IB (λz=>c.1 (S6 z d))).mpr (h y (C0 d));show xoc),(by show(pR f k (zt6 f),xHd);let e:=qI6 H),(by rw[EW (Eb J)]at D;let#[u',r',q]:=xT0;show Hq u' r'),(G++zEg).map λ(e:Ky×Nat×ľ)=>(zC,zNa),λL B=>I.laid (t':=tk) kp Č (m8 L iP  #[zK8 B,b.toList,c',hv,qVg]),pR f k xB7,λa=>I.laid (t':=s.toks) (o:=Î a) jtd Č ?_,∀i c st,a<=i->i<b->xdf->û (g i c) xOc,mS p x3 x4 x5 (sO qK9) qU qV Cv qFj,by split;·rw[Nr];show Sw,λG=>∀c∈G,xBi/\∀i∈c.2,CM,(by rename_i i d;show Š r;let#[g,f,_]:=xZ c d;rw[r.2]),E1 (F.entry_type_call) ?_,λc=>λo c=>by show yG c #[_,rfl,Å],lV ns k x2 x3 x4 x5 θ x7 x8 ze x10 x11,by show ſ x b;refine xBd,by show(Š r,xBc),λX l n j=>(by let X:jZ2:=Ϡ l;show(Æ (xH8 X),Æ (xWa l),Æ (Of r n j ?_),xQ4)),.fields #[.none,xXh,ϋ s,xd6,.none,.none,],by rw[S7 c,OF,IT,Dr];show cI b a;simp;intro z,rT a b PR x5 o6 x7 x8 x9 x10,Đ t e xBb,∀{ad:Addr} {B:Ö},qZ7 B->∃i:Ķ,qD1 i,∀{ad:Addr} {B:Ö},qZ8 B->∃i:Ķ,qz2 i,by show(oB A g,zBd f,Š f,qz9 o),λj=>sO { cls:=Ę,dict:=nO,data:=.seq a j,slots:=#[] },[sO PF,nO,nO,nO,nO,nO,nO,nO,nO,nO,nO,nO],by show(Bq g,xBe),(by let#[o,c,d,t,b,r]:=x;show xRg),λa=>(by let M:=E4.notType;let L:=E4.canCreate;let J:=F.typeCall_set_1 a),OH (.ref f) (.ref y),λb g=>by apply ń xJ4;show(Æ (tupleItemsOf_ b ?_),Æ (DK g ?_),qx),by refine xC4;show Χ h xUc,Qm0 ë xC8 xO0,QbK ë (ĭ n) cC,(by show(SZ b c e,Š r);let#[xs,f,d]:=xZ q c),np wQ=xC0,Builtin.Slice.sliceAdjust lo hi 1 ũ,by first|show Ý Ay|show ê Ay,((λw=>match w with|Î xr0=>a|w=>w)),ô xV8 xCc,if v<0 then(v+ũ).toNat else qB2,λZ=>sO { cls:=Ę,dict:=nO,data:=zWe m,slots:=Z },qD6->d8 a=CF k->xQ0,by show(pR g k (zt6 g),xX4),ņ xCe c i zRi,λp=>(by let#[c,D,p]:=E4.mro;let P:=E4.made;let N:=E4.sub),λb=>by simpa[At,Array.getD,b,show So by show NZ a b]using this,Qa xGd (à zq4),Qcy Ti xCi xL5,Qcy Ti xCj xN5,sO { cls:=.none,data:=.fields A },.frz o u,s.heap.push { cls:=kt,data:=jXc },(by show(xWd,xD6);let N:v=u:=xK2;show xRh),∃k' b,yJ/\fJ k' (ú b),Nat->Nat->qhb->Ī (Ru xMe),ŝ å (à zq4),by intro s b;rw[ĸ b];show j,s.heap.push { cls:=kt,data:=zw2 },λz=>λb z=>absurd jvi Ç,if zz8 then sO ph else nO,if zz8 then sO (Ŀ,h)else nO,if zz8 then sO ztg else nO,QI vA=Î xC7,H++[MO.dic uB]++qA,Nf jKh (İ F),(λb ob q=>Ŗ q),C3 Q3 xCb,by show(Æ xTf,Æ qh6);apply ż jR0;rw[Ò a],∀n,n<N->CF n∈t.place.toList,by (show jO6;(funext d;show(Đ e h d,Hu e))),∀(i:Nat) (x:Pt),AJ->wS<=QkA i,λh B A z=>(by rw[Ek];show#[h,Å,λa B b A e=>z (by rw[ĸ A]at e;rw[<-e];show B)]),∀a,cZ->vx->a≠wl->Bx,#[aD d,H,ų,#[A7,xXb],q],(by split at e;·rename_i d c;show Χ e xX8),λf=>by refine#[a,h',?_,by rw[NS,jI2];show f],(λw hw=>by show(kv x,h x)),λv u r=>#[_,_,v+1,xM0,u.mapDictKeys _,IA hd _,?_,?_,?_,CS r],λd c=>(by let g2:zza:=jYf d;let g3:∃b,zxd:=jYf þ;show Đ b c g3),λN S=>Builtin.List.listExtendWith (ú N) p6 res,CY xD0,(by show jV6;let#[a,rv,p,hz]:=Bp Y;show RR),(by show jV6;let#[a,rv,p,hz]:=ϒ Y;show RR),∀Q:SortKind->Ϸ,v9 κ g->xE7,(by let:=KL (f:=Po) zph;show xTi),(by by_cases z:zZc;·show Ý (yZ z)),mS p e d xq xr qU qV zU6 a,p.rec .nil λr _ h=>ĉ xX5 h,by apply ve+n<cLine;omega,by show(Ů o b r x,xUj),Nat->qhc->Ī (Ru xMf),Qe ZX (jWj ø) ĕ,decide_eq_false (λq=>A3 q),λa b c=>(by show qG z a b;· rw[decide_eq_false λq=>z c];show qid z),k a _ (.inl rfl) e,∀b u,b≠e->ő b=sO u->zBb,rI0 λi j=>Á (i+j),[Q7 q,Ϣ],λI c=>#[.bl _,H,I,rfl,Ļ c PQ],(by let j:=xSb;show ku g d c b j;rw[L6]at c),model prog w,((nO,s.2.1,ň-1,nY y,0,T8+1)),ŗ i r #[_,rfl,r,Í],(by let#[x,rfl,_]:=y;show(xOj,xE9)),sO (Ĩ [Î zKh,zRe,Á k,vC]),∃a h',zEd σ h=jT a h'/\zD1,[Á q,Ϣ],λc a=>∀d,P d->∃c,xl7=sO c/\P c/\mt c h=sO (g w,h)/\a,G.find? zs4,∃T,v=Î jLd,show b∈([]:Κ)from z,by show(u6 f,Ļ b qN),λE=>by refine#[_,E,m,l,rfl,rfl,C,B,xLc,?_];show xEh,by show(zL2,zu0,Χ v xJ9),by first|show AE|show zE2,Qa xHc (à xFf),Wlk p R'/\∀t∈R',u0,#[R',n,d,L,v,q2,RF q3,?_],X.env.cells.lookup x=sO c,a.any (uC b k),by show jm h;simp;show xn,∀(w a:W),μ w=sO a->qEh,Ac c=sO #[AA,dd,qP1,f],(λi H=>i<n/\jJi),ŝ å (à xF3),λv m I=>(by let#[x,r,e]:=v ls[i] (Ff m);let I:qo2:=by rw[Nn m,e]),mS p e d xq xr qU qV zU6 a,X8 Ti [Á n,ţ] h,∀k v,RQ->∃q∈xO1,xN1,G++[(Ź,h.length,[])],s.heap.Ns X.env.locals m,(by let#[D,t]:=I.base.there b o e a),Đ t e (show qn4 from r),λD l=>(by ·rw[ES (Ģ D)]at l;rw[Yag]at l;split at l<;>cases l),(by show(vi h,ŏ v f d c b h);cases d),by show(wg,Yg ws p),λN M Q f F=>(by let#[qs,N,M]:=ϗ Q;subst M;show vi r;let#[z,zs,rfl,f,F]:=r),λw=>λk hk=>ins_mem.mpr (Ė (w k hk)),((nO,iV y,ň,ϑ+1,0,T8+1)),((nO,iV x,ň+1,ϑ,jp+1,0)),Qa xHb (à ĕ),Qa xDc jKb,[Qw xc,À xWh,À (yY C)],(by unfold tv at b;show(Ϻ e o b,xM4)),(g c z).2.2.1 x c e rfl,ņ (vh y a d) i j f,by apply kK+40<cLine;lia,r=sO v/\∃h',Bg a/\xHf,(by let n1:=F.sub_list_set;let n2:=Ya0),λϴ=>(by let I:=E4.init.lookup;let H:=E4.init.bind ϴ),#[f,zhf i,Ä S,zhf n,zRb,],[Rz c,c.heap.objs.size],((nO,zZ7,ň,nY x,jp+1,0)),vN n x u->vN n y v->qK4,zTd (λ_=>(#[]:Ķ)),Qa Δ (à zx9),B0 jL9 å,λq=>λi h q st k=>st.at (zyf e),by show(ϖ a t I7 F z,again I7 F),(λz=>l lU),by rw[m];show Aj A,∀n,n<R.N->R'.ρ n=SU,show jQe from Vr c,sO #[il,nO,xS5,#[]],(SU==sysModules)=false,(by let lt:i<n:=Í;show qe3;apply zvd),t.place.toList.take zvh,((nO,j7 x,c+1,d,f,ac,e)),((nO,c-1,d,j7 x,f,ac,e)),(by show kM l b;let#[la,b]:=a l b),(by let en:QR e.2=Ae e:=rfl;rw[en]at d),(is.map nh).map Qj,#[Á fw,H,ų,þ,q],(λb z=>Ai z (o b)),(Str->vo)->iX,(b a p.2).bind λq=>xLh,(by rcases xXg with z|⟨w',U,P,u,N⟩),xW9/\∀n,n<N->vX∈l,CF N∉t.place.toList,λi=>show AH+(i-AH)=i by show Eu z,s.heap.IsList l items,.ref s.heap.objs.size,Qk (Qe zM3 BB xFe),[Á t,Á s,Á r,Á d],List (κ×Nat×Ø ι),jX (JF q d) q,qv (Br fe) Q E,np [b]=[Pk b],np [b,d]=[Pk b,Pk d],è h,m a h=Ċ w b/\iM R b,f a h=Ċ w b/\iM R b,AU (U4 a k v),by show(AW x g,Ě j B y),à (Bi zz0),à jH0,à (Qb 11),à jGh,show qP2=vI from e,#[[Ä l,Ä b],[]],by show Æ zyc;refine xD9;show Æ qVe,(by rw[q]at Z;show ý (NN Z) xV0),by show(xSc,xJ2,ū C y u A),λf=>by show(Æ (DK (T:="list") (Ϡ f) ?_),qx),pure (qJ (nO,qK2,0)),yW jK7,(O++nG).map .str,I1.kept (t':=tk) kP,f fC xQh,∃u,us=[u]/\ñ x,(by let:x≠n:=xO8;simp[this]),Ē m (uE l j M),entryFor_of_tree qY,λC=>by show(jgg,Æ (Fe C rfl ?_));dsimp only,by rw[<-a];show ŭ,(by let j:xPd:=é d;show mV j),by simp only[NK,DQ,or_false,not_or],a.extract ň a.size,b.extract ϑ b.size,λf m=>#[hg,Ý #[_,rfl,KZ ha hb j f m]],#[m,Ŷ d c g,q2],œ j=œ wo->jD≠zg7,λa=>fS ls k y a (sO (ĭ (Ň+1+i))),Qk (Ă xmg xR5),if Sm then 1 else 0,λj a i n=>(by split at j;·show ſ e j;let:=s a y i (j0 e n);omega),Re (ĭ i),Re (yv b),by show(â e f,xH4,xX6),holding [v] (Br o),by show(bZ,h),λt=>(by let#[#[items,t,h1],e1,e2]:=ģ e),.seq (qdc i),IsTup ai T #[rM,v,],v=Î (ii::Á N::T),lo+(hi-lo)/2,λf h2=>#[hg,Ý #[_,rfl,Ya ha hb f SR h2]],(λb d=>Md/\jSi),QE zt9 qm9,by show xLf;·show(TJ,xX0),1+ϧ (b+1),∀n σ h,AV n->Bo,λB=>Ni (by simpa[dI]using B) Ð,À [Î [Á m,qgh]],∀k v,RQ->v.1∈K,(("risen_by",Ä yX)),.ref (TH b qA),sO (Ï (w4 d)),Ϡ h,s.heap.IsCell c v,(λb o e n y a=>?_),(λb u q=>Ŗ q),(λh=>a (ϟ h)),sO (ă (!XS a),h),λY B C D E=>(by let#[Y,f,hx,dr,B,lo,C,dd]:=XG I D hn;show(Š E,xua E)),b.toList=f.map ki,Value.type "dict",by rw[NT];show e,(λfin n q=>?_),λq C=>q.2.at λo e=>fk C l (Eb Q),es.toList.take zvh,items.size+1<=306,(λ_ _ z=>AS z),jk ø,λa=>(by show AN l;·rw[f,a]at z;cases z.2),#[Ô t d,Ô t d],∃L,tm/\Y3 p s L,Ni (rP c) Ð,#[Å,Å,Å,Å],AQ (i<j),λe=>by show jC;apply ń (forIn e _ _);rw[<-IU],zDi=j8\/zDi=A9,Ϩ M (qyc u) Q s,∀b∈fp,zI2,(zvb n)=true,jT9=j8\/jT9=A9,by show(BE m l,Ϥ v g p r q),sO (ă (XS a),h),sO (ă (x==y),h),λf g d=>#[f.non_eq,by rw[Qjh g];show oh],[Á i,Á j,Á c],λd f s q=>by rw[d,Nk];show jS9 f s q;simp only[Zu,f,Nk,Ea,e,frN,Er],by show uY #[l,h,g],λc=>λ(fin:Fin) c=>∃v,jQ5 c,∃a:Â,Hn a/\RN,#[old,zLe e g],λg H f=>(by let g:qp3:=NN H;let f:=Np { cls:=il,data:=d5 } H),jd b (ň-1),by show jS0;walk_at"mrg",λa=>qm8 a,(λc i g n e=>xE4),fX [orL],fX [Ql1],lev ϊ (k+1),[Î [w,p,d,b],k],∃x,xWj/\q.2<ď,λf m a g w=>(by let f:=m.ok part x a;let g:∀l∈x.2,qC5:=λl w=>Jg (f l w)),∀s∈st,ϕ,h[n]?=sO (Α rH),[Ő,sO ë,sO rG],λj W0=>#[(j::W0).dropLast,xTj j W0,xT8],Qe ZX jS8 ĕ,([]:Ã).length+1=1,[wH,Á m,.int 2],.own a,λa=>Un fs ex H (Ą a o) h h',I.cne x c e,k R1 H1 g f,by show(ϖ a j I3 m q3,xIc),λi j=>AQ (i.cps.toList<j.cps.toList),(λv _=>v=Ϣ),õ w->ŵ R' w v,#[g,yu f,zFa],σ.set i vT,λg f=>(by let#[a,e,#[xs,i],q]:=g;show AW e f),s.mono (Ē m l),sO (Á (i-j),h),(by intro b;rw[NB]at b;show ig b),∃us,o=zZ5/\ej,λo d=>(by show xl6;let#[σ1,o,σ2,h2,d,g]:=zM4 e),λY=>Vals (Y.map ki) b.toList,λU c x q1=>(by show Pv U r;obtain rfl:xU4:=U;let#[c,rv,x,hl]:=ϒ q1),by show Æ xG3;apply xG4;show jR,λu=>by rw[YS d];show zc8;·show u i s,(by let#[k',b,D,C,e3]:=xOi),.type "set",Value.ref l,λt=>congr zw4 (funext (è t)),λg r=>Ý #[_,rfl,WN ha hb g r SR],jk xHj,W9 (à qc2),jN xG0,Bi xFj,[yg,3,5,7,9,11],λD o=>by apply xO7;rw[QaR];show QiM (opk (D x Ç) o),#[nO,Å,rfl],λm f z=>(by subst m;let#[a,w,b,c,rfl]:=Qjm f;show xF9 z),sO (Ï (sH pA)),(ly E S eE L).1,h0++[xH2,Sx,Sx],(λk d f=>Ai d f),zyi s a g p,zyi s i c w,(((zK0:Nat):Int)),(λw=>(w,q)),#[H,ų,xRd],λa=>λxs H Q=>∃i j,xO2/\Q a H,λi y=>by show(Đ g x p,Đ i y q),λa=>upd H1 c.heap.objs.size a,(k==0)=true,f a b h=Ċ w c,sO (Á (i*j),h),sO (Á (-i),h),(((zxi:Nat):Int)),show jV5 by lia,sO (Á (-1),h),by show zbd;lia,m (ο::ws) [o],Ł b z o e,Ł b o z e,s.heap.push zvi,by show RX,by show xPj;simp[this],λi=>by show y7 i zN8  z;·show j i z,#[_,hS,rfl],Ct a (c+k),(λc d=>vY/\xRj),λE e4=>(by let#[aa,e1,e2]:=ģ e;show Ĭ E e3 e4 e2),Qk (oU ĕ),by show zy2;lia,by show i5 h g q;·simp[h],À (La.map Po),À (Lb.map Po),(λv _=>zRh),by show(By a j n,By b g m),d++[À S0],sO (Ï qF),(by let#[g,rv,p,Y]:=Bp n),∀b,Tg b->bX,(by let#[r,rv,p,Y]:=ϒ m),Value×Ë->Ϸ,λt=>CV (S.nofree _ (D7 t)),Ï (c++a),(by let e:xS4:=é j;show oN),p w=true->jY9,by show xcf;·rw[m,l];rfl,qdh=is.length,sO (Á qhj,h),sO (Á qi0,h),kx.map ki,∃b,Tg b/\nN,.seq items nl,Qa1 z xMd,by show(ĵ m w x d e,xFg),λu=>λb o e=>Ŗ (u _ _ Tm),(λk a l g=>Í),ð->ð->Ī mh,<-jd b zQj,<-jd a zd2,à sx,à AM,B0 xJ7 ó,Ă ø xFc,à Bc,by show xI0;·show q,(by let#[k,hk,rfl]:=TM C),Ï (yY O),Ï (yY g),#[xL4,xKf],vj Ð,sO (ĭ t),λv=>sO (Ï [Á k,Á v,zT5]),zr (f+1) σ h,[À zD9,À yP],sO (À qph,h),by show zL3;·simp[dI],zPh c t/\iW AI,ō Bl,[sO ë,xO,ž],Ï (w4 b),Ï (w4 W0),Pm î,h.length∉Cp,sO (uI H),Ĩ mR,zGb::T,sO (QcC bG,h),σ[i]?=sO θ,I.cell x c e,Ak b u e,Bz f b qh7 l,Bz f b qh8 l,f5 [a],ff [a],ϖ x B t u D,qs2 [b]=SO,tq [b],sA [a],sA [a,b],(λi j=>Á fw),O2.mpr h,Ϥ v g1 g2 r y,((false,zfi e)),uE g f d,uE m l j,sO (À e,h2),((Ù (x++y),h)),by show(xS3,ϭ n g b a),ky x i j,sO (ă zn,h),Η x b h,∃a,A6/\xMi,zDj->zDj->Prop,A.handled=nO,gallopOf qMg,out++qi4,∃b,qxe/\nN,Ă î ó,Ŵ jt ť,Ŵ å um,λd=>(by let#[t,i,en,g,c]:=b.ei j jbf d),[Qw f,À qd0],by show(xF6,xP6),sO (Á j,[]),[Î jU,Qj s],[Î qE,Á k],by show pK;rw[P,QH,Ϲ,Ϲ,Ϲ],by show TJ;rw[H,QU,Ϲ,Ϲ,Ϲ],sO (À yP,h),sO (wC,nO,h),[Ő,sO ë,a],by show Hu o,Z.map zz1,sO (Ä SL,h),qG2<sizeLine,λi=>∀k v,RQ->v∈gL i k,by rw[V5,į],h0++[xH1,Sx],by refine Qy xT;refine congr zw4 ?_;(focus (refine congrArg sU jOf;(show zvg))),(by refine#[key,Bk,h,Zz ?_,hk,ć,u,s,rfl,ş];let:Qe Jw zxb Bl kA h=sO (vC,h):=Wx jVa rfl rfl;unfold Qk;show Ξ),(by obtain⟨u,x,rfl⟩:∃u x,l=u++[x]:=#[l.dropLast,l.getLast (λz=>by rw[z]at h;cases h),xN8]),sO xyf,Qe eT ť (mUn (zve C) (Qb 2)) (lT n0 kw r Pq (sO (.ref wl)) rC rD) h,(by (refine Qy λst=>?_;rcases zJb with _|⟨_,_,_⟩;rfl;(dsimp only;refine congr zw4 (funext (è t));(focus (refine congrArg sU jOf;rfl));(show zTi t)))),codeAny vt callerA xHh (jQa i c) c,I.turnedN (ch:=ze8) (t':=tk) (xs:=[.int i,x]) xJf hf hT #[xXi,[rM,v],ĉ Sd (du r),af],Zn (gwS p M out Cv Hb PR dj (pT e) dk x9 x10) H,(funext λ_=>funext (è t)),by show(xP h,h),yi b=sO o,NW (by decide) _,jY3/\zMb/\(∀x c,X.env.cells.lookup x=sO c->c≠b)/\∀p∈zX3,p.1≠b,res jV2 qp4 3,((s.heap.update a (Obj.mapSeq λ_=>(#[]:Array Value))).push zzc).push uG,mC jRh,(∀b o,s.heap.get? b=sO o->h'.get? b=sO o)/\zL0 h'=sO (zM7 g)/\c={ s with heap:=h',drawn:=d,toks:=tk },Lx (prog:=X.prog) (w:=X.w) xH7 e c qfe (by simp),Lx (prog:=X.prog) (w:=X.w) xH5 e c qfe (by simp),fin gone,(backTo cpos qdi).all qEd&&(backToKw cpos qi2).all xRe,∀t,codeAny (model prog w) A xEj R s,(by split at e;·cases e;let#[v,u,rfl,i,g]:=Qhf rw;show#[_,_,xP1,k R H _ (Ext.refl _) f qN]),(by rw[Nz,Nz]at this;by_cases t:qn9;·rw[XI t];rw[show min d.length c.length=as.length by lia,show qe0=true by simp;omega,Oy]at this;show this),.done (sO (j7 y++Ct a d++Ct b (c+1)),j7 y,d,c+1,e,ac,f),ZR va qng Zn (gwS p M out Cv Hb x5 x6 x7 x8 x9 x10) H,(by rcases z with⟨rfl,rfl⟩|⟨_,rfl,rfl⟩|⟨_,rfl,rfl⟩|⟨_,rfl,rfl⟩<;>rcases w with⟨rfl,rfl⟩|⟨_,rfl,rfl⟩|⟨_,rfl,rfl⟩|⟨_,rfl,rfl⟩<;>first|(show xua j)|cases j),(qge h)/\∀a∈fpL h0.length (h0.length+1) yX uW G,h0.length<=a,((zBc:Nat):Int)==0&&yg==1&&(qbh-zBc)==items.size,((items.toList.drop qj3).take (kC-iC)).toArray,Jc jS1 jS2,Jc (Qk xG1) jS1,(by show λQ H5 a o c L=>#[Q,f,P,I.trans (p.trans (Ē u o)),c,L,r2,U,xM M (p.trans (u.trans o))]),(xs.drop xOe).take (jR8-sZ),λA a=>wpAny (model prog w) A xF1 a E { s with heap:=s.heap.push (emptySet sM) },mo p M bA qIe (sO (.lst mN)) nO nO nO nO,((iC:Nat):Int)==0&&yg==1&&(sIx items.size items.size hi-sIx items.size 0 lo)==items.size,¬xEg=true,λJ=>fin=Fin.done qp7/\wpAny (model prog w) A xMh Q E J,(∀b o,s.heap.get? b=sO o->h'.get? b=sO o)->s.heap.objs.size<=h'.objs.size->Q vs { s with heap:=h',drawn:=d,toks:=tk },lnW p (sq out e.1),if(a.any λb=>decide (b.1=k))=true then a.map (λb=>qB b v)else a++zZ0,λx9=>qT p out M PR dj (pT e) dk x9,λs b=>λr s=>r=.ok xJ5/\OldK b.heap s.heap/\s.os=b.os/\dY s,.builtin "type.__call__" #[.ref C::us,kw],compEnvC scope cl C X.env,λa=>call_list_seq p a z A hd xMb xId,swapsWith e qU9 pos.line X.env=CW,codeAny (model prog w) A xGb R s,EA (Nl #[_,rfl,"set_iterator",_,#[_,NM _ rfl,rfl],slotN.lookup,?_]),wpAny_tryCatch (show wpAny _ _ xK3 _ _ _ from ?_),λa=>QD Zv a [nO] η qnh (Qb 0),λa=>QD Zv a [nO] η zwe (Qe wIx (Qb 0) (mC (.int 2))),if zx7=true then _ else _,(drf h 40 a).bind λx=>(Zu kq d).map λc=>(ă jYe,h),QgU hc hk hkey ha hn h (lo:=hint+l+1) (hi:=hint+min o qWc) jXh,mFn JO (Qa (Qb 0) Qc),plW jU7,#[ok.mod,ok.kind,ok.glob,ok.blt,ok.above,ok.inj,ok.has,ok.cab,ok.hd,ok.frames,ok.stk,ok.exf,ok.bs,ok.bsz,ok.noex,ok.exfs,ok.funs,ok.frf],["enumerate","zip","dict_itemiterator","dict_reverseitemiterator","odict_iterator","itertools.zip_longest","itertools.pairwise"].contains n,∀whole,isTrue a X.env whole=(jT8 a),HT.sIx xs.length xs.length hi,mMt "dict" X8 (Qb 0) (Qa (Qe wIx (Qb 1) (mC (.int 0))) (Qa zA5 Qc)),λe1 a b=>(by let e1:XN (Ad j) a [Qw xI6]=sO b:=Qdq #[by lia,by lia,xJi]),qL8->B4 g D=sO qd6->jdf Q (.ref D) g,kS p mn rn x5 sJ fY x8' x9,λσ h=>QD Zv va [nO] (QZ 0) Vw jRi σ h,mw+zEj+xJh<30,Shared.TypeIs { s with heap:=s.heap.push (emptySet sM) } (.ref s.heap.objs.size) "set",(by let:=e (j+1) x (by simpa using l) σ h (sG j c)),.bl false,Qf 1 Zc (Qa (Qe wIx (Qb 0) (mC (.int 1))) Qc),∀(n:Nat) (x:Int),xr9->Der p out M tz x->x<=N,(by refine congrArg sU (funext λ_=>funext λt=>?_)),Qk (Qe wGt (Qb 5) (mC (.int 0))),Qk (Qe wGt zx9 (mC (.int 0))),(by subst C D;rw[YbS,QdJ I l r t em];show#[.bl _,H,I,rfl,k R H _ (Ext.refl _) l PQ]),tS p out sK zGj qAg d,by rw[<-WV p,<-Ww F];show#[.bl _,H,ų,rfl,k R H _ (Ext.refl _) d PQ],L2.Loc X.env.scope x/\(fL\/X.env.scope.names.lookup x=CQ),Kl xK5 (NO _) xSf ?_ ?_,Qe J3 (mUn (Z5 C "numbers") (Qb 0)) (Qb 1),λf s q=>(by unfold QfF;show Ŕ (by simp);let f:xnh:=by unfold QbW;rw[s];simp[q]),by rw[NQ];show d.tup t xF4,.int 3,#[xqc,xqc],(by let J:jTi=sO o:=ha;split at J),(s.heap.push (emptySet (ledW w))).get? s.heap.objs.size=sO (emptySet (ledW w)),λb=>PMI X xPe (.Call zBh [a] [] pos) b,λe=>(by ·let:=e t d;show(jb,Nf this (Nu _ _))),starEach [a,b] X.env=[(false,eval a X.env),(false,eval b X.env)],xx d/\(pendingOf d).size+1=kN,λm=>(by refine#[by show(u6 r,z),?_];let m:H1 c.heap.objs.size=nO:=I1.hok.fresh (Nw _)),(λj=>(p.2[j]?).bind xG9),kat_one u v (QrQ _ A d _ x y u v j g g1 g2 _ _ _ _ xe5),Qf 2 JG (Qa (Qb 1) (Qa (Qe ZX (Qb 2) (mC (.int 1))) Qc)),Vo [.lst (M.map Q0),Qj s] h=sO (.lst ((gn M s).map .str),h),∀h,Je [qhe] h=sO (XU zI0,h),al.filter jZ5++(mdS p s).toList.map λw=>(w,s),.nx (lT n0 kw r (sO (Qr key)) (sO (.ref wl)) rC rD) h',λx7 x8=>kS p (.lst (M.map Q0)) rn (sO (Qj s)) (sO (.lst (gone.map .str))) x7 x8 x9,λa=>do let v <-whole;standAt a.pos;holding [v] quc,(relabel scope X.env).names.lookup x,if zCg then sO (.non,h.set n (.lst zW7))else nO,λg=>Qs rW1 Vt g qg2 [Qw f,.lst qd0],#[ϰ b o e n P B,ϰ b o e n P B,I.base.free,Ł b o e B,I.base.tups,I.base.frzs,I.base.tbls],A.under (.builtin "type.__call__" #[.ref C::us,kw]),λl r=>((λfin l=>match fin with|.done f=>R (.ok f) l|.again r=>r.quiet=true/\nU r R l)),λs=>setPending s ((pendingOf s).modify ((pendingOf s).size-1) λx=>(x.1,x.2.1,qef)),Wt.map Qr,λa=>ObjOk P w H (h.push { cls:=il,data:=d5 }) h.objs.size a,if∃x,x<R.N/\x∉A/\Hy=a then H a else R.G a,kS p mn rn x5 (sO (.lst (gone.map .str))) x7 (sO zff) x9,(by subst e;let#[o,e,c,d]:=st;show#[o,e,λv z=>by rw[d]at z;cases z]),Rp∈K/\(k,zD6)∈gL G Rp,(by obtain⟨n,rfl⟩:xo2:=jXd),ZK (rT a b x4 x5 x6 x7 (sO (.ref j)) TD x10) h,λb=>PI X xT4 (.Call zBh [a] [] pos) b,Builtin.List.listExtendWith (.ref s.heap.objs.size) (.ref r) .none,kS p (.lst (M.map Q0)) (.lst (run.map Qj)) nO nO nO nO nO,sq out e.2,swapsWith value xNe pos.line X.env=CW,λb=>compPost (model X.prog X.w) X.A X.xe use Q' (.ref D) C qEg b,Qv (g:=[]) xP7 ?_ xRc,((false,Hh e)),λm=>λi h m st k=>#[st.1,st.2.at λo e=>k it (by simp) o e],by first|rfl|(simp only[firstArgMember];rfl),sO (Qr v.1),(λz=>a (by simp[z])),(by show λA M a o d p=>#[A,f,x,d,p,N,C,xM w (g.trans o)]),PE X (.Call (.Name x p) (e::es) [] pos) xXa,if c.length+b.length<=sizeLine then sO (.non,h.set n (.lst (c++b)))else nO,by intro n σ h c _;show#[σ,h,by rw[Zp,zE3],c],[.str (gt R i).w,Qj zYi,.bl r6],s.heap.get? p.1=u5/\H p.1=nO/\p.1≠X.env.locals/\p.1∉X.fs/\∀v,p.2.data≠.cell v,JV ns [] h.length,wpAny _ A.in1 xL7 _ _ _,λa=>Qs xLd a f (lT n0 kw r x3 (sO (.ref wl)) x5 x6) h,n+xLj=n+1+r.length,(by subst L hw hK;let#[m,Q,Y,hn]:=hg),beq_eq_false_iff_ne.mpr λz=>absurd I.big xOh,(h,x)::es.toList.drop (below t.place (sj t.mask h N)),Qf 3 JU jVf,Wx (un9 rfl (V6 H.i rfl)) rfl e,FnOk X.prog X.w X.K X.mg X.base CX k f fd ps xP9,(by ·rw[XA t];rw[show qe0=false by simp;omega,Fb]at this;show this),tf jY1 8,∀h,VH [.tup (x.2.map QI),.int k] h=sO (zT5,h),Qa (Qb 2) (Qa (Qb 5) (Qa (Qb 8) Qc)),Qa (Qb 3) (Qa (Qb 4) (Qa (Qe ZX (Ŵ (Qe wIx (Qe wIx (Qb 1) (Qb 4)) (Qb 5)) (mC (.int 2))) (mC (.int 1))) (Qa (mC (.bl false)) Qc))),Builtin.Dict.updateFrom "dict.__init__" s.heap.objs.size (.ref l) [] .none,λy=>λfin y=>fin=.done qaf/\Q (.ref s.heap.objs.size) y,λh'=>(by let h':xJ8=true:=h),λa=>(by let A:0<=a%26:=zHc;let q2:a%26<26:=DU _ (by decide)),typeLookup fA "__getitem__"=pure (sO (.builtin id)),(by rw[Di (by let:=(Nd.mp a).1;simpa using this)]at a;cases a),λf=>λu hu v hv e=>f xKa,.dic (fd FD),.nx (lT n0 kw r x3 (sO (.ref wl)) x5 x6) h',l.foldl xKb [],Value.type "StopIteration",modify λs=>setPending s xL3,ItemsOf xM3 a its.size,zF8-lev (ls.map cdL) (k-i)+ch wO,Xl (b:=QZ 3) (body:=Vq) xN6 Z,((wa (EE p out) key.1).map qg0).map KY,entryOfKey zB2,Qme (.int i) (.int j) h=sO (.int zM1,h),QeI d f xIg hD,gt (QcB (R.map zEh) rL s) i,.Call xH0 (e::es) [] cpos,Qe J3 (mUn (Z5 C "numbers") (Qb 2)) (Qb 0),λb=>Qe J3 (mUn (Z5 a "numbers") (Qb 0)) b,layClean.free m o eU nV zSc,Qf 2 Qi (Qa (Qb 0) (Qa qv6 Qc)),QQ (Qf 2 Q4 (Qa (Qb 6) (Qa (Qb 7) Qc))),((pendingOf st).setIfInBounds i aK).eraseIdxIfInBounds (i+1),∀h',iW (h++[.lst []])->live d (L.map QR) h',wpAny _ A.in1 xK0 _ _ _,Qf 2 Qi (Qa (Qb 0) (Qa (mC (.int 3)) Qc)),Qf 2 Qi (Qa (Qb 0) (Qa RY Qc)),Jh zG2 h=sO (.lst (L.map Qj),h),((wa (EE p out) key.1).map qg0).map KY,λb=>Et EV b.typeIs entry_tuple_getitem ?_ xO9,Paired.mapP c λa b z=>qjh e,.fields #[.int lo t,.int hi u,.int c v,],#[i.toNat,by show(FT jg9).symm],Paired (λp q=>zRa) a kx,OX kind_sorted plain_sorted entry_sorted xS8 ?_,by rw[Nz];show Nf xH9 (Nv hl),Nh (Ew xJ _) (Nv (Eu SR)),[QJ p,Qj s],λM z J y=>rT (.lst (E.map (stW p out))) (.lst [.int m]) M z J y nO nO nO,λB=>(by let B:S∉wr:=λz=>f xUg;let sub:∀b∈wr,b∈S::wr:=λb z=>C6 z;intro k),tf zG1 6,(by show Mx I;refine#[G.map (·.1),I.all,λh=>?_]),b∈X.ex\/X.s₀.heap.objs.size<=b,Zf (λb o z=>d.sub b o (e.f b o z)) l,Obj.putSet es' t',ForInStep.done xO4,λq=>by simp[Zu,KM (us:=qnc) q (by simp),Qw],MO.ins C [("numbers",.ref (h0.length+1))],me qe1 h=sO qr3,b++[.dic mY]++[.lst (Bk.map QR).reverse],lT n0 (.lst (keys.map Qr)) h0.length nO nO nO nO,Value.ref (s.heap.objs.size+1)::zS1,FnOk P w K mg base CX0 k f fd ps xQa,if neg then ! Mj else Mj,λd=>by rw[xo8];show d,starEach (e::es) env,Qe Qbp xKe (Qb 2),mS p (sO (.int j)) qId nO nO nO nO nO nO,shL M out w,I1.laid (t':=c.toks) (λb u e=>Ŗ e) (Nw _) ?_,(λR1 H1 v f d rv=>k R1 H1 _ f d xQ9),s.TypeIs (.ref I) "set_iterator",∀h:MH,Zs zc6 h=sO (.lst (out.map Qj),h),(wa E g.1).map (aW p out M),(λx=>decide ql1),.Call (.Attribute o name apos) [] [] cpos,Zf (λb o z=>c.sub b o (x.f b o z)) d,Zr (λb o z=>c.sub b o (x.f b o z)) d,Zr (λb o z=>d.sub b o (x.f b o z)) l,Qkl (.int i) (.int j) h=sO (.int (i/j),h),QdP (.int i) (.int j) h=sO (.int (i%j),h),(λj u p h1 h2=>d4 j u p (by simpa using h1) h2),∃L,tm/\Y3 p #[way,part,k,false] L,(s.heap.push Dt).push zB0,λh i=>(by rw[g h vT (λx b=>d x (Ny _ b)) (λx b=>e x (Ny _ b)) i];simp[DP,c]),XN (.int i) (.int j) h=sO (.int (i*j),h),(λi j=>decide xO5),lev (ls.map cdL) zd3-lev (ls.map cdL) (k+1),qy7=sO (.lst (L.map Qj),h),(by obtain⟨g,rfl⟩:∃g,f=g+1:=#[f-1,by lia];let v:=hL.tru),R zB9 { s with heap:=h',toks:=tk },LexA A.in1 s xNb,je5/\je3/\xPg=true,QA 5 (Qe Qck (Qb 5) (mC (.int 1))),Qe Qme zHb xR4,#[b.trs++[(k,k,k)],b.trs.length::b.st,b.rws++[sO b.trs.length]],I.set rl (.lst qib),λb=>if b then 1 else 0,Inv (Mi.blk X scope cl Nb f H2 C fp (X.pn++j)) [(D,{ cls:=.type "list",data:=.seq l.toArray k })] Z t M,r=.ok xJ6,Nh KH (by decide),yS mn (zHe m) xl9,attributeBase e f X.env (eval e X.env)=Hh e,by size_fits,.ret .none,setRelay S qb2,tf (tf eW bs.length) bs.length,(λG Ls=>by rw[Y6];show Nf (by decide) (E3 _ _)),y.length<=sizeLine/\k=(qyf y),.Assign xQ7 value pos,V1 0 (.ref n::ws)=sO (.ref 0::ws,[n]),SetTable.grown bE,Qf 2 VY (Qa (Qb 0) (Qa (Qb 2) Qc)),Qf 2 QN (Qa (Qb 0) (Qa (Qb 5) Qc)),Qf 2 Vb (Qa (Qb 0) (Qa (Qb 3) Qc)),.Call (qD8 p) [a] [] pos,λh'=>IsEnum h' (s.heap.objs.size+1) s.heap.objs.size 0 .none,λH d=>H.frame λa y=>by rw[Qt d,if_neg λz=>wf (by rw[z];show y)],(La.reverse.map QR).length+(Bk.map QR).reverse.length<=sizeLine,(by ·let#[_,_,_,_,o,_,_,e,d,_]:=xm6;show#[o,e,d]),(λb p=>Ua b p.1 p.2),λh g=>(by intro h;let g:k∉xs.map (·.1):=not_mem_keys_of_get h;let en:=atKey_none_of_get h),(by let#[o,Z,ab,q]:=F;show xQf),∃x r,qo2/\(ls.map cdL)[i]?=sO wO,VE [QJ p,Qj s] h=sO (XU rL,h),Ds K (.ref C) "__init__"=sO (sO (.ref f)),HT.sIx items.size items.size hi,a.Nodup->xS7->a.length<=b.length,tf (tf eW bs.length) bs.length,YT rfl (by lia) xN0,λm l=>EqAt A.in1 s m l fB,mFn JO (Qa (Qf 1 Zs (Qa (Qb 0) Qc)) Qc),λe=>by rw[e];show zee,DctE prog w h' d xPb,Zm [.frz (ns.map .int),.int k] h,X5 [] zQ4 40 rfl zH4,mFn Q3 (Qa (Qb 1) (Qa (Qb 0) Qc)),mFn Q3 (Qa (Qb 0) (Qa (Qb 1) Qc)),Z.map λq=>xQ2,Tw++[MO.dic (fd [(m,0,nO)])],((ks FD,[])),xNd=false,y.size<=sizeLine/\k=xQ6,.ListComp l [aG n d] c pos,.ListComp B xPa o pos,(λp q=>ŵ R p (.ref q.2.1)/\nrm p=MK),reverseSlice' (zSe-(a.snd.snd+1)) zO4,VS d st 0 1 h RZ (by simp),xfb=ups (ks FD,X) d6,R.map Qj++qR0,(λq=>(xrb,zPg,W.int q.2)),attributeBase e f env (SJ e)=zfi e,(λb o e=>a b o qK3 qF9),(λb o e=>y b o xNc xWg),hD.at λo e=>g D o (by simpa using m) e,seqObj "list" us.toArray c,s.heap.IsRevIter r d xRa,Wx rfl xKg N,wpAny_mkInt (Nl xTd),(λo tk k=>xP8),newExc xOf [],λp=>(pSq.map zJ8).toArray,.builtin "sorted",JY [QJ p,zZ9] h=sO (.int j,h),λx3=>lT n0 (.lst (keys.map Qr)) h0.length x3 nO nO nO,backTo pos xP0,(assignEach es X.env).length,starEach (e::es) X.env,ForInStep.yield ok,d.length==c.length,sO w::caps,JV ns qM4 h.length,by refine E1 FW ?_;rw[EX DD _],Value.type qQ1 != qPc,Value.ref (s.heap.objs.size+1)::us,mUn (Z5 a "risen_by") (Qb 0),(λ_ _ _ _ _ st h=>let#[_,g]:=st.2.1;Ly g h),λu s=>lT n0 kw r (sO (Qr key)) (sO (.ref wl)) u s,call zH7 [.ref l],call (.builtin "sorted") [.ref l],compareOp op,(by unfold ixN;rw[if_pos (by lia),if_pos (by lia)];simp),λf2 E=>#[(f2 b E).2.2.2.1,(f2 b E).2.1,(f2 b E).2.2.2.2.1,(f2 b E).2.2.2.2.2],∀m st',1<=m->jgj->zP9->P (sO m) st',power' size (2*e+d) xV2 size,(by let#[a,_,o,_]:=id j;let#[b,_,m,_]:=id g;show tup o m),.int 6,λu=>(by let u:Ze [QJ p,.lst (M.map Q0)]=true:=g6 Q0 Q7),hA[n0]?=sO (.dic (dJ p out M Q)),o.data=.seq b n/\b.size<=sizeLine/\Vals xs b.toList,(by let f:c.toArray.size+a.toArray.size<=sizeLine:=by rw[Nz,Nz];lia),c.natAbs<1073741824/\Builtin.Range.small i j c=true,λa=>(IB (λz=>nd.1 (by rw[<-z];show b))).mpr a,probe.go t hashAt h f xSe,Vk [] _ 40 Vg (Nh KH (by decide)),BindsTo s fd qEe [(x,u)],EA (Nl #[_,rfl,Nl h]) a,λm=>(by unfold wa;rw[Og,Ic];intro m g;show Hm h (by rw[<-z];show a m g)),by show NN (show h.get? a=sO _ from x),λc=>((λa u e z=>by let:=eR;rw[z,c]at this;cases this)),mUn (qfi a) (Qb 0),Zu (drf h n) ws,λt x M z B=>(by cases t;let#[d,rv,x,M]:=zT z;let B:=rv.length;refine call_reversed_list x.isList ?_),by simp[c,Eb C],λg f c=>Qg (Zj g (Qg (Qqm hc (f.kind.trans hk) xw8 (ha.at g) λlt=>?_))),Sg.refl _,(by let#[_,its,e,o,j]:=d;cases e;let#[_,its',e,m,g]:=u),λa=>Z5 a "askers",g.2+2<(hI p out M P G (Ls++[[]])).length,ask p out M key,(hk R F)[1]?=sO (.lst qKj),rS1 p left qFi,by rw[I.ok.glob];show I.mod.glob.keeps I.bk,Yu (mC (.int 1)),∀i,i<n->(Ow o qJj).isSome=true,Qe wLt (Qb 9) (mC (.int 3)),Qe wLt (Qb 9) (mC (.int 6)),λa=>mSl a Gi (Yu (mUn Yy (mC (.int 1)))),by rw[Ji];show Vd xW1,Builtin.SmallTypes.nextOf (.ref it),E7 ho hd xP4 ?_,(r++[("or":Str)]).reverse.map cd,b.st.reverse.map λ(t:Nat)=>W.ref (t+2),λh=>∀a,a<h0.length->h[a]?=h0[a]?,QcB (R.map (fin gone)) o s,(λq y=>xS9),.tup [wH,.non],by rw[<-(rel.val k).isSome_eq,<-l];show h _ (I.tok _),(λ_ _ _ q=>Wq xc7 λ_ _ c=>j _ _ _ c),(by rw[Nz]at this;rw[show as.length=f.length by lia];show this),strKind prog w,(strKind prog w).is x (.str x c)=true,λi y u f=>Dy (Na (FC (s:={ s with heap:=i,toks:=y }) (zRc u f) ?_)),yS (.lst (M.map Q0)) nO nO,if xs3<6 then xs3 else 6,Na qkd,NL (Nf (NN e) I.ok.above),NL (Nf (NN e) xLa),λe=>λa b z=>#[Rw.mono e _ _ z.1,z.2.1,Rw.mono e _ _ z.2.2],mt (sO w::caps) h=sO (p w,h),MS X Y Z (Nat×Nat),MS X Y Z (Nat×Nat×Nat),(by cases h<;>(apply(_==_)=false)<;>decide),lnW p (sq out e.1),Xl (b:=QL [5,6,7,8]) (body:=Zn) rfl u,h[wl]?=sO (.lst (Wt.map Qr)),λe=>Zx fin items src b mt me qCa d e h,λg d a=>Gk (s:={ s with heap:=g,toks:=tk }) (n:="range_iterator") d rfl rfl (by decide) a,if j>i then j else i,if j<i then j else i,∀vs H Q E,aQ->qLd,keywordEach [] X.env,λd c=>(by split;·let:0<=d/c:=Int.ediv_nonneg (by lia) (by lia);omega),(a.extract k c).reverse,congr (congrArg bind ?_) ?_,(x++y).cps.toList=x.cps.toList++y.cps.toList,(by simp only[stp,kst,NB];by_cases h:xV<;>simp[h]),hB zIc ls.length,h.set wl (.lst (Wt.map Qr)),h.set wl (.lst (w4 W0)),(Rs++[v.1]).map Qr,∀a k,xya->k∈K/\T k<T a,λe=>by show(beq_eq_false_iff_ne.mpr e).symm,c=upd H T (.tup [.int i,x]),by show wg;unfold pur;show ZC ws p,λe=>Nl (Na (Iq e hd ?_)),λc=>kx.foldl (λb p=>Ua b p.1 p.2) c,λs L J I H=>(by rcases zg1 with⟨rfl,s⟩|⟨rfl,s⟩|⟨rfl,s⟩|⟨rfl,s⟩|⟨⟨L,J,I,H⟩,s⟩),(hI p out M P (G++[(e.2,Ls.length)]) (Ls++[[]])).length,moI (mdS p (sq out q)) k.2,λq=>Rch (Eg p out out.length) [] 0 q,letOwnedTupleGo tg (.ref it) u,sIx items.size 0 lo,(by try with_reducible refine N7 ?_),(if a then 1 else 0)==b,a==(if b then 1 else 0),Os _ (by show zW),λL=>(by intro k;let W:=OV (prog:=prog) (w:=w) (A:=A.in1) hh I l L items),(Da ..).symm.trans (q4 h1 h2),λd c=>∀d,P d->∃c,xl7=sO c/\P c/\qD3,(hG G Ls)[0]?=sO (.dct Hl),(wa M g.1).map .str,St->Hp->(St->Hp->Prop)->Prop,Hp->(Bool->Hp->Prop)->Prop,(envOfC j d s.heap.objs.size f cd).kindOf,(by let Y:b=a:=hA b (by rw[q];simp);subst Y),λe=>#[z.1,Rw.mono e _ _ z.2],λf a=>λx c e=>(f b a).2.2.2.2.1 x c (B.sub x c e),s.heap.DictOfH (Qh prog w) d xs,λn g=>((λx c y n e=>g (by rw[NB,Dl,ND]at n;rw[e,n]at c;show c))),!t.plain&&decide xUi,I1.fpOk g (jfc I1 g),dictEpoch d xSd,(by rcases NK.mp qt6 with rfl|z),KE ((L++[l]).map cdL) [],(by let#[i,w,ei]:=DZ.mp f;let#[j,v,u]:=DZ.mp n),g.2+2<(hL S G (Ls++[[]])).length,(λv H2=>Me/\Q (.ref x) H2),by rw[hk];show#[_,y,q],(λR2 H2 l=>k R2 H2 (g.trans l)),(λ Ho=>W.int (lo+(i:Int))),by rw[if_pos #[EN,by simp],Qc1 _ w hw],FN (Nl ?_),(by let#[y,p,rfl]:=a e (LN l);show jg3),a.size-zd2+(b.size-nb),((h X.s₀ X.H₀ 0 [] []).2.2:False).elim,(O++[qy4]).map .str,lf k.2 qve,(EE p out).map (stW p out),shL M out wd,x.1∉zif,lsF aN aR aA,mUn (Z5 C "askers") mo,Rs.map Qr,qYh/\j<2^62,Cal X.prog X.w X.K X.mg X.base k x ps g,λb=>ElemsOf (strKind prog w) b.toList,SetL prog w s.heap S ks (ledW w),a.size-na+qob,(by let#[ks,rfl,p]:=id f;let#[B,rfl,q]:=id d),Qf 1 VR (Qa (Qb 0) Qc),Qf 1 Je (Qa (Qb 6) Qc),by rw[X0 (by decide)];show v,(by rw[decide_eq_false (λz=>nomatch z)]),λd=>Paired xRi d rest,zg9/\p.2.1=q.2.1/\RelV p.2.2 q.2.2,V->V->V->Hp->xVj->Prop,assign (.Name x j) X.env,(by cases g;show zg5;let#[o,f,rfl,j,m]:=rv),zw=sO xU2,(by let#[o,a]:=a;show(zY3,yw a)),λz c=>(by let#[e,l,z]:=c.2 j b[j] xW8),.Call (.Name g F) [e] [] d,decide (ac<7)&&decide (e<7),(Ow o tK).isSome=true,(by rintro i c _ _ _ ⟨rfl,l,o,rfl⟩;dsimp only),mFn Ge (Qa (Qb 3) Qc),λa=>Qf 2 Qi a,ls.length-(k+1),Beh (x.2.map cdL) k .en en,by simp only[YbZ,decide_eq_true_eq,not_exists,not_and],nrm (ek e.1)=sO jc3,λs'=>Inv X pins zJj H s',foldedSetIterable iter X.env x=pure x,λo i b=>∀o i,subscripted b false o i=xm4 o i,λV=>a.map V.str,(Builtin.Range.rangeSize i j c).toNat,WalksS prog w A.in1 I fp wr G n P St',(by rcases o with rfl|rfl<;>decide),Dfs p met zWh (n+1) out,ks c=(ly E S (ks FD,[]) L).1,B++[(k,nO)],∃t,u=xg0,∃t,u=jee t,(λy f=>h y xV4),swapsWithSole [b] e pos.line X.env,(by let#[u,l,rfl,#[t,rfl],#[n,rfl]]:=Wj r),(λ_=>rfl),as.length=bs.length,λa=>RcNeAt A s qz0 a xUd,wIn true,[.int f.a,.int f.b],(λi v=>∃e,zi6=sO e/\v=e.key),∃M,L2.IsT h₀ 8 M (.ref b),(pendingOf st).toList.drop (i+2),QL [5,6,7,8],Kx (Qe wIx (Qb 0) (mC (.int 2))),(by intro u hu;simp at hu;rcases hu with rfl|rfl),tH p out qC8,g.length+Wt.length=K.length+d.length,λx6 x7 x8 x9=>kS p (.lst (M.map Q0)) rn (sO (Qj s)) x6 x7 x8 x9,ls[i]?=sO (x::r),Inv qIh pins σ H s,#["tuple",_,EV.lookup,j.typeIs,?_],.Pass qB4,beq_eq_false_iff_ne.mpr (Eb (NL a)),box frN m (.ref n::ws) h,λa=>setField a 1 (rawInt ((i:Int)+1)),by simp[Builtin.List.listSameRef,m],(λh' tk hk=>xWe),b.size-zQj,(by ·cases e;show Ql xTc),by apply(x.cps++y.cps).toList=_;simp,atI (out.map Qj) ze4,UO (s:=s) (h:=jc0) (n:=0) rfl,λx=>Qlc (p:=p) (out:=out) (M:=M) (P:=P) (G:=G) x,(hL S (G++[(e.1,Ls.length)]) (Ls++[[]])).length,C4 (sq out e.1)=sO wd,decide (a.cps.toList<=b.cps.toList),a.length-1,(λa h=>(b a h).bind λp=>f p.1 p.2),λb=>(by cases e;show k R H [] (Ext.refl _) b Rws.nil),l<s.heap.objs.size,os'++g,((N0 ..).extBut.push _).push _,rule "set.scan.the-table-gave-way",Flow.ret v,λb=>(by wp_delta;rw[show splitId c=sO b from by subst a;show zW];subst a),Nv hn.symm,∀r c,Sg st0 c->Ro M a b r->P r c,(by let#[ks,rfl,p]:=c;let#[ls,rfl,q]:=r),QA 2 (mC (.int 0)),QA 2 (Qf 1 Zs (Qa (Qb 0) Qc)),QA 3 (mC (.int 0)),λe=>YR hi e (by simp) (by simp),Ahd (x.2.map cdL) k fs,(nx p s).map Qj,hI p out M P G (Ls++[[]]),dK (shL M out wd),D++[(k,0)],q.2.map KY,z.sameBut f xU9,(λx H1=>tb σ H1 λy H2=>R x y H2),λl=>by simp;show Nh xU1 l,(by let:=congrArg List.length S.pre;rw[Ez]at this),by rw[this,Qa4 (n+1) l _ w];show xsd,mo σ h1=sO (.ref n,h1),Qa (Qb 2) Qc,Qa (Qb 5) Qc,λa=>SetL prog w h' s.heap.objs.size a (ledW w),by rw[Qu (TV q)];·show(hf b d).1,DF zWf ID.lookup ?_,mMt "list" QeB (Qb 2) Qc,λl b=>(by let l:=DG b xN4),(St.uniq xf1).length<=5,(nx p (sq out j)).map Qj,(kyL p out).map wL,(λ_ _=>Classical.propDecidable _),λg=>λi h g st k=>k it (by simp) _ st,2^62,envOfC b a s.heap.objs.size f cd,λa=>RcAt A s qz0 a xW5,((f w,h)),Array.replicate (m+1) nO,.type "list_reverseiterator",#[X.prog,X.w,X.K,X.mg,X.base],xSj%2147483647,QE 0 (x.2.length+1),2<=(l.filter xxa).length,tk f 26,Xi s d (by simp;lia),Xi s d (by simp at p ⊢;lia),Q8 a.2.2.2 (by decide),Qb i σ h=sO (.str y,h),(prw (p.take j)).length,(lns (p.take j)).length,mS p nO nO nO nO nO nO nO nO,Ni few (by decide),(ly E S (ks FD,[]) L).2,q∈wa (EE p out) key.1,#[_,rfl,h],λa=>swappedStores a e X.env,by show Nq (NZ c (by decide)),b λw hw=>h w xX9,(((sIx n d (sO v):Nat):Int)),pure (s.heap.objs.size,[Value.ref l]),Ext R { R with F:=xu4 },fin xTe h,Zu (drf h 40) ws=sO as,λa=>@ob _ _ (λq=>f p.1 q.1 q.2) a,λl=>by let e:=L3 l;show Nh qU8 hsz,o.setIfInBounds j (sO a.length),λO=>#[O.dropLast,O.getLast h,(EG h).symm],(by let hk:qxh:=YA),(ly E S (K,[]) L).2.length,(λz=>rf (by simp[z])),(by let#[_,_,_,_,o,_,_,e,_]:=x;show NN e),λb=>λa H1=>a.length<=sizeLine/\∀p,H1 p=nO->Q (.ref p) b,.lst f xW4 c m,P xcg σ2 h2,mo σ h=sO (.ref r,h),Qz ns os (h.set n o),XS xS6=false,m ws []=sO (.ref j,g),Nl (Na (LJ hit.typeIs ?_)),p.mem_iff.mp b,s.TypeIs (.ref S) "set",unsupported "internal:collect",∃old,IsEnum h e it i old,(λT vals h' tk L hT F f hk=>?_),λh=>(by show λf z=>(NK.mp z).elim (λe=>e▸h.1) (c h.2 f)),QA 1 (mFn Xk Qc),NX xU7,by intro h FD lw x4 x6 x10 f w u wf LL B hL hf,by ·rw[Zz (by rw[e];simp)];simp,Hp->(It->Hp->Prop)->Prop,by rw[Nz];show r.length.symm,∀D σ H,t' D σ H->t D σ H,.ok xUe,(by obtain rfl:v=Value.ref (R.ρ n):=rx),(by rintro r j ⟨rfl,rfl⟩;show Nl z),by show Ql xSg,(failedOf qMg).isNone,show k-(i+1)=k-1-i by lia,QkA i*(Wt (i+1)+2),λi g b=>by rw[if_pos (by lia),i qB1 c g b (by simp;lia)],λq a=>(by let q:=a.sz x (NH.mpr #[j,f]);rw[NQ]),by injection z with z;lia,qT p out M nO nO nO nO nO,J6 (x:=QJ p) (h1:=[]) rfl,.For tg iter body [] pos,truthy v,if g=f then sO u else l g,by refine DS xS2,by refine DS xQ8,(atI d i).map λw=>(w,h),V1 0 args=sO (as,[n]),uniq (l.take i),by unfold runEnd;split<;>lia,λn=>sj t.mask (L2.hN w 8 k) n,step k o (EZ y l) d m,(adv m (sq m h n)).j,L.own p.1 p.2 xdd,(pendingOf st).toList.take i,Qeo j++f,mC (.int 26),(by let#[k,hk,rfl]:=zf8;simp at hk),QE 1 (a.length-1),qS p a (sO (Qj s)),Yk out,λa=>KU (j:=0) (g:=a) (by simp) ?_ rfl (by simp),Ls.set i (l++[q]),gn M s,gn M (sq out q),(by rcases(mem k v).mp d with z|⟨rfl,rfl⟩),(by rw[QaJ J]at m;show m),tu B v.1 (sO key),(by rcases QqM j with e|⟨t,e⟩|⟨a,b,e⟩),I.base.keep b o e n P B,(by simp only[NP]at e;show Nh qU8 b),.Return zf0 pos,λB=>(by let B:Data.fields _=Data.cell v:=z;cases B),c.length+a.length<=sizeLine,x.length+y.length<=sizeLine,x.above y c (D7 h),λb=>OL b.typeIs (by decide) ?_,sO #[oc,od,.func fd,osl],Rws.th_ok m s _ _ c g a,.ok xWb,(λb a=>by simp at a;simp[a]),by rw[xo8];rfl,At xs (zWd/2),collect (.ref S),if_neg (by rw[LG];show N9),O M xV1 _,QiG hc hk ha hb f d o h1 h2,(λp=>p.2∈vs/\p.1∈vs),(λ_ _ _ _ _=>(h ..).2.2),Qm (Qb 7),bst k c qK8,(by rw[e]at z;simp[List.replicate]at z;omega),∀j,JV [] [] h.length j=nO,rA r key h.length nO nO,[key.1],by show stop (by rw[e];simp),H a=sO (.lst xs),(by subst J;rw[hi]at l;cases l;rw[Dh F]at D),pyNext (.ref I),λZ m l=>#[rfl,λys Z=>by rw[I.list_inj Z m];show l],(λ_ _ _ _ _ st h=>Yap st h),λa=>wpAny_pyIter_range xS1 a ?_,∀v,(x,v)∉binds,Str.ofString "__getitem__",H a=sO (.dT b),by rw[<-q.len];show b,(by show gd p;cases p),nrm (Qj s)=sO (trS s),IQ (N6.mp z) ak,(by let aa:a.toArray.size=i:=xh7),λe f d p=>(by rintro v rest r e ⟨f,c,d,p⟩;let c:=c.symm;subst c),uq (l.take i),s.heap.IsList l vs.toArray,.Compare a [op] [b] p,(("either":Str)),ZJ [QJ p,Qj s] h,ZJ [QJ p,Qj #[way,part,k,false]] h,QN [QJ p,Qj s] h,Yk (met++[s]),jhb++[.lst []],hL S G (Ls++[[]]),(by ·simp[fin,kil,c,d,prR]at a ⊢;show a),λu=>storeName X.env x u,(by let#[o',l]:=I.base.there b o e B),.Constant .none j pos,λy=>(y.length:Int) != 0,Ds K (.ref C) name,(λ_ _ _ _ _ _ _ h=>h.elim),λp B a=>Gm I (by rw[e];show True.intro) p B a,∀a o,F a=sO o->b a=sO o,.ref ad,by rw[Nz,Nz];simp;lia,λd=>s.heap.IsTuple ad d,env.scope.kind==.function,by ·show congrArg (·+1) (c a),rep j (sz-1-i),YaJ xXe,by rw[IY hd];simp[rawInt],(by let#[c,rfl,rfl,hk]:=Kj I d q m C),λu=>(by let#[ad,j,rfl,hF,u]:=f),Moved (S::wr) G s a,(bk m h qW3).2/32,by rw[Nt,NT,NR a];rfl,checkCount "sorted" 1 1 _,s.heap.IsTupleIter it l i,by show Nf c (Nv g),L2.IsT s.heap 8 k es[i].2,rule "list.sort.merge-lo",rule "list.sort.merge-hi",ha.ext ia (Nw _),hb.ext ib (Nw _),QbZ a p.1 p.2.1 p.2.2,RS c st,tf f 26,#[r++[q],part,k,false],qH (met++[s]) st,(by unfold box;rw[Xp (by simp),Nk]),λC=>(by simp[frR,th,res,JV,Zu,Qz,C]at hd ⊢;rw[hd];rfl),#[nO,nO,nO,nO,rfl,rfl],H.lt aN (by simp),H.lt aR (by simp),c.2.map (QaD R),h[n]?=sO (.dct a),(ks.map (dN n)).sum,decide (Tr.t ks=Tr.t ls),Nh f (Nu _ _),sO (lnW p (sq out j)),.While c body [] pos,λy g=>Inv X a y H { s with heap:=g,toks:=tk },λq=>λhn b q=>#[hn b q,(f2 b q).2],Ni (De _ _) d,a++[f w],min v.toNat n,HT.sIx d.length 0 lo,#[0,0,0,0],∀a u,R.G a=sO u->a≠p,List (Key×W),(λb E o e=>old b o e),QD fin mi cp b Vw me,(λt r=>#[[],rfl,.nil]),Heap.ExtBut it s.heap h',List.range (m+1),#[NO _,#[_,m],hit],t.slot (sq t.mask h n).j,∀c st,I b c st->P c st,a.extract ia (ia+k),b.extract ib xp7,λa=>MS (Array Keyed) Nat Nat a,λa=>MS Nat Nat (Array Keyed) a,IK (De _ _) _,sO (seqObj "list" #[] v),(n,k).2==NameKind.free,Qq8 d fin a cp b t m,#[DG _ (OZ c),DU _ c],v=3\/v=5\/v=7\/v=9\/v=11,∃y r,l=y::r,[#[way,part,fs,true]],.lst (st.map Qj).reverse,Eg p out j,by ·show xkj;simp[tb],xs.map enc,R.set i (kil gone r),(λi=>prR (gt R i)),(λ_ _ _ _ x _ _=>x.elim),λD C d f=>(by rintro⟨D,C⟩ d ⟨f,rfl,_⟩),I.base.slot b o e n P B,.UnaryOp .Not a pos,.dK xW2,(by rw[hd]at d;unfold Zp at d;split at d),ty="str_ascii_iterator",(by rw[hd]at f;unfold Zx at f;split at f),λd=>s.heap.IsList ad d,mg x=sO (.ref f),me c h=sO (f w,h),λp=>fin (a++(rest.filter p).map f) h,λa=>swapsWith a (sO (.Name x pos')) spos.line X.env,a<es.size,Nl (wpAny_throw ?_),λp=>.Name "reversed" p,Qgc m h k 0 (NO _),ItT w I S T vs i s.heap,I1.kept (t':=c.toks) hk,s.heap.IsListIter I l i,dictGet d .none>>=_,by unfold turns;lia,Paired xp4 l ks,out.push (<-elem' a na),out.push (<-elem' b nb),Nat.min_le_left _ _,by ·rw[b,a];show#[t,rfl],t<(bks ls k).trs.length,0+qFh,(nx p s).reverse.map Qj,y.2[i]?=sO m/\Kw m=true,by simp only[Function.comp];split<;>rfl,λI=>λk hk=>I.wk k qR6,decide (x=y),(by let#[e,n,ne,nf,d]:=I.pin p hp),λg=>.AugAssign (.Name x g) op e pos,binaryOp .FloorDiv,λj=>λx y H Q=>zec\/j x y H Q,(((sIx n n hi:Nat):Int)),.Slice lo hi nO p2,(λx=>!x.1),#[[u],[]],sysModules<h.objs.size,.ok .next,eqW a a=true,Qc σ h=sO ([],h),(by rcases B x l with l|⟨i,j,rfl,p⟩),Qae is,∃o,QcA cp σ=o::caps,(Qh prog w).room A.in1,items.size+1<scanBound,(bk m h qW3).1,(by rw[h.1]at this;rw[h.1];show e this),beq_self_eq_true _,(Nat.succ_add ..).symm,(λi n t st f y=>?_),old b o e,by rw[l];show hit,#[N,Qo st,n,true,t],N.length-ps.length,by rw[WK,e];simp;omega,tf (tf f 26) 3,by rw[Wy,if_neg (by decide)],tk (tf q 3) 4=0,j-(k+1),nx p s,sO (Q7 q),(dI G).length<sizeLine,hI p out M P [] [],e.2.2.length,kil gone (gt R i),by rw[e];show Qi2,∃t,u=Value.bytes b t,∃t,u=Value.float b t,λp=>y m _ _ _ p (by lia) ?_,k b u (j b n) q,λl=>λe l=>R xWc l,λa H1=>tb { D with nx:=N,ct:=N,bk:=D.nx } a H1,∀v,o.data≠.cell v,.BinOp a op b pos,intBits_le_64 e d,Iz K C Str.empty=true,by rw[c];show hw,valueAt (q::c) k,by simp[valueAt,NV,d],λa=>mUn (Z5 C "askers") a,λh=>(by let:=Z4 (env:=env) (pos:=pos) h;rw[Yah]),λd f=>k R H2 _ (Ext.refl _) d f,cp[i]?=sO (sO j),λm=>λp U z=>sz (I2.pin p U).1 m z,Qiq wi cp g tt te,(by subst M hw N;let#[hi,st]:=st),λc=>(drf h 40 a).bind λx=>(drf h 40 b).map λy=>c,λp=>fin ((items.filter p).map f) h,0<=b/\b<1099511627776,by show FA (OW _ (D0 _)),(St.uniq b).length<64,PairAt knd s.heap v p,by simpa using hz,get _ (by lia),λf=>Qot 8 8 _ _ _ f (Nw _) ?_,L2.IsT s.heap 8 k e.2,(pendingOf st).toList,(λ_ _=>True.intro),c.sc.names.lookup y.1,ZS (e::es)=true,(Q5 l).attr j _ _,(Q5 h.1).comp h.2,λb=>Qs (Kx (Qb 4)) b 20000000,λb=>UF a "open_key" 2 xq1 (Qb 2) b,one _ (gv _ c),al.length<=out.length,∀e∈G,e.2.2=[],λH=>QbU (f:=kO) H.b l,Wlk p (R++[s]),k=if b then 1 else 0,Na (Nl ?_),Na xU5,Nl #[_,rfl,Nl h],H p=sO (.lst xs),sO (JJ x),sO (.tup ((Wds p).map .str)),by simpa using I.len,.IfExp c a b pos,X.wish E,compareOp .IsNot,sc.isCoroutine=false,sc.isGenerator=false,Str->Option NameKind,IsTup s.heap t items,h++[.dic []],h++[.dct []],h++[.lst ((St.srt (St.uniq b)).map .str)],ns.map WData.int,(K w.params).In base,mC (.str "most"),mC (.int 5),mC xTh,by rw[Nz,Nz];lia,λr=>(by let#[_,rfl]:=r),c.length+k<=sizeLine,JV A js h.length,setNext S c i ep,args_list_sort _,by refine E1 e_upd ?_;rw[EX p_upd _],λq=>List.foldl _ (Ua _ q.1 q.2) _,sj m h i,by rw[NJ,Er];lia,λf=>Gj 8 8 _ _ _ f (Nw _) ?_,a.snd.fst+1,ne b o e,LtA A s u v,λq=>mgX (QbZ _ q.1 q.2.1 q.2.2) _,.Attribute o x p,QeA (Qo st),bks ls k,.int way,((xed:Ln)),a.drop (j+2),tf (tf q 3) 4,JJ (e,u),λn=>bks (ls.map cdL) n,(by subst this;rw[<-ei,<-u]),X.map QR,uS k nO nO nO nO,nxt p out M q al,F.map YF,xs.length=us.length,∀a b,F a b->G a b,∀v H,Q v H->Q' v H,Mod X.K X.mg X.base,I.ok.noex b o e,s.heap.objs.size<=a,s.heap.objs.size<=C,s.heap.objs.size<=T,s.heap.objs.size<=D,f.heap.objs.size<=C,c.heap.objs.size<=b,ns.length<=sizeLine,#[_,a],vs.length=ps.length,us.length=ps.length,atI c i=sO v/\Q v H,.seq its'.toArray g,ys.length<=sizeLine,starEach es env,#[#[x.cps[i]'g,]],wSl p.1 q.1 r.1 r.2,(Qa8 l c k).binds b,xs.names.lookup p.2,DGet.k (k:=c) C,a p.1,λe=>DB e hd (by simp) ?_,kx.length<=sizeLine,sO (Qg0 f i S n ep),.Tuple M kk pos,(by let#[m,#[old,g],h1]:=st),ad<c.heap.objs.size,vs.length=us.length,Ni this (N5 _),L2.IsT s.heap n k v,10*turns t.mask,forIn [a:b] c g,<-get,bcount >= minGallop,acount >= minGallop,∃r,c.1=sO r/\Rr r,Qjn hc hk ha hb f y,setPending st u,(by let#[m,q,l,lo,hk]:=QdY I t),MetAt K C x q st ps,s.heap.IsList d its,c.sc.kind=.function,∀f∈t,zi8,0<t/\0<later.length,ls.length-(j+1),0+xe1,λb=>qS p (sO (Qj s)) b,pW (QI l)=true,St.uniq xf1,m.2=(part,k),s.way=[(0,j)],s.way=xV6,λL=>ly E S (ks FD,[]) L,L.length<=FD.length,by simp[em,F,x],λh=>MM Qr (eoL KY) h aA G,wpAny_pyHash_int h,wpAny_pyHash_str h,Nl (Nl h),decide_eq_true rfl,#[rfl,rfl,ks,q],#[rfl,rfl,_,q2],f.length<=sizeLine,d.length<=sizeLine,L.length<=sizeLine,D.length<=sizeLine,Q6 (Qb 8),Q6 (Qb 3),inplaceOp .Add,compareOp .GtE,.builtin "min",λb=>HT.sIx b.length b.length hi,(λ_ _ _=>False),(q.obj n u e).mono x,Binds X.K fd ps [],Rws.append l j,tyW p.2 T p.1=true,.seq its n,sO ([],[]),λj c g s=>(by rcases QaN e with⟨n,j,c,rfl,g,rfl,rfl⟩|⟨j,s,g,rfl⟩),(by let#[_,u,_,hu]:=L.there l),(by intro j v w r z;unfold res at z),(λp=>f p.1 p.2),firstArgMember _ _,(Qh prog w).room A,b.toList.length<=j,h.length<=h'.length,.int jfe 0,Value.type "tuple",(by rintro x rest r j ⟨rfl,rfl⟩),E7 ho hd hf ?_,acount<7&&bcount<7,a.extract 0 a.size,b.extract 1 b.size,Nat->X->Y->Z->Prop,QlT lo a.snd.fst b,(pendingOf a).size,ty0 sh0,Qur i c a b op,Qm (Qb 3),#[P,w,K,b,base],(λx=>(x.1,k,x.2.2)),97+(tk f 26).toNat,List.map En.kd,by ·simp[hB,bst,c,F,e,u,Da,rW,tO],st.length<sizeLine,1+Qfp p s.part s.k,Wg d c (N5 _),(by rcases a with rfl|rfl<;>show c),(nx p s).length<=2,s∈met,out.length<=280010,wdL (y::r)=nO,(lns p).map QI,tf f xf4,(by intro H;refine b λu hu t a=>?_),[Qj s],(hL S G Ls).length,(by unfold X8;simp only[Y,K9,Nk,Ea]),(by unfold QbK;simp[Kz,K9,QjI nd h]),Jk xfd t,λd a=>(by ·let:k'=k:=d.symm.trans a;subst this;simp[d]),NU _ hk,Qjq A m (n:=key.1),(QcB R o s).length,l.Nodup->Sb.uq l=l,Q (g i j) H,(I.ok.bs b o e).1,(I.ok.bs b o e).2,((m:Int)),binaryOp .Sub,binaryOp .Mod,binaryOp .Pow,compareOp .Gt,by let:=r.un;lia,sc.kind=.function,c.length<sizeLine,d.length<sizeLine,sO (p.1::q.1,q.2),ty="str_iterator",by simp[ET,b],((x,NameKind.free)),(by unfold Builtin.Range.rangeSize),n+(j+1)=n+1+j,mv σ h,R.ρ (A.getD i 0),by unfold ZL;simp,(((n-1-i:Nat):Int)),(((k-1-i:Nat):Int)),o.data=.set b c t,λl=>by rw[<-NP,l.length_eq,NP],Value.type "list",pSq m h (k+1),ItemsOf.nil _,#[r,g,d,tk,os],#[m,J.1,J.2.1],λa g=>W.done s _ _ a λh' tk g=>?_,#[S,U,p.isList],A.in1.units<cLine,#[a,its,q,p,r],by show Ql #[rfl,i],k+1+(i+1),es.size=kx.length,x="enumerate",(Q5 h).mark _,r.fc a n g::t,#[t,i,en,g,c,?_],(s.length:Int)<=D,by unfold QI;simp,by unfold U5;simp,List.countP Kw ls,x.2.filterMap wdL,[(m.2,Ls.length)],G.length<=1000000,L.length<=1000000,by rw[e];show NA,(sc E S n).map QR,G++[(k,n,[])],λI=>I.wk key (by simp),(by unfold lT;simp at w;simp[GV,w]),(z c f).1 i d,(R++[s]).map Qj,λX=>UN X (by decide),IsT s.heap n,Nv e,sO (.Subscript o i pos'),sO (.int m),sO (.lst (run.map Qj)),λb c=>holding [v,b,c] (setItem b c v),[assign b X.env],step x H5 y5,λb x=>λa H Q=>b a H λx H1=>r x H1 Q,λH=>∃k,Qte X.K x H k/\Q k H,Iz K C name=true,Room (k+1) A,Nh I.ok.bsz I.sz,(vs++ws).toArray,(a::b::r).length,by simp[U7,NV,e],.ty "",i+n=items.length,items.drop i,items.drop (i+1),j<c.toArray.size,QgA xs lo hi,Qdr mo mi mv,(Qz ns os h)[n]?,λg=>Cal P w K a base k x ps g,z.length*n.toNat,s.way.map U5,Ybb ?_,QbZ kx k b v,by rw[eL],b.size=ks.length,λk=>(strKind prog w).is k e.2,kp.1.trans m,l.take (i+1),p.take (j+1),At t.place i,12+r,Value.type "set",sO (Zy b,nO,p.2),KeyKind prog w K,L.length<=100000,(λg tk dd kp=>?_),(by let#[p,a,rfl]:=NC.mp hk),#[rfl,rfl,nx],Vp ext _ _ P,n-hint,pendingOf st,(m>>=g)=(m>>=g'),Yl L (n+1) c,h n st d a g,Nq (DM.mp h),IsQ s.heap n,A.units+12<cLine,Option (List Tr),b.h _ (O _ f c A a s H E e),QjY "set" es,.Attribute o f _,Qng s c body,QL [2,3],QL [3,4],QL qX8,[4,5,6,7],Option (List En),pil ls ls.length,Option (List Cd),λb=>dcn b=dcn L/\pcn b=pcn L,p++[(nm,ls)],rv b,(λj=>by simp[JV]),Kt mo mi mv σ h,Vv [QJ p] h,(by unfold wa;rw[Nr];show E5 _ _),.inl (z:Int),UA A (Nw _),k.2.map .str,Rch (Eg p out out.length) S m q,(Wds p).map .str,λH=>congrArg List.length H.kd,λb=>Yaf b xX3,e.1.2.map .s,hk.2.1.1.one t e,(Wh i o).2.2.2.2,∃t,v=.str x t,Nf a (Nv c),fs.length<=1000,frs X.stack,(f _ z).2.1 rfl,EP X a σ Q,d.lookup x=sO c,.Expr e pos,-(2^62)<=j,-(2^62)<=i,.ins C dx fs,(by rcases h with(h|⟨o,h⟩)|h),#[o,e _ _ h],(by simp only[GV]at e;split at e),DM.mpr this,I2.stkSub _ z,SqL X.K H ad xs,SqT X.K H ad xs,λL=>SqL X.K H ad L,λL=>SqT X.K H ad L,QbL b lo hi,λg'=>spM K ps.length g' vs H Q E,Yb2 w.params es,Ga mo mi mv,by rw[Qs,e];rfl,[.int 6,.int 7],#[h.1,h.2.1,r],h.1.trans z,DctR X.K R a kx,Kt mo mi mv,I1.ok.hd hc,.type "set",below t.place j,λb a=>ltCps b.cps.toList a.cps.toList,by rw[eb,z],λc u=>(by let#[o,_,_,e,_]:=c;show NN xsa),es.size<=t.mask,(sq m h n).more,sO (o,a.length),λh=>SetT w G h₀ h a ks led,(by rintro c _ ⟨rfl,l,o,rfl⟩),_,λr=>Qi8 hc hk ha hb hg r,(arrOf st).size,.ref a.2.length,["feed","many"],(t':Int)=t+ch c,(by rcases hk with z|z<;>simp[z]),Beh ls j .en en,v<=8/\v≠2,by show Ov s r,later.length<=5,E _ _ .non _ ?_,ls.length<=5000,k-(i+1),QaE (i:=s.part),λa b σ=>QD Zv a [nO,nO] (QL [0,1]) Vw b σ [],λl e a=>(by rintro j w l e h ⟨a,rfl,rfl⟩;rw[Nt]at l),by simp only[this,decide_false],(wa M q).length,rkD L (j+1),FD.length<=1000,λh=>(G5 A (Nw _) _ h).1,λl=>by rw[c _ r l];show H.i,((is.length:Int)),u=Value.bool b,u=Value.type n,Fe g hd ?_,I1.ok.hd I,QdL I q ?_,((sizeLine:Nat)),r.append i,((ns.length:Nat)),true==true,upd H a ob,Rws K R' ws vs,(by cases e<;>first|rfl|cases h),sO (false,p.2),Qb6 q,i<items.length,newList [],Nv am.symm,(by subst this;rw[Uk u r o m p]),its.toArray[j],(by let#[v1,t,o]:=Qdu p j),Qq0 lo c n,by ·rw[z.1,z.2];rfl,n+j+1,λz=>λ_ _ _ q=>WR z (Gq q),box frN m ws h,(VO a k).isSome,Uu c k b v,Int×Value,pure (sO true),λj=>Q j { s with drawn:=d },below xs j,i<t.place.size,rawInt 0,λc=>(EJ _ _ jfd).trans e,(λk hk=>?_),I.hok.fresh hT,items.size-i=k,DicR K R ps kx,λb=>by apply(ths f (a.map (·.2))).map b=_;rw[Zi f _ p,Ea,QaG],((d p).mp a).2,Nq zl,I i c st,λn=>c=(nO,l,r)/\r<=n,a.extract 0 na,b.extract 0 nb,modify (QgB e),λa d b c=>a.extract 0 d++b.extract 0 c++out.reverse,k-1-j,Qd4 lo a.snd b,by rw[<-NT,Nn],pairsOf vs,(λc=>h c),GC 4 f c.t,b.line==p.line,[nO,sO 6,sO 5],["self","key"],_,(sz-1-i).toNat,["second",x,y],["do",x],_,cd "again",λD=>QdF D (by simp),res kp g 2,QE 0 ls.length,s.way[j]?=sO q,x.2[fs]?=sO l',prw p,(Wds p).length,(Ux _ _ rfl).1,2+way,(by unfold thO;dsimp only;rw[k]),Nf (QfA e d) u,k.1<out.length,e.2<out.length,gS M out w,BI E S V a K L,((ks i,r)),[(m,d+1,sO n)],QS eg,QS (es []),(Eo.mp M.nd).1,sO (.ref aN,h),(by let#[j,La,Lb,rfl]:=hw),(ixs R).map rf,QdD M p al run,Value.int i t,xs++[x],List (ι×κ),λb=>(QnD b).resolve_left r,by rw[Qu xW3],(X.wish E).Ok,PSs X body tb,#[u,hr,h4],λi=>-(2^64)<i/\i<2^64,λe=>λx e=>∃k,x=.bl k/\Q k e,W8 f y fs,PE X value tv,(λm=>xs[i+m]?),atI xs i=sO v,#[rfl,fin],(b::r).length,tIT X.K m,j z _ _ o i g,QeG ta tb,Qf n g ms,ZR mi b m,(by unfold wIn at e;split at e),sO (sO i,p.2),Qe7 m l u,some (.dic _),some (.dct _),(n,m)∈E,by rw[Nz];lia,(Xu c k).isSome,(Xu d c).isSome,(Xu (fd FD) (.inl (m:Int))).isSome,ks.zip us,x.length<1000,(λa _=>?_),λa=>done _ _ _ a (I.tok _),(by unfold rep Str.length;simp),mi σ o.2,mo σ v.2,X5 h a 40 d f,((es.size:Int)),(VO c k).isSome,(VO (Yk met) (trS s)).isSome,(VO D (trQ q)).isSome,λr=>StrsAre items.toList r,by kernel_rfl,nx k%l.length,t.dummies=#[],t.fits n=true,λa=>Builtin.List.listLengthHint a,b.length<4000,X.mg "set"=nO,λp2 i=>.Call (.Name "set" p2) [e] [] i,NL (E9 f),i<=items.size,ps.drop i,sO Value.none,es.toList[i]?,(by let#[zl,zm,zg]:=Z.lt),fin t1 L p1 Y,by intro i s hk Q st ext hS B,kindOf st,kindOf st0=κ,#[g,_,rfl],(by let#[_,e]:=d;cases e),ns.length<=63,EX Dc.p_upd _,DN Dc.p_upd _,.Attribute ..,coLoB c x,#[d,?_,?_,i],.Tuple es _ _,(Q5 z.1).star,λh i=>(by by_cases z:j<=k;·show h.ge j i z),["first",x,y],[ZL bs,ZL ws],λa=>by simpa using a.2.2.1,(by simp at d;simp[ZM,Qx,d,hd]),(by let#[F,E]:=q f m o a),s.head=t.head,(λz=>e z.symm),qH out [],PL.map Q7,I.at_ g J,(by rcases H u hu t a with z|z),n<=out.length,s.part=t.part,L.length<=200,F0.length<=200,#[_,EO a,?_],m∈ks FD,RH j f FD X h,DC this _,x.1∈k.2,Qar G k f,(Nd.mp I.w).1,(K.map f).sum,tv D v.1=sO y,Rs.length+c=m,[MO.ins C []],by rw[ES (by omega)],l.map rwT,is.map rf,H++[Qw D],.str x t,u=Value.none,IsT h' n k v,by intro n σ h c e,b w d h,(λ_ _ _ q=>q),sO (Q7 m.2),SP X a D,I.kIn a o hk,st::rest,Itr lo n,((λx c=>(nomatch c))),λc=>.ref c.heap.objs.size,m<1073741824,k=!j.isEmpty,Nq (Ni E (by decide)),Nq (Ni l (by decide)),a++[q],(g,x)::r,(g==k)=false,s.TypeIs v T,λo i=>operate [o,i] (getItem o i),λp f=>(s.heap.update p f).get? p,I.hok p _ hk,tyV K T x H1,List Keyword,ns.length<=j,#[[a],[]],if_neg g,o.getD d,q.ne g b,#[_,x,y,?_],tS X.K m,Qb i,sO (true,p.2),Jc ta tb,tIT K ta,tIT K tb,.ListComp ..,tII K mi,Qcz X body m,Qs t m n,Uz cp σ,ak a7 ab,an _ rfl,c.toArray[j],c.toArray[m],(λy=>eqW y x),!inW d c,y.2 != .free,.int (j:Nat),a.map U5,a.map Q0,U9 false,QbW h n=sO o,Qa m Qc σ h,ms σ p.2,(by unfold KD at p;rw[Eh]at p),a.map Qj,∃n:Nat,i=n,λa=>by rw[QT,Nt,Nn a];rfl,i=6\/i=7,c=6\/c=7,L4 _ _ _,Fs X.K f,Oq es' t' hd,L.take k,p.take n,E.take k,(by rw[FO hk]at this),.int c 0,t.plain=true,#[f,a,b,c,d,],λH=>w.params.setOrder S H,StrsAre vs i,StrsAre us a,i=items.size,i<items.size,by rw[z],λD y B o t=>(by let D:y=.non:=B.non_eq;subst D;obtain rfl:o=Value.none:=t),hash i hi hk,Wf n,ha.at hi,arrOf st,ib+k,b.size-c,ia+k<=a.size,YbX h1 _,#[rfl,ok],λv y a=>(by rintro b v ⟨rfl,y,_⟩;show Ql a),2<=vs.length,plN n w=sO t,Meth K C x f,Tr×W×W,(λ_=>#[]),.Tuple _ _ _,[nO,nO,sO 2],[nO,nO,sO 3],QX a,[nO,nO,sO 1],["spot","k"],Fit ls k t e,sO (fs,j,en),sO (fs,md,j),Op ls a st p,["same",x,y],k<=ls.length,dcn (L++[l]),pcn (L++[l]),by simp[frR],fin _ _ _ ?_,b.rws.map rW,b.trs.map tO,bS ls nO,(by let m:=Ul p;let q:=JB y),λa b=>(by let#[_,rfl]:=Kc hw;let#[x,r,p,y]:=lines a b),s.head=false,a::_,x.2[d]?=sO l,x.2[j]?=sO l,a.2[j]?=sO l,QaE (i:=q.1),qS p a b,qS p (sO (Qj s)) b,m as [Qw f],m<out.length,n<out.length,λh=>by rw[QT,Nt,WS h];rfl,trS q.1,.int q.2,.int e.2,λD v=>(by let:=gr.sub D;rw[<-v]at this;show this),λC=>(Qje A h0 (C _ hm)).2,(by let#[f,d]:=keep x c),λM=>by rw[Qay];show M.kd,ER λe _=>?_,key∈W0++Rs,H.lt _ z,Str×Spt,run[i]?=sO s,((ns.length:Int)),hashStr w x,#[_,rfl,r],xs[i]?=sO x,xs[j]?=sO v,us[i]?=sO u,us[j]?=sO u,u _ _ e,e _ _ h,j<ks.length,EqAt.same _,sO (.own a),r b o e,X.H₀ b=nO,λe n p=>(by let#[v,e,h]:=h;let#[m,n,p]:=I.loc),SqL K H p d,SqL K H1 a b,G.length<=n,b.length<=i,Itl K a,Itt K a,#[hr,I4],Int->Int->V,(by let#[i,j,rfl,q]:=h),U7 (p::r) k,y.2≠.free,vs[j]?=sO p,YbD _ _,(i+n).toNat,OR.mp e,OR.mp f,j<xs.length,λB n=>λr B=>r=w/\EP X c n Q r B,.lst ys,YaW _ _,YaX _ _,(by let#[rfl,l,j,b]:=h),Qcv I.hok e,ws[i]?=sO w,sO (.dK kx),h.1▸e,upd R.F p o,.rt p.1 p.2,QkG X.K r f,.lst as,as.length=n,tIG K b,λj=>(by let#[aa,rfl]:=j),inW d c,D9.mp r y l,o::caps,tI K mv,tI K mo,tI K mi,Yp n w=sO k,by intro vs pre as ns e b h,QA i m σ h,mv σ h,λa=>Qp (.ref n) a h,.tup us,λa=>QD fin mi cp a Vw me σ h,.int s.part,Qw f::h,es[p]?=sO e,nrm kw=sO k,ks.length+1,.type "set",(OC.mp a).1,λR a=>R a { s with heap:=h',drawn:=d,toks:=tk },#[k,x,rfl],i<ps.length,Nq this,.inl hF,λa=>DO _ a _ ?_ ?_ _ _ #[rfl,rfl],x::l.drop p,(by unfold List.Nodup;rw[DE]),sizeAbove f,IsQ h n k v,Decidable c,fin l o,minGallop>1,minGallop-1,MS X Y Z τ,ite _ _,ha.at h,hb.at c,hb.at h2,Ke h2 e,nb-1<b.size,a.snd.snd>0,Option Unit,ns.getD i 0,ns.getD j 0,(λq=>kV q.1),Cls Z.K f.C,MM (RE c e),MM (RT c e),.head _,(λ_ _ _=>nO),M.2 _ x q b,.int 10,QA 1 Ka,(by rw[p];simp[ch];simp at b),λg=>(by let#[a,b,c,d,f]:=m.fit.oo g),Qd0 h n,by simp[QE],((n.val:Int)),(λx=>x != c),Qso v u,i<ls.length,λn σ h=>PI bs ws later size d0 o0 n σ h,(by let#[_,rfl]:=Xv hw),sO (-1),(by subst this;rw[j]at g),key 0 a rfl,key 2 c rfl,λa=>Dfs p [] [sp0] a out,by simp[Zy],Wd.map .str,by simp[hG],key G I.at_,s.way=t.way,by simp[hI],by simp[hL],IE.mp a,IE.mp z,if_neg this,tv B a=sO (sO k),.ref aN,.ref aR,sO (Qr k,h),λH=>by rw[H.kd];show hk,.ref wl,λN=>QbU (f:=W.int) H.n N,y<x+v.2,sO (.l q.1),(by ·rw[Qbg ge]at b;cases b),λL1 l=>L1.frame λa l=>NF (L1.lt a l),0<ns.length,J6 this,by simp[hk],left*326656,tf f 11,Aq xz8,B5 jDb,B5 xAa,(by split at e;·rename_i m;show Χ e xzc),λa=>by show pX a,Builtin.«set.__init__» xA1,#[_,_,l.int_eq,j.int_eq,m,Ļ i qN],f.new (mo:=jd7) (o:=À a) n xAc,λa b g=>QM a λe=>k7 b g,λa=>by show δ a,λc a=>qW c a,∀σ h,AV (n+j)->∃σ1,qQ/\∃σ2 h2,Sj=yE/\qt0,r[j]?=sO w->∀σ h,AV (n+j)->∃σ1,qQ/\xE0,λQ=>h a s σ H Q I zC1,Qa xV5 xB3,#[[jz9,.ref l],[]],λi=>by rw[LD en];intro x c;show Bh c;·show zy5 (i x c),Qa jt xB2,by show j6 d;·show h t d,.tup xs,#[_,_,l.int_eq,j.int_eq,Ļ i PQ],Qa ř jL5,#[o1,N,λv q=>by show â d1 q],jk xC2,C3 Q3 (Qa ř jL5),#[rfl,Λ],ŗ A i #[a,rfl,Tf i j],by show(BW d,dQ d);·show N5 _,.tbl xCd,μ i=sO a->μ g=sO b->qc1 m l,μ m=sO a->μ l=sO b->qc1 p o,by show(zQ2 D N,xQc,xXd,Cn u q),λe a=>zzd e a,(by let#[t,c,q,_]:=ϒ q2;show Ž L p),ii::Á N::T,(λj l v a b c=>i _ _ xSa),ō (jQi qwj),Qa ř zr9,Qa um (à um),[yk e,À (sH pA),XU zI0],Na (YaK ?_),#[f-1,Í],#[_,g,λv q=>A3 q],[zPg,Ae q],(by cases N;let#[f,n,J,_]:=ϒ F),show qn3 from r,#[r.1,r.2,xZ q e],#[uF a x,Ô p v],#[j,CU,c,Su e p],λU S=>(by show xI4 U;let S:xX7:=by show zZ6),#[C,Í],[ii,Á N,À L,dB],∀i∈c.1,CM,zdc f m C i d u z,[Pk a,Pk b,Pk d],λz J=>by show(xJc,qm2 z c,xNg J z),Ψ xIi,İ u,#[xUb,Ô a h],Me/\a=.non,.ret .none,Ù x::zd r,[Q7 m.2,Ä b5],(by let#[f,v1,r,_]:=ϒ x),Ru β,Qa î xQd,[Qw n,À xW6],ps++more,uJ l d e,(by show bM m F o l S;cases N),Ă ť zx8,by show(He o b,mV b),[Ae e,Ä PV],[yk e,Ä PV],#[y,a,Í],.int 1,x==b8,by rw[show Oj "dict_keyiterator"=false by decide];refine(show wpAny _ _ (BF (jQ d==Value.none)) _ _ s from ?_);rw[if_neg xG6],(ask p out M key q).2,Qe wEq (Qe wIx (Qb 0) (mC (.int 0))) sW,(by refine#[.ref T,rfl,xL2];obtain⟨x,hx⟩:∃x,Q[i]?=sO x:=#[xK1,Nn _];let#[v,hv,r]:=rv.get hx),.int 2,do if xEb=true then SO else throw e,Na (m:=qP7) xDh,kC-iC,gone.map .str,mFn QqE (Qa (mC (.int 2)) (Qa xEf Qc)),Rw K R p.1 zB7/\xo=MK/\Rw K R p.2 q.2.2,LF xEa,(by subst e;let#[_,o,e,c,d]:=st;show#[o,e,λv z=>by rw[d]at z;cases z]),thO (res jV2 qp4 3),Yaz (a:=Value.none) jUd zyc,by refine Call_ xE6,Qf 2 Qi (Qa (Qb 0) (Qa xHi Qc)),∃σ2 h2,(Sj=sO (.nx σ2 h2)\/Sj=zGf)/\P xcg σ2 h2,pyNext (.ref I)>>=_,(Wt++[(ask p out M key q).1]).map Qr,λn=>n it (by simp),VB (o:=Qw (Ŷ a b j)) (g:=[]) (by simp) e mH ?_ rfl #[_,rfl,by simp],.Assign zya e pos,Xc I E D boot_enumerate xFd,wpAny (model prog w) A xPf Q (λ_ _=>False) { s with heap:=g },(by unfold th at e;let#[us,h1,h2]:=ϗ e;subst h2;show xP h),(by let:Looks (model prog w) h xOd B.cls:=(Looks.ld c).andThen .now;show d9 d),EU (name:=zFf) hit.typeIs Dk xKj,<-isInstance e jW7,EU (name:=zFf) hit.typeIs Fy xL1,λA=>wpAny (model prog w) A xSh C (λ_ _=>False) { s with heap:=g,toks:=tk },[MO.dic Ry],mFn Qpc (Qa sY (Qa (mFn JO xH3) Qc)),!c.toArray.isEmpty&&Builtin.List.listTooLong xM5,k R _ _ (Ext.refl _) xHa Rw.non,mUn (xGf C) (Qb 1),.builtin "dict.update.loop" #[[.ref D,.ref I,rM,.none],[]],QcB (R.map zEh) rL s,Builtin.«set.__init__» #[[.ref s.heap.objs.size,.ref l],[]],.type "method_descriptor",mFn Xk (Qa BB (Qa (Qb 5) (Qa (mC (.bl true)) Qc))),Rws.cons wj xIa,a.map QR++[.int n],(by let#[z,en,g,_]:=y;simp only at g;let E:(j.map tO)[t]?=sO xNi:=Td g),eval c (compEnvC scope cl C X.env),res qe2 p.2 3,λz=>(by let z:∀h,wIx xPh (.int 2) h=sO (.str w,h):=λh=>by simp[QI]),is.map zD0,(bk x).rws.map xT9,mSl (Qb 2) qg4 xMc,Ey (thn (vh F d o) λL c r=>?_) A rfl,mFn J9 (Qa (mC qeh) (Qa zIi Qc)),mFn J9 (Qa (mC (.int 3)) (Qa (mC (.int 3)) (Qa (mC (.int 3)) (Qa zIj Qc)))),(by refine#[R,c,h,m,w,q,st,x,λR1 H1 z l b rv=>?_];split at d),λj d=>(by subst j;let#[z,hd,d,rel,dd]:=xu0),if k=f then(k,v)::r else(k,x)::W8 f v r,Qa (Qb 3) (Qa (Qb 4) (i9 (Qe ZX (Qb 5) (mC (.int 1))))),Qa (Qb 5) (Qa (Qe wIx (Qb 7) (mC (.int 0))) Qc),Qe wGt (mFn JO (Qa (Qb 6) Qc)) (mC (.int 1)),(by refine#[g,d,?_];let b:Ze (c.map (·.2))=true:=p;clear p d;revert b),Fv n hd xQi,wpAny _ _ (if(ep != ep)=true then _ else _) _ E _,.Subscript o i pos',show¬xI8 from N9,Nw s.heap.objs.size,.Name "range" p,thO (res qe2 p.2 3),(by let D:=(QG m1).1;let C:=(QG m2).1),.builtin "set.update.loop" #[[.ref S,.ref I],[]],.frz (ns.map .int),Qf 1 V4 (Qa (Qf 1 Z0 (Qa (Qb 0) Qc)) Qc),sO (.builtin "object.__setattr__"),λa=>Z5 a "risen_by",MO.ins C [("numbers",.ref (h0.length+1)),("risen_by",.ref (h0.length+2))],#[Nh (O4 z _ _) b,fin],(λc=>c.1.map qCc),show zb8 from f,.Attribute o name apos,.ins C [("numbers",.ref (h0.length+1))],.ins C [("numbers",.ref (h0.length+1)),("risen_by",.ref (h0.length+2))],Qa (Qb 0) Qc,(by rw[d]at g;injection g with j _;let:c=b:=by simpa using congrArg Array.toList j),Draws.list (A:=X.A.in1) (I.ok.hd hc) it l B a.toArray,Nf (by decide) (E3 _ _),St.drawsT (A:=X.A.in1) (I.ok.hd hc) it l B a.toArray,λX=>LF (EU (name:=zFf) X slotN (Et slotN X Qji ?_ (QoE _))),Nf m qp9,d.put f xOa,Qf 2 Vm (Qa (Qb 0) (Qa (Qb 1) Qc)),Qf 2 Zm (Qa (Qb 0) (Qa (Qb 1) Qc)),(by let#[v,l]:=JX (L:=B) (k:=key) xQ3),Obj.putSet es' t' o,SetL prog w h' a xUf led/\P={ s with heap:=h' },Ro M a b,.call (.ref X) #[[.ref a],[]],mFn JO (Qa (Qb 1) Qc),mFn JO (Qa (Qe wIx (Qb 4) (mC (.int 1))) Qc),(by rcases m.kd with q|q;·rcases z.1 with z|z<;>rw[q]at z<;>cases z),#[_,rfl,Nl h],(List.range (R.map (fin gone)).length).map rf,by rw[if_neg (by simp;lia)],λU=>(by let U:qP9:=by rw[NP,c.1];show Nh zei (jE i)),(by unfold Zy at c;rw[Nr,F5]at c),tf (tf (tf zG1 6) 8) sz,tb W.int qq0,(Value.ref d==Value.none)=true,(Value.ref l==Value.none)=true,Rws.cons (Rw.mono e _ _ g2) Rws.nil,by show(gd p,p),(by let#[o,p,l]:=hN a j m;show xT1),by simp only[Nz]<;>show Nh (Nv d.symm) j,JV [] [] h.length,(by unfold th at e;cases e),(λo e=>y D o (by simpa using r) e),.str "end",Qe QbK (Qb 8) (Qb 4),tb kO qn2,Q xV9 { s with toks:=s.toks+dN n k },Qw f,(by unfold Zy at m;rw[Nt,FH]at m;let#[#[D,j],A,rfl]:=ϗ m),b.cl t _ c xT7,Builtin.Tuple.tupleItemsOf (.ref t)>>=_,.ret (.bool true),.ret (.ref s.heap.objs.size),mUn (Z5 a "risen_by") (Qb 1),! xa2 y x&&risingS y r,#[[],[],.nil,.nil,rfl,λj u p hu=>by simp at hu],.str "or",kt_code_dict_new _ #[rfl,rfl],(by let g:j<b.size:=by rw[c.1];show Nf i (Nv d.symm)),(by let#[f,m,l]:=g zd0 rfl),call (.builtin id) (v::d),(λb o d e=>D b o d xU3),a.getD i 0>a.getD j 0,if([]:xm8).isEmpty then 0 else 1,by show Ni (Nv l) (by decide),λb=>(St.srt (St.uniq b)).map .str,holding [Value.ref a] _>>=_,Q[i]'(Nf m qp9),(by let:=hu;rw[Fx,hv]at this;show N4 this),Builtin.Dict.pairItems (.ref a),.Attribute o x apos,(λc a=>a=st/\∃l o,c=(nO,l,o)),∀b t,C b { s with heap:=g,toks:=t },h++[.lst ws],[#[tg,iter,[c],0]],f j=sO w->ŵ R' w v,(by rw[ND.mp hv]at e;rw[<-e];show hu),(λu x=>if x∈u then u else u++[x]),keywordEach [] env,ia+ib,Qf 1 ZH (Qa (Qb 1) Qc),(QdZ (by decide)).trans a.1.2,un9 rfl xTb,[#[tg,iter,[],0]],sO (.Name x pos'),Et Dk hit.typeIs Li ?_ (IX _),λt=>W.done s _ _ st λa d=>Nl (t a (d.mono sub) ?_),Et Fy hit.typeIs Ou ?_ (Om _),W.go M kk pos i T _ _ _ f λai J D=>?_,(pendingOf s).push zVf,(X0 (by decide)).trans a.1.1,hI p out M P G (Ls++[[]]),if _ then _ else _,Builtin.Dict.addKeywords D []>>=_,.str "most",way++[(part,k)],I.ok.cab x c L t,(by let#[_,_,rfl,_]:=r;rfl),by rw[<-i.length,<-g.length];show A,Kx (Qb 4),(by refine#[e,λt d=>?_];simp at d),(by ·refine bP ?_;simp at en b;simp[QO,Qx,Qj,e,en,b]),#[a,b,I.unwish,q],f p.1 q.1 q.2,DctE prog w h' d (storedH xs k a v),r.length+1,Ep _ f xP2,by dsimp only;refine Zq (Qy xT) ?_,(by unfold List.lookup at e ⊢;dsimp only at e ⊢),(λi v=>its[its.size-1-i]?=sO v),(by let:=FJ o;let#[k',_,rfl]:=NC.mp this;rfl),c.toArray.size+a.toArray.size,d zUi rfl,field (.ref it) 0>>=_,field (.ref it) 1>>=_,seqItems? (.ref l)>>=_,(by let#[_,#[old,g],#[o1,N,c1,d1]]:=st),(λf m v e=>fin c i j f m v e),Yu (mC (.int 3)),(λh' k=>y h' λb l a e=>k b l ?_),MS X Y Z (Nat×Nat),MS X Y Z (Nat×Nat×Nat),x=="__debug__",pure (sO v),zgh=sO (a,ns)/\as=w::a,OW _ zcj,Ni hu (by decide),ask p out M v.1 q=(k,v.2),(by let#[a,xs,d,c,b]:=r),rest.length+1,show(26:Int)≠0 by decide,hL S G (Ls++[[]]),ei nO nO nO nO nO nO nO nO,.int (g i j) s.toks,(EG _).symm,(by let#[old,g]:=S;let#[o1,N,_]:=U),seqItems? (.ref a),items.toList.zip a.toList,by simpa using(J b o e).1,x==("__classdict__":Str),sO (.Attribute o f pos'),atI ws i,λJ z=>(by rw[entry_at J j,Nn i]at l;cases l;rw[NT,NR g,z,Nn i];rfl),zWd/2,tO xY1,λB=>(Nd.mp B.at_).1,hG G (Ls++[[]]),wa (EE p out) v.1.1,xs=[.int i,.int j],#[_,p.isList],((sO nO,a.snd.fst,a.snd.snd)),xwe>xwf,by simp only at m f d,kst xWi _=_,by rintro rfl;show yx v,args_tuple_getitem _ _,#[_,rfl,Rws.append i g],((n,NameKind.cell)),St P xXj,typeOf (.ref C),HT.sIx xs.length 0 lo,.type "StopIteration",(λb o d e=>hk b o d e),by rw[<-z];show Em _,X es[i] (by simp),(by let#[C,g,rfl,#[B,c,d,_],_]:=q),starEach [b] X.env,by rw[i.int_eq,g.int_eq],Oe xXf,λa=>Na (IJ a hd (x:=zhf i) rfl ?_),T.fits xde,Qcx f v fs,by simp[hB,bst,c,e,u,Da,rW,tO,My4.top,E],by simp[hw,c,a,e,hk],#[_,H,I.kept k,?_,q],spM X.K ps.length g,[#[target,iter,t,0]],storedH xs k a dflt,by rw[Nt];show gh i j f,b=e\/b=it,.Tuple elts kk tpos,keyKind' vs.toArray,p.endLine==pos.line,QI ["pair",a,w,b,c],((items,nO,h)),(by let:¬es.size>1:=by show N6.mpr z),hashAt a≠h,[b.st.head?],((trQ q,Q7 q,W.bl true)),by rw[hB];show hk,by rw[if_neg (by simp[d])],by rw[if_neg (show¬((Value.ref l==Value.none)=true)from N9)],(y.size:Int) != 0,[.Attribute o f pos'],Xc I u q n ?_ o c,(s.mono f).set rv,spM K ps.length g,(by let J:=V7 x C L),(by let#[_,E,j,C,P]:=f.dicAt t D),Qa (Qb 1) Qc,by simpa using lt,#[o,D T o ae Z,ab,q],by simp[WI];omega,.int j u,Na (eq (m y p) qIa),Nl (Na (Na ?_)),(k,x)::r,y::r,h++[.dic (dK (shL M out w))],h++[.dic (fd FD)],mC xY0,mC (.str c),mFn f ms,main g e,((w::p.1,p.2)),(by let#[ad,t,e,B,q]:=y;subst e),(its.size:Int)-1,hd t d.symm,by simp[hw,c,hk],by rw[YH r];show q,(λx=>x.1.isSome),#[d,c,j,i,rfl,rfl],#[o,c,d,t,e _ b,r],(by subst N;let ae:=W.apart i T _ f),L2.IsT s.heap n,Sl L Rr (n+1) c,λh=>t x=true->me a h=sO (g x,h),IsRange.new ..,Qah I i g ?_ a,(by let#[n,g,b,a]:=f.lstI m i),b=c.heap.objs.size,.dict es.toArray n,QI (y::r),∀y∈a,y∈b,args_sorted1 _,#[Nh q y.1,y.2],k j l v a b c,a jac rfl,(by let#[T,B,rfl,t,rfl,s]:=q),keyPart .none,sq t.mask h n,#[rfl,0,1,rfl],#[rfl,_,_,rfl],keyLt' κ x y,Looks.of_pure rfl,b*69621+12345,hl j y v' l D e3,#[o,p,a,j,I3,l],by ·rw[NJ,NS,IM];lia,#[o1,N,trivial],.Tuple i N j,(by unfold hashByValue),((nO,lo+n)),nm t,(EG (by simp)).symm,rv (bk x),λc=>(by intro b c h;let hk:=yx k;rw[Eo]at c),V6 I.L.i rfl,#[f,r,rfl,q],#[_,_,rfl,h],items.map f,E7 f d b ?_,#[_,g,trivial],.str "tell",by simp[pur,Ze,this La,this Lb],λj W0=>(j::W0).getLast (by simp),sO (.int e.1.1),Nv hl.symm,((items,src,h1)),hk b o d e,u=Value.ref ad,Fv n hd ?_,(by rw[c]at again ⊢),Nv hk.symm,aW p out M e.1,cne y c e,#[_,p],#[o,e,d.1],#[o,e,d.2.1],!KG as bs,.ret dflt,ks++[x],W.sub _ z,b.erase k,es.size>1,#[o,e _ b,r],N6.mpr hT,ia+(ib+1),2*e+d+d+n,λg1=>by rw[g1.pend];show q.ch,.tail _ f,mFn Q3 Qc,[(0,j),(1,i)],Bk.map QR,rS1 p d L,hN w n k,pyHash v,sO (.ref c),sO b,sO (.int k),sO (.tup (x.2.map QI)),sO (.int q),sO (.lst ((gn M (sq out q)).map .str)),sO (XU (mdS p (sq out q))),sO (.str w),Hp->Prop,j<=i,Nq (Ni p (by decide)),Ua b k v,q.ne c d,SqL.of q,KG as bs,R'.map Qj,o ..,NR g,sj m h N∉l,λl=>Nl (Na (Iq l rfl ?_)),.ret res,.error e,(by let#[t,u,hu,rfl]:=L),#[rfl,?_],λa=>DK (T:="tuple") a ?_,ex b o e,E.map QI,cd "end",p[q.1]?=sO x,by simp[QV,Qx,Qj,QL,Uv,e,hk],fd c,((as,h1)),I.af x z,(by let#[j,hk]:=Wh i v1),f _ _ r,(by subst this;show r.inj i),f.length<=j,#[n,rfl,c],Ny _ hw,tCB r t,by rw[Nz,c],λf=>I.lstM f,(by let F:=Vf B L;subst F E),IY hd _,IA hd _,Ye (k:=g) t,.bool false,by simp[DA],I (i+1),.int 18,((a.fs,z,en)),e.1∈S,sO (ĭ (Ň+1+i)),.Call zBh [a] [] pos,mFn JO (Qa (Qb 6) Qc),lnW p (sq out j),Qa (Qb 4) (i9 (Qe ZX (Qb 5) (mC (.int 1)))),Qa (Qb 4) (Qa (Qe ZX (Ŵ (Qe wIx (Qe wIx (Qb 1) (Qb 4)) (Qb 5)) (mC (.int 2))) (mC (.int 1))) (Qa (mC (.bl false)) Qc)),show¬xI9 from N9,tf eW bs.length,Qj (sq out j),eq (m y p) qIa,(λz=>nd.1 (by rw[<-z];show b)),(tk f2 26+st*(0+(k:Int)))%26,Nf (NN e) I.ok.above,Yu (mUn Yy (mC (.int 1))),tf q 3,Q6 (mFn J9 Qc),XU (mdS p (sq out q)),Nh (Nv A) N,a.size-na,Na (Na ?_)]
noncomputable section
namespace _Z
/-! THE HAND LAYER, for ints, bools, texts, own classes, LISTS and tuples (index, slices, in, append, pop ..), calls, loops. Paste it whole ahead of your own text; what your proof does not reach may be deleted. -/
open PySem renaming wpAny_bind->Na,wpAny_pure->Nl,wpAny_holding->N7,wpAny_mono->Ej,wpAny_call_entry->Et,wpAny_newObj_type->EA,wpAny_callSpecial?_slot->EU,codeAny_builtin->E1,wpAny_setState_of->E7,wpAny_loadPart'->Dx,wpAny_rule->Dy,sizeLine_eq->DA,wpAny_setField->DB,wpAny_specialOf->DF,wpAny_typeOf->DK,plainId_quiet->DN,wpAny_forIn_list->DO,wpAny_Call_Name_kw->DS,wpAny_typeNameOfWhole_keyiter->D5,mem_of_lookup->D7,wpAny_seqItems->Fe,codeAny_mono->Fk,wpAny_passesOwn->Fo,wpAny_notOrdered_dict->Ft,wpAny_dictEpoch->Fv,builtinLookup_eq_fast->Fw,wpAny_pyIter_list->FC,wpAny_typeNameOf_keyiter->FL,wpAny_askSetting->FN,wpAny_getItem_str_slice->FV,wpAny_dictEntries->Ii,wpAny_fieldsOf->Iq,wpAny_isInstance->Iw,wpAny_field->IJ,typeLookup_type->IS,wpAny_pyIter_tuple->IW,call_meets->Lg,wpAny_storeSet_of->Lu,wpAny_pyIter_enum->Ly,storedH_new->LD,wpAny_attempt->LF,beq_builtin_none->LG,wpAny_isOneOf_keyiter->LJ,wpAny_execs_nil->LQ,call_meetsIn->LV,post_val_or_str->LX,wpAny_updateSeq->LZ,size_of_entries->L3,wpAny_pyIter_revIter->L5,wpAny_ite_split->L7,wpAny_setEntries_of->Of,isSubtype_type->Ol,putSet_of->Oq,wpAny_newList->OD,eqIsQuiet_byValue->OG,wpAny_truthy_bool->OI,wpAny_sequenceKey->OL,wpAny_pyIter_slot->ON,noFill_tuple_add->O1,codeAny_of_tree->Yam,wpAny_pyNext_range_end->Yao,wpAny_pyIter_rangeiter->Yap,wpAny_Assign_Subscript->Yav,wpAny_of_eq->Yaz,typeIs_none->YaB,wpAny_runValue->YaK,weight_type_call_type->YaM,callType_codes->YaN,wpAny_loadName_local->YaS,wpAny_load->YaT,wpAny_call->YaU,wpAny_pyIter_keyiter->YaY,wpAny_updateDictKeys->YaZ,codeAny_call_builtin->Ya1,codeAny_extend_loopS->Ya3,wpAny_standAt->Ya7,seq_tuple_add->Ya8,wpAny_handled->Ybb,Within->Ybl,concat_meets->Ybo,seqIndex_neg->Ybq,list_append->YbE,putAt->YbL,call->Yb0,boot_len->Yb3
open Option renaming bind_eq_some_iff->Nc,map_eq_some_iff->Ng,bind_some->Nk,map_some->Ea,isSome_iff_exists->DY,map_eq_none_iff->Fj,toList_some->Fm,isSome_map->FF,isNone_iff_eq_none->IT,isSome_eq_false_iff->OF,map_none->Yan
open List renaming getElem?_eq_some_iff->Nd,getElem?_eq_getElem->Nn,length_map->Nr,getElem?_map->Nt,mem_cons_of_mem->Ny,size_toArray->Nz,mem_cons_self->NA,map_cons->NB,mem_map->NC,mem_singleton->ND,getElem?_append_left->NF,mem_iff_getElem?->NH,mem_append->NI,length_append->NJ,mem_cons->NK,length_cons->NS,mem_append_left->NU,find?_cons->NV,getElem?_eq_none->NX,mem_append_right->NY,map_append->Ee,mem_range->Ef,map_map->Ei,nodup_append->Ek,take_length->El,nodup_cons->Eo,length_singleton->Er,length_set->Es,length_take->Ez,getD_eq_getElem?_getD->EB,length_eq_zero_iff->EC,length_reverse->ED,drop_eq_getElem_cons->EF,dropLast_concat_getLast->EG,append_assoc->EH,mem_of_getElem?->EI,mem_filter->EL,append_nil->EM,nodup_nil->EN,mem_map_of_mem->EO,map_congr_left->ER,getElem?_append_right->ES,lookup_cons->ET,getElem?_set_ne->EW,length_filter_le->E5,ext_getElem?->E6,take_add_one->E8,getElem?_set_self->Dh,getElem?_range->Di,map_nil->Dl,mapM_cons->Dm,findIdx?_eq_some_iff_getElem->Dn,nil_append->Dq,find?_eq_none->Dr,pairwise_map->DE,toList_toArray->DH,length_pos_iff->DI,drop_eq_nil_of_le->DL,filter_cons->DP,not_mem_nil->DQ,mem_iff_getElem->DZ,any_cons->D4,filter_eq_self->D8,all_eq_true->D9,getElem_mem->Ff,nodup_range->Fh,mem_flatMap->Fi,of_mem_zip->Fp,getElem?_toArray->Fx,sum_cons->Fz,length_range->FE,getElem?_zipIdx->FH,mem_of_mem_take->FI,mem_of_find?_eq_some->FJ,length_erase_of_mem->FO,filterMap_cons->FS,mem_filterMap->FZ,length_zipIdx->F5,filter_append->F7,filter_map->F8,take_of_length_le->F9,length_pos_of_mem->Ia,filter_eq_nil_iff->Ic,getElem?_set->Ig,take_append_drop->Ir,take_succ->Iu,getElem_inj->Iy,mem_erase_of_ne->IB,mem_reverse->IE,length_nil->IM,findIdx?_eq_none_iff->IP,range_succ->IR,zip_cons_cons->Lc,length_filterMap_le->Le,getElem?_cons_succ->Lm,reverse_cons->Lq,foldl_append->Lv,flatMap_cons->Lz,take_succ_eq_append_getElem->LI,getElem?_reverse->LK,forIn_cons->LP,foldl_cons->LY,reverse_reverse->L6,mem_of_mem_drop->L8,getElem?_modify->L9,map_eq_nil_iff->Og,filter_sublist->Oh,idxOf_lt_length_of_mem->Ox,length_eraseIdx_of_lt->OA,getElem?_inj->OM,find?_isSome->OQ,getElem?_zip_eq_some->OT,getElem?_eq_none_iff->OU,pairwise_iff_getElem->OY,eq_of_mem_replicate->Yaa,countP_cons->Yab,cons_append->Yac,map_reverse->Yad,map_set->Yae,getElem?_replicate->Yag,all_eq_not_any_not->Yah,drop_of_length_le->YaA,dropLast_eq_take->YaH,contains_iff_mem->YaI,perm_cons_erase->Ya4,all_cons->Yba,mapM_nil->Ybc,replicate_succ->Ybi,getElem?_take->Ybu,getElem?_drop->Ybv,countP_append->Ybw,map_inj_right->Ybx,getElem_idxOf->Yby,any_eq_false->YbC,take_sublist->YbD,filter_congr->YbJ,find?_append->YbK,map_id->YbN,length_drop->YbQ,any_toArray->YbS,range'_succ->YbT,perm_middle->YbV,any_eq_true->YbZ
open Nat renaming lt_of_lt_of_le->Nf,le_trans->Nh,lt_of_le_of_lt->Ni,le_of_lt->Nq,le_add_right->Nu,le_of_eq->Nv,le_refl->Nw,ne_of_lt->NL,zero_le->NO,zero_add->NQ,add_lt_add_left->NW,lt_trans->NZ,lt_succ_self->N5,not_lt->N6,add_le_add_right->N8,lt_irrefl->Em,add_sub_cancel'->Eu,add_le_add_left->Ew,ne_of_gt->EK,le_antisymm->EZ,not_lt_zero->E2,le_add_left->E3,lt_succ_of_lt->E9,add_assoc->Da,sub_le->De,add_right_comm->Df,lt_or_ge->Dg,lt_of_succ_lt->Dv,min_le_right->Dz,add_lt_add_right->DC,not_le->DM,pos_of_ne_zero->DT,lt_of_le_of_ne->DV,le_succ->DW,succ_pos->D0,lt_trichotomy->D1,le_of_lt_succ->FA,one_pos->FK,add_comm->FQ,sub_lt->F6,lt_succ_of_le->Ik,not_lt_of_le->IC,succ_le_succ->IF,mul_le_mul_right->IG,sub_le_sub_left->IK,mul_le_mul_left->IL,sub_lt_left_of_lt_add->IQ,succ_add_eq_add_succ->Ld,mul_le_mul->Lh,add_sub_cancel_left->Ll,le_succ_of_le->OO,sub_pos_of_lt->OP,mod_lt->OW,add_zero->O5,div_eq_of_lt->O8,not_le_of_lt->Yaf,lt_add_of_pos_right->Yaj,min_eq_left->Yal,sub_add_sub_cancel->YaC,lt_of_succ_lt_succ->YaF,add_le_of_le_sub'->YaO,add_mul_div_right->YaR,pow_le_pow_right->Ya2,zero_lt_of_lt->YbI,add_mul->YbM,min_eq_right->YbP,succ_ne_self->YbW,add_pos_left->YbX,sub_sub_self->YbY
open PySem.W renaming Frag->Nj,keepIn->Dd,findIn->Ds,emptyDict->Dt,fnOf->DJ,instObj->DX,mg_of->FY,nsIn->Ip,plainGet->Iz,codeIn->Lf,hasDictIn->Lp,makesIn->LR,plainGet_of->Od,lookIn->Oi,methodObj->OH,plainOver->OJ,isFn->O0,kdl_call->O7,takerIn->Yak,cellsFrom_some->Yar,methodCall_KW->YaG,pyHash_slot->Ybd,callWith_K0->Ybe,callWith_K->Ybn,handedIn->YbO,KeysLit->Yb2,WalkO->Yb5
open PySem.Heap renaming get?_push_of_some->Np,get?_push_size->NM,lt_size->NN,get?_update_self->Ep,get?_update_other->EJ,size_push->DR
open Array renaming length_toList->NP,getElem?_eq_getElem->NR,getElem?_toList->NT,mem_toList_iff->FG,getD_eq_getD_getElem?->Iv,forIn_toList->IU,toList_push->Lr,getElem?_eq_none->LC,mem_of_getElem?->LN,getElem?_eq_some_iff->OC,toList_setIfInBounds->OE,size_setIfInBounds->O9,size_append->YbF
open PySem.Heap.SameBut renaming update->N0,refl->YbH
open Option.some renaming inj->N4,injEq->Ij
open Bool renaming false_ne_true->N9,and_eq_true->Eh,false_eq_true->EY,and_false->Fb,or_eq_true->F3,eq_iff_iff->F4,and_true->Oy,not_true->Ya6,or_false->Ya9
open Ne renaming symm->Eb
open PySem.Paired renaming length->Ec,snoc->Yau
open PyProof.Rows renaming callWith_type1->Ey,slot_tuple_getitem->EV,boot_list->D3,callWith_builtin1->LS,subscriptTail_builtinR->Yas,boot_dict->YaD,boot_max->YaP,boot_sorted->YbA
open PySem.Around renaming under_plainId->EX,under_plain->Ybs
open PySem.F renaming called_set->E4,slot_dict_keyiterator_next->Dk,plainAttrs_list->D6,slot_dict_setdefault->Fg,slot_dict_get->Fq,slot_tuple_iterator_next->Fy,plainAttrs_dict->FX,slot_list_extend->Io,slot_NoneType_hash->ID,slot_dict_contains->IH,args_tuple_add_2->IV,args_dict_keyiterator_next_1->IX,slot_list_getattribute->IZ,entry_dict_keyiterator_next->Li,entry_tuple_add->Lj,args_dict_get_3->Lk,slot_tuple_add->LA,entry_dict_get->LB,plain_extend_loop->LM,slot_list_append->LU,args_dict_setdefault_3->L4,entry_dict_setdefault->Ob,args_tuple_iterator_next_1->Om,type_dict_setdefault->On,entry_tuple_iterator_next->Ou,slot_dict_getitem->OS,type_list_extend->Qq,slot_list_index->Yai,slot_dict_iter->Yay,type_dict_get->YaQ,args_list_append_2->YaW,args_list_extend_2->YaX,sub_list_frozenset->Ya0,kt_typeCall_dict_1->Ya5,entry_list_append->Ybf,entry_list_extend->Ybg,slot_list_pop->Ybr,args_dict_init_2->Ybt,slot_tuple_hash->YbB
open Int renaming toNat_natCast->Dj,emod_nonneg->DG,emod_lt_of_pos->DU,toNat_of_nonneg->FT,eq_ofNat_of_zero_le->FU,le_trans->Il,le_of_eq->Im,lt_of_le_of_lt->Ov,not_le->OR,ne_of_gt->OZ,ofNat_le->O2,zero_add->O3,le_refl->Yaw,add_le_add_right->YaV,le_of_lt->Ybm,natCast_nonneg->Ybp
open Function renaming comp_def->Du
open Classical renaming byContradiction->Dw,choose_spec->LO
open PyProof.Rows.F renaming plain_set_update_loop->DD,entry_set_update_loop->FW
open LawfulBEq renaming eq_of_beq->Fl
open List.Pairwise renaming imp_of_mem->FP
open PySem.Obj renaming data_mapDictKeys->IA,data_mapFields->IY,isFreed_of_dict->Oe,isFreed_of_fields->YaJ,cls_mapFields->YbG,data_mapDict->YbU
open Int.ofNat renaming inj->II
open PySem.WalksT renaming enumerateD->Lx
open List.cons renaming injEq->L0
open PySem.Challenge renaming pw_doneroom_k56_whole_one_room_a_making_spo->Oa
open PySem.Value renaming isStrOf_shape->Oc
open PySem.Builtin.Dict_items renaming ownsTuple->Oj
open PySem.Calls renaming spliced_cons->Oo,Name_function_global->Oz,spliced_nil->OK,call_function_entry->OX,callWith_builtin->Yat
open PySem.Code renaming quiet_builtin->Os
open PySem.Walks renaming list->OV
open PySem.Txt renaming slice_le->O4
open PySem.AutoSeq1 renaming sub_tuple_tuple->O6
open PyProof renaming noPylong_small->Yaq
open PySem.Str renaming ofString_eq_toList->Yax
open List.Sublist renaming countP_le->YaE
open PyProof.Rows.StrsAre renaming length->YaL
open Std.Legacy.Range renaming forIn_eq_forIn_range'->Ybh
open PySem.SeqAt.EqAt renaming int_str->Ybj,str_int->Ybk
open List.Nodup renaming sublist->Ybz
open PySem.IsL renaming update->YbR
open PySem.Heap.DictOf renaming new->Yb1
open PyProof.Rows.IsTup renaming new->Yb4
open PySem PySem.Spec PyProof.Rows
open Option renaming some→sO,none→nO
namespace L2
noncomputable abbrev Key:=Sum Int Str
abbrev QbX:Key->Value->Bool
 |Ý k,v=>Value.isInt k v
 |ê x,v=>Value.isStrOf x v
abbrev QwY(w:World):Key->Int
 |Ý k=>hashInt k
 |ê x=>xs4
def Q1:∀{k:Key} {v:Value},QbX k v=true->(∃i t,k=Sum.inl i/\v=xg0)\/(∃x t,k=Sum.inr x/\v=jee t)
 |Ý i,v,h=>by
  let#[t,e]:=Value.isInt_shape (k:=i) (v:=v) h;show Ğ #[i,t,rfl,e]
 |ê x,v,h=>by
  let#[t,e]:=Oc (x:=x) (v:=v) h;show Ć #[x,t,rfl,e]
def Qdb(i:Int)(t:Tok):QbX zkc fC=true:=by simp[QbX,Value.isInt]
def QeY(x:Str)(t:Tok):QbX zkd xl3=true:=by simp[QbX,Value.isStrOf]
def Qql(a b:Int):decide (zNc=zZd)=zn:=by
 show qG e a b
 ·let h:¬zNc=zZd:=λq=>e (Sum.inl.inj q);rw[S7 h];show qid e
def Qqy(a b:Str):decide (zNd=zZe)=decide (a=b):=by
 show qG e a b
 ·let h:¬zNd=zZe:=λq=>e (Sum.inr.inj q);rw[S7 h,S7 e]
def Qoi(a:Int)(b:Str):decide (zNc=zZe)=false:=jv0
def Qov(a:Str)(b:Int):decide (zNd=zZd)=false:=jv0
abbrev ZY(prog:Program)(w:World):PySem.KeyKind prog w Key where
 is:=QbX
 hash:=QwY w
 inj:=λv a b g f=>by
  show my g i t x
  ·show zCa f j
   ·show zU1;rw[c]
   ·show MP e
  ·show zCa f j
   ·show MP e
   ·show zU1;rw[c]
 byValue:=λk v h=>by
  rcases Q1 h with⟨i,t,rfl,rfl⟩|⟨x,t,rfl,rfl⟩<;>rfl
 pyHash:=λd h=>by
  show my d i t x
  ·show qO0
  ·show qO1
 eqBool:=λhu d h=>by
  rcases Q1 hu with⟨i,t,rfl,rfl⟩|⟨x,t,rfl,rfl⟩
  ·show my d j u y
   ·rw[Qql]at h;show wpAny_eqBool_int h
   ·rw[Qoi]at h;show Ybj i t y u _ _ _ _ h
  ·show my d j u y
   ·rw[Qov]at h;show Ybk x t j u _ _ _ _ h
   ·rw[Qqy]at h;show wpAny_eqBool_str h
 «strs»:=λk x t v h=>by
  show zCa h i
  ·show MP e
  ·show zU1
   subst c;show Hu v
def Gg(prog:Program)(w:World)(i:Int)(t:Tok):(ZY prog w).is zkc fC=true:=Qdb i t
def GB(prog:Program)(w:World)(x:Str)(t:Tok):(ZY prog w).is zkd xl3=true:=QeY x t
inductive V where
 |non|bl (b:Bool)|int (i:Int)|str (x:Str)|byt (b:Array UInt8)|flt (b:UInt64)|ref (a:Addr)|ty (n:String)
 deriving DecidableEq
abbrev RelV:V->Sc
 |.non,u=>xl4
 |.bl b,u=>xbe
 |Á i,u=>qn3
 |Ù x,u=>qn4
 |.byt b,u=>qG5
 |.flt b,u=>qG6
 |Ä a,u=>yH
 |.ty n,u=>xbf
noncomputable abbrev Vals:Ö->Ë->Prop:=Paired RelV
def Vals.length{xs:Ö}{us:Ë}(r:Ι):qL0:=Ec r
def J5{c d:Type}{F:c->d->Prop}{b:Ø c}{a:Ø d}{j:Nat}{x:c}(p:u7 F b a)(e:b[j]?=sO x):∃v,a[j]?=sO v/\F x v:=by
 induction p generalizing j with
 |nil=>cases e
 |cons r t f=>
  cases j with
  |zero=>show Χ e xs5
  |succ j=>show f e
def Vals.get{xs:Ö}{us:Ë}{i:Nat}{x:V}(p:Ι)(e:xs6):∃u,xs8/\ñ x:=
 J5 p e
def Vals.set{x:V}{u:Value}(r:ñ x):∀{xs:Ö} {us:Ë} (i:Nat),Ι->Vals (xs.set i x) (us.set i u)
 |_,_,_,.nil=>.nil
 |_,_,0,zZf=>ĉ r t
 |_,_,i+1,ĉ q t=>ĉ q (Vals.set r i t)
def Vals.append{xs b:Ö}{us ws:Ë}(a:Ι)(s:Vals b ws):Vals (xs++b) (us++ws):=
 a.rec s λr _ h=>ĉ r h
def Vals.take:∀{xs:Ö} {us:Ë} (n:Nat),Ι->Vals (xs.take n) (us.take n)
 |_,_,0,_=>.nil
 |_,_,_+1,.nil=>.nil
 |_,_,n+1,ĉ r t=>ĉ r (Vals.take n t)
def Vals.drop:∀{xs:Ö} {us:Ë} (n:Nat),Ι->Vals (xs.drop n) (us.drop n)
 |_,_,0,r=>r
 |_,_,_+1,.nil=>.nil
 |_,_,n+1,zZf=>Vals.drop n t
abbrev RelO:Ū V->vo->Prop
 |ã v,sO u=>ñ v
 |none,nO=>True
 |_,_=>False
abbrev KV{κ:Type}:jY->AD κ->Prop:=Paired λ(p:κ×V) (q:κ×Value)=>zg9/\RelV p.2 q.2
inductive Tr where
 |i (n:Int)
 |s (x:Str)
 |t (ks:jA)
noncomputable instance trDec:DecidableEq Tr:=qqi
abbrev IsT(h:Heap):jl4
 |0,_,_=>False
 |_+1,.i k,v=>(∃t,v=.int k t)\/∃b:Bool,v=zga/\qI8
 |_+1,.s x,v=>qY9
 |n+1,.t ks,v=>∃a its,ψ/\fv/\r9 zX1
def Qhg{e d:Type}{F:e->d->Prop}(hi:∀x y v,F x v->F y v->x=y){xs c:Ø e}{vs:Ø d}(p:Paired F xs vs)(q:Paired F c vs):xs=c:=by
 induction p generalizing c with
 |nil=>cases q;rfl
 |cons a s f=>cases q with|cons b t=>rw[hi _ _ _ a b,f t]
def Gx{h:Heap}{n:Nat}{x:Tr}{a:Addr}(c:IsT h n x Ġ):∃m ks its,n=m+1/\x=.t ks/\fv/\r9 (IsT h m):=by
 cases n with
 |zero=>show C7 c
 |succ n=>
  cases x with
  |i k=>rcases c with⟨t,e⟩|⟨b,e,_⟩<;>cases e
  |s y=>show Đ t e c;cases e
  |t ks=>let#[d,its,e,p,q]:=c;show ì e #[n,ks,its,rfl,rfl,p,q]
def GL{h:Heap}{a:Addr}{x y:Ķ}(e:h.IsTuple a x)(d:h.IsTuple a y):x=y:=by
 let#[o,g,_,n,f]:=e;let#[i,c,_,j,b]:=d;show â g c;rw[f]at b;injection b
abbrev gT:Value->Tr
 |.int i _=>.i i
 |zga=>.i (qa8 b)
 |.str x _=>.s x
 |_=>.t []
def QnD{h:Heap}{n:Nat}{x:Tr}{v:Value}(c:zo x):(∃a,ψ)\/x=gT v:=by
 cases n with
 |zero=>show C7 c
 |succ n=>
  cases x with
  |i k=>rcases c with⟨t,rfl⟩|⟨b,rfl,rfl⟩<;>show jce
  |s y=>show(á c,jce)
  |t ks=>let#[a,d,rfl,_]:=c;show Ý (zK a)
def X9{h:Heap}:∀{n:Nat} (x y:Tr) (v:Value),zo x->zo y->x=y:=by
 intro n
 induction n with
 |zero=>
  intro _ _ _ b _;show C7 b
 |succ n j=>
  intro x y v b d
  by_cases r:∃a,ψ
  ·show Ĵ a r;let#[m,ks,i,e,rfl,p,q]:=Gx b;let#[o,s,c,l,rfl,g,f]:=Gx d;show AZ e l;cases GL p g;rw[Qhg (λx y v=>j x y v) q f]
  ·rw[xg3 b,xg3 d]
def V0{g e:Type}{F G:g->e->Prop}(f:qL1){d:Ø g}{c:Ø e}(p:u7 F d c):u7 G d c:=
 juf
def Qef{h h':Heap}{d:Addr}{o:Obj}{es ep}(j:ő d=sO o)(hd:RJ)(r:Heap.SameBut d h h'){n:Nat}(k:Tr)(v:Value)(x:zo k):xl5:=by
 induction n generalizing k v with
 |zero=>show C7 x
 | succ n p=>
  cases k with
  |i k=>show x
  |s k=>show x
  | t ks=>
   let#[a,f,e,#[l,c,u,m,b],q]:=x
   let g:a≠d:=by
    rintro rfl
    show â c j;rw[hd]at b;show MP b
   show#[a,f,e,#[l,Bz r a g c,u,m,b],V0 p q]
set_option backward.eqns.deepRecursiveSplit false in
abbrev hN(w:World):Nat->Tr->Int
 |0,_=>0
 |_+1,.i k=>hashInt k
 |_+1,.s x=>xs4
 |n+1,.t ks=>reduceHash (Builtin.Tuple.tupleHashOf (ks.map (hN w n)))
set_option backward.eqns.deepRecursiveSplit false in
abbrev dN:Nat->Tr->Nat
 |0,_=>0
 |_+1,.i _=>1
 |_+1,.s _=>1
 |n+1,.t ks=>qAd+1
section
variable{prog:Program}{w:World}{E:Ñ}
def Qdy{n:Nat}{A:Around}(e:jpc) :
  ∀(ks:jA) (vs:Ë) (s:Shared) (b:zZg) (Q:zZg->Ϸ),Paired qU7 ks vs ->
  (∀a,a.toList=b.toList++ks.map (hN w n)->Q a { s with toks:=s.toks+qAd }) ->
  ä (forIn vs b λx r=>do let h <-pyHash x;pure PUnit.unit;pure (qJ (r.push h))):=by
 intro ks
 induction ks with
 |nil=>
  intro _ s b Q x h;cases x;show ħ (h b Ç)
 | cons k ks f=>
  intro _ s b Q x h;cases x with
  |cons d c=>
   rw[LP];show(Æ (Na (e k _ s _ d ?_)),Æ zeh);refine f _ _ _ Q c (Ô a g);let:=h a (ϟ g);simpa[Da]using this
def QiE:∀(n:Nat) (A:Around),vc->jpc:=by
  intro n
  induction n with
  |zero=>show λ_ _ _ _ _ _ x _=>x.elim
  | succ n e=>
   intro A hu k v s Q x h;cases k with
   |i k=>
    show zGc x b
    · show qO0
    · refine Ybd (T:="bool") rfl F.slot_bool_hash entry_int_hash (args_int_hash _) (LG _) (Ė Cw) ?_;cases b
      show uU (show ń (do ret (<-mkInt 0)) from Na qd9)
      show uU (show ń (do ret (<-mkInt 1)) from Na qd9)
   |s y=>
    show(á x,qO1)
   |t ks=>
    let#[a,d,rfl,#[o,c,f,m,hd],q]:=x;refine Ybd (T:="tuple") #[_,c,f] YbB F.entry_tuple_hash (F.args_tuple_hash_1 _) (LG _) (Ė Cw) ?_;apply ń (Builtin.Tuple.tupleItemsOf Ġ>>=_);show(Æ (wpAny_tupleItemsOf c hd ?_),jC);rw[<-IU];refine Qdy (n:=n) (λk v s Q=>e A.in1 k3 k v s Q) ks _ s #[] _ q (Ô b g);apply ż (retInt (Builtin.Tuple.tupleHashOf b.toList));rw[g];show ı (wpAny_mkInt (jK #[_,_,rfl,?_]));simpa[hN,dN,Da]using h
def QmM{n:Nat}{h:Heap}{e:Nat->Bool}:∀{ks ls:jA} {us vs:Ë},Paired zX1 ks us->Paired zX1 ls vs->(∀(j:Nat) (x y:Tr),zg4=sO x->jD=sO y->e j=qE6) ->
  ((List.range (min us.length vs.length)).all e&&us.length==vs.length)=qAe:=by
 intro ks ls us vs p q d;let g:=Ec p;let f:=Ec q;rw[<-g,<-f]
 by_cases c:ks.length=ls.length
 ·by_cases hk:ks=ls
  ·subst hk;simp only[Nat.min_self,beq_self_eq_true,Oy,decide_true];rw[D9];intro j b;rw[Ef]at b;rw[d j ks[j] ks[j] (Nn b) (Nn b)];simp
  ·let:qAe=false:=decide_eq_false λz=>hk (Tr.t.inj z);rw[this,Bool.and_eq_false_iff];left;let:∃j,zg4≠jD:=Dw λz=>hk (E6 λj=>Dw λy=>z (ĺ j y));let#[j,b]:=this;let a:xsc:=Dw λz=>b (by rw[NX (jE z),NX (Nh zkf (jE z))]);rw[List.all_eq_false];refine#[j,Ef.mpr É,?_];rw[d j ks[j] ls[j] jf4 (Nn qYa)];intro z;rw[decide_eq_true_eq]at z;show b (by rw[Nn a,Nn qYa,z])
 ·let i:(ks.length==ls.length)=false:=PY c;rw[i,Fb];show(decide_eq_false λz=>c (by rw[Tr.t.inj z])).symm
open SeqAt in
def QsN {s:Shared}:∀(n:Nat) (A:Around),vc->∀(x y:Tr) (u v:Value),dh x u->dh y v->EqAt A s u v (AQ (x=y)):=by
  intro n
  induction n with
  |zero=>show λ_ _ _ _ _ _ c _=>c.elim
  | succ n H=>
   intro A hu x y u v c f;cases x with
   |i a=>
    cases y with
    | i b=>
      let hd:decide (Tr.i a=Tr.i b)=zn:=by
        show jv1 a b (Tr.i.inj q)
      rw[hd]
      rcases c with⟨t,rfl⟩|⟨p,rfl,rfl⟩<;>rcases f with⟨h,rfl⟩|⟨q,rfl,rfl⟩
      · show EqAt.int_int a t b h
      · show EqAt.int_bool a t q
      · show EqAt.bool_int p b h
      · let:=EqAt.bool_bool (A:=A) (s:=s) p q;cases p<;>cases q<;>show this
    | s b=>
      show(Ĵ h f,oX c p)
      · show EqAt.int_str a t b h
      · show EqAt.bool_str p b h
    | t ks=>
      show(rd f,oX c q)
      · show EqAt.int_tuple a t p Cw
      · show EqAt.bool_tuple q p Cw
   |s b=>
    cases y with
    | i a=>
      show(Ĵ h c,oX f p)
      · show EqAt.str_int b h a t
      · show EqAt.str_bool b h p
    | s d=>
      show jL t c h f
      let hd:decide (Tr.s b=Tr.s d)=(b==d):=by
        show jv1 b d (Tr.s.inj q)
      rw[hd];show EqAt.str_str b t d h
    | t ks=>
      show(rd f,á c,qle,EqAt.str_tuple b t p Cw)
   |t ks=>
    cases y with
    | i a=>
      show(rd c,oX f q)
      · show EqAt.tuple_int a t p Cw
      · show EqAt.tuple_bool q p Cw
    | s b=>
      show(rd c,á f,qle,EqAt.tuple_str b t p Cw)
    | t l=>
      let#[ad,g,rfl,p,q]:=id c;let#[Z,m,rfl,M,F]:=id f
      by_cases B:ad=Z
      · subst B;let:=X9 _ _ _ c f;rw[this,qO3];show xsd
      · refine EqAt.of_refs B ?_;let U:=H A.in1 jug
        let L:=RcAt.tuples (A:=A) (s:=s) (e:=jq2) p M Cw (λj D C=>by
          let P:=Ec q;let N:=Ec F;let S:xsc:=BD P D
          let Q:j<l.length:=BD N C
          obtain⟨x,c⟩:∃x,zg4=sO x:=#[ks[j],Nn S]
          obtain⟨y,f⟩:∃y,l[j]?=sO y:=#[l[j],Nn Q]
          show(C5 u o I J5 q c,C5 t r J J5 F f);rw[c,f]
          let Y:g[j]=u:=by
            rw[NT,NR D]at o;show N4 o
          let X:m[j]=t:=by
            rw[NT,NR C]at r;show N4 r
          rw[Y,X]
          show U x y u t I J)
        let:=QmM (e:=jq2) q F (λj x y D C=>by simp only[D,C]);rw[NP,NP]at this;rw[this]at L;show L
def Gj {A:Around} {s:Shared}:∀(n m:Nat) (k:Tr) (v:Value) (Q:Cb),dh k v->n<=m->Q true s->ä (eqIsQuiet m v):=by
  intro n
  induction n with
  |zero=>show qCd
  | succ n y=>
   intro m k v Q x H h;cases k with
   |i k=>
    show zGc x b
    · show zOj
    · show zOj
   |s k=>
    show(á x,zOj)
   |t ks=>
    show pR m z #[m-1,Í]
    let#[a,e,rfl,#[o,g,B,l,hd],q]:=x;let j:zCb:=Ŷ o g B
    unfold eqIsQuiet;show Æ (DF j F.slot_tuple_eq.lookup ?_);apply ń (isInstance Ġ zM9>>=_);show(Æ (Iw j isSubtype_tuple_tuple ?_),zL4,Æ xbg,jDi e);refine DO _ (λrest r d=>zhi/\d=s/\∃c,Paired qU7 c rest) _ ?_ ?_ _ _ qO4
    · rintro v rest r d ⟨f,rfl,c,u⟩
      cases u with
      | cons p q2=>
        show(Æ (qG7 p),zL4,ħ qO5)
    · show zod D C d f
#print"-"
abbrev Qh(prog:Program)(w:World):HeapKind prog w Tr where
 is:=λh k a=>IsT h 8 k Ġ
 hash:=hN w 8
 draws:=dN 8
 room:=λA=>zNe
 inj:=λc b=>X9 _ _ _ c b
 keeps:=λx e hd d=>Qef e hd d _ _ x
 pyHash:=λhu hk h=>QiE 8 _ hu _ _ _ _ hk h
 eqBool:=λhu c b h=>QsN 8 _ hu _ _ _ _ c b _ _ _ _ h
 quiet:=λhk h=>Gj 8 8 _ _ _ hk Č h
abbrev kV:Key->V
 |Ý i=>Á i
 |ê x=>Ù x
inductive HO where
 /-- a list -/
 |lst (xs:Ö)
 /-- a tuple (never changes) -/
 |tup (xs:Ö)
 /-- a dict whose keys are ints and texts;one whose keys are tuples of ints and texts (the empty one is both) -/
 |dK (kvs:ü V)|dT (kvs:Ś)
 /-- a set of ints: its members,its size -/
 |set (S:Int->Bool) (n:Nat)
 /-- an instance of the class at C,its dict at dx,its attributes -/
 |ins (C dx:Addr) (fs:Θ V)
 /-- the dict of the instance at x -/
 |own (x:Addr)
 /-- the dict of an exception -/
 |xd (fs:Θ V)
 /-- a bound method,f of x -/
 |met (f x:Addr)
 /-- a range object lo,lo+1,.. below hi -/
 |rng (lo hi:Int)
 /-- a thing that is known to the object (the script;a dict while a loop walks it): read,never written while it is so -/
 |frz (o:Obj) (u:HO)
 /-- a Qf1 object's table -/
 |tbl (ps:Ķ)
 /-- any other thing,by what is true of its one object (a def of one's own: SetO a S n:=HO.ext λh=>..) -/
 |ext (φ:iX)
noncomputable abbrev Hp:=Addr->zd4
abbrev upd(H:Hp)(a:Addr)(o:HO):Hp:=λb=>if b=a then sO o else H b
def Z9{H:Hp}{a:Addr}{o:HO}:upd H a o a=sO o:=by unfold upd;rw[į]
def Qu{H:Hp}{a b:Addr}{o:HO}(h:b≠a):upd H a o b=H b:=by unfold upd;rw[Ó h]
def JF{H:Hp}{a b:Addr}{o:HO}(h:wT)(h':ϫ):a≠b:=by
 intro e;subst e;show â h h'
section
variable(P:Program)(w:World)
abbrev ObjOk(H:Hp)(h:Heap)(a:Addr):HO->Prop
 |.lst xs=>Bn/\∃(its:Ë) (n:Nat),Sr/\ő a=ck
 |.tup xs=>Bn/\∃its:Ë,Sr/\IsTup h a its.toArray
 |.dK b=>zw5
 | .dT b=>RK/\kj/\∃xs:uK,
   Paired (λ(p:Tr×Addr×V) (q:Tr×zU4)=>qlg) b xs /\
   ∃o es ep,B8/\o.ExactDict/\RJ/\es.toList=xs.map (entryOfKey (Qh P w))/\(xs.map (·.1)).Nodup/\ep=es.size
 |.set S n=>h.SetOf (intKind P w) a S n
 | .ins C d fs=>H d=xse/\qYb/\d≠a/\ő a=sO (DX C d) /\
   ∃c,h.Ns1 d c/\(∀f,zJh c)/\Ybl c (fs.map (·.1))
 |.own _=>∃o,B8
 |.xd fs=>∃c,h.Ns1 a c/\∀f,zJh c
 |.rng lo hi=>∃t u v,ő a=sO { cls:=kt,data:=zw2 }
 |.frz o u=>B8/\ObjOk H h a u
 |.tbl ps=>ő a=sO { cls:=.none,data:=.fields ps }
 |.met f x=>ő a=sO (OH qg ϱ)
 |.ext e=>e h/\(∃o,B8)/\∀h1 h2:Heap,e h1->(∀o,B4 h1 a=sO o->B4 h2 a=sO o)->e h2
abbrev HOk(H:Hp)(h:Heap):Prop:=∀a o,wT->iJ o
#print"-"
section
variable{P:Program}{w:World}{H H':Hp}{h h':Heap}{a:Addr}{o:HO}
def ObjOk.lt(x:iJ o):zQ5:=by
 cases o with
 |lst c=>let#[_,_,_,_,e]:=x;show NN e
 |tup c=>let#[_,_,_,p]:=x;show p.lt
 |dK b=>show qsh
 |dT b=>show qsh
 |set S n=>let#[o,_,_,_,e,_]:=x;show NN e
 |ins C j fs=>let#[_,_,_,e,_]:=x;show NN e
 |own y=>let#[_,e]:=x;show NN e
 |xd fs=>let#[_,#[_,_,_,e,_],_]:=x;show NN e
 |rng lo i=>let#[_,_,_,e]:=x;show NN e
 |frz ob u=>let#[e,_]:=x;show NN e
 |tbl g=>show qf9
 |met f y=>show qf9
 |ext d=>let#[_,#[_,e],_]:=x;show NN e
def Paired.mapP{g e:Type}{F G:g->e->Prop}{d:Ø g}{c:Ø e}(p:u7 F d c)(f:qL1):u7 G d c:=
 juf
def ObjOk.stay(x:ObjOk P w H h a o)(k:∀b u,(b=a\/H b=sO jFc)->h.get? b=sO u->q9=sO u)
  (E:∀b,zmi jFc) (J:zji):ObjOk P w H' h' a o:=by
 induction o with
 |lst xs=>let#[z,j,n,r,e]:=x;show#[z,j,n,r,B6]
 |tup xs=>let#[z,j,r,ob,e,c]:=x;show#[z,j,r,ob,B6,c]
 |dK s=>let#[z,y,B,r,ob,g,i,e,c]:=x;show#[z,y,B,r,ob,g,i,B6,c]
 |dT s=>
  let#[z,y,xs,r,ob,g,i,e,c]:=x;show#[z,y,xs,r,ob,g,i,B6,c]
 |set S n=>let#[ob,g,i,t,e,c]:=x;show#[ob,g,i,t,B6,c]
 |ins C M fs=>
  let#[d,z,ne,e,m,#[l,g,i,F,c],r]:=x;show#[E _ d,z,ne,B6,m,#[l,g,i,k _ _ (.inr d) F,c],r]
 |own y=>let#[ob,e]:=x;show#[ob,B6]
 |xd fs=>let#[m,#[l,g,i,e,c],r]:=x;show#[m,#[l,g,i,B6,c],r]
 |rng lo L=>let#[t,u,v,e]:=x;show#[t,u,v,B6]
 |frz ob u D=>let#[e,q]:=x;show#[B6,D q]
 |tbl A=>
  let e:h.get? a=jsh:=x;apply h'.get? a=jsh;show jv2
 |met f y=>
  let e:h.get? a=sO jrg:=x;apply h'.get? a=sO jrg;show jv2
 |ext I=>let#[p,#[o,e],st]:=x;show#[st _ _ p λo q=>k _ _ joe q,#[o,B6],st]
def HOk.lt(x:CT)(e:wT):zQ5:=(x a o e).lt
def HOk.fresh(x:CT)(e:zP0):H a=nO:=by
 cases q:H a with
 |none=>rfl
 |some u=>show ý (Nf (x.lt q) e) vP
def HOk.kept(x:CT)(k:gX):jhd H:=λa o e=>
 (x a o e).stay (λb u _ q=>zj3) zU5 yI
def HOk.laid(x:CT)(k:gX)(g:zP0)(new:jl5 a o):jhd (Ą a o):=λb u e=>by
 let d:=x.fresh g
 show zna f a e
 ·rw[Qu f]at e;show(x b u e).stay (λc v _ q=>k c v q) (λc q=>jzd) λc i q=>jzd
#print"-"
abbrev Rd(H:Hp)(a:Addr)(u:HO):Prop:=H a=sO u\/∃o,H a=sO jsi
def Rd.ok{P:Program}{w:World}{H:Hp}{h:Heap}{a:Addr}{u:HO}(r:MV u)(x:CT):iJ u:=by
 rcases r with r|⟨o,r⟩
 ·show x a u r
 ·let#[_,q]:=x a _ r;show q
abbrev Mut:zd4->Prop
 |oa=>True
 |some (.dK _)=>True
 |some (.dT _)=>True
 |some (.set _ _)=>True
 |some (.ins _ _ _)=>True
 |some (.ext _)=>True
 |_=>False
section
variable{P:Program}{w:World}{H:Hp}{h h':Heap}{x e:Addr}{o':HO}
def HOk.write(ok:CT)(i:zZi)(o:zF6)(k:jv3)(m:zp7)
  (new:jl5 x o'):jhd (Ą x o'):=λb u q=>by
 let d:∀c y,H c=sO (.own y)->c≠x:=λc y r z=>zJi r i
 let f:∀c g,H c=sO (Ĩ g)->c≠x:=λc g r z=>zJi r i
 show zna l x q
 ·rw[Qu l]at q
  show Ě a b e
  ·let n:H b=sO tW:=by
    show AN o
    ·show ý (Ē a z) l
    ·show Β a z
   show(â q n,Đ v p m,#[v,BD a p])
  ·refine(ok b u q).stay (zTc j r) (λc r=>jX (d c b r) r) λc g r=>jX (f c g r) r
   show dQ j
   ·show a
   ·rintro rfl
    show AN o
    ·show d c b j z
    ·show(â j z,l rfl)
#print"-"
structure Un(fs ex:List Addr)(H H':Hp)(h h':Heap):Prop where
 keep:∀b o,gV->Pc->b∉fs->pq->q9=sO o
 slot:∀b o,gV->Pc->b∈fs->pq->∃sl,q9=sO { o with slots:=sl }
 free:∀b o,gV->Pc->pq->H' b=nO
 there:∀b o,gV->pq->∃o',q9=sO o'
 tups:zji
 frzs:jjj
 tbls:jog
section
variable{fs fs' ex ex':Κ}{H H1 H2:Hp}{h h1 h2 h':Heap}{a x e:Addr}{o:HO}
def Un.any(u:Un fs ex H H1 h h1){b:Addr}{ob:Obj}(q:ő b=sO ob)(n:ϫ)(c:pq):∃f,B4 h1 b=sO { ob with slots:=f }:=by
 by_cases d:b∈fs
 ·show u.slot b ob q n d c
 show č #[ob.slots,u.keep b ob q n d c]
def Un.kept(k:gX):Un fs ex H H h h':=
 #[λb ob q _ _ _=>jcf,λb ob q _ _ _=>#[ob.slots,jcf],λ_ _ _ n _=>n,λb ob q _=>#[ob,jcf],jv q,xl8,λ_ c q=>#[#[],CS q]]
def Un.refl:Un fs ex H H h h:=Un.kept yI
def Un.laid(k:gX)(f:zP0)(c:H a=nO):jFd a where
 keep:=λb u q _ _ _=>zj3
 slot:=λb u q _ _ _=>#[u.slots,zj3]
 free:=λb u q n _=>jX (NL (Nf (NN q) f)) n
 there:=λb u q _=>#[u,zj3]
 tups:=λb d q=>jX zZh q
 frzs:=λb u d q=>jX zZh q
 tbls:=λb g q=>#[#[],by rw[Qu zZh,q];simp]
def Un.write(d:zZi)(m:zF6)(k:jv3)(g:zp7):jFd x:=by
 let i:∀b,ϫ->b≠x:=λb n z=>zJi n d
 let j:∀b,ϫ->b≠e:=λb n z=>by
  subst z
  rcases m with r|r
  ·show i b n r
  ·show â n r
 let f:∀b u,zej->¬Mut (sO u)->b≠x:=λb u q nm z=>by subst z;rw[q]at d;show nm d
 refine#[λb u q n _ _=>qG8,λb u q n _ _=>#[u.slots,qG8],λb u q n _=>jX (i b n) n,λb u q _=>?_,
  λb l q=>jX zL5 q,λb u l q=>jX zL5 q,λb p q=>#[#[],by rw[Qu zL5,q];simp]]
 show Ě c b e
 ·show zzd c g
 show č #[u,k b u c q]
#print"-"
abbrev trk(h:Heap)(H:Hp):Κ:=(List.range h.objs.size).filter λa=>(H a).isSome
abbrev Qhc(h:Heap)(H:Hp):Heap:=PySem.W.hideAll h zX2
def QcJ(h:Heap)(H:Hp):(Qhc h H).objs.size=h.objs.size:=PySem.W.hideAll_size _ _
def Qg9{h:Heap}{H:Hp}{b:Addr}{o:Obj}(e:HX)(n:ϫ):zMa=sO o:=
 PySem.W.hideAll_get _ e λa=>by
  let q:(H b).isSome=true:=(EL.mp a).2;show Mg n q
def Qne{h:Heap}{H:Hp}{b:Addr}{o:Obj}(e:zMa=sO o):HX/\ϫ:=by
 let a:HX:=PySem.W.of_hideAll zX2 e;show SS a;cases q:H b with
 |none=>rfl
 |some x=>
  let c:b∈trk h H:=EL.mpr #[Ef.mpr (NN a),ϩ q];let z:zMa=nO:=PySem.W.hideAll_none zX2 c;show â z e
structure Mod(K:Nj)(mg:Ĕ)(base:Heap):Prop where
 kin:K.In base
 glob:base.Ns mainGlobals mg
 blt:∃mb,base.Ns builtinsNs mb/\∀x:Str,Se->mb x=kf
 nolimit:base.NoLimit
structure Cx where
 prog:Program
 w:World
 K:Nj
 mg:Ĕ
 base:Heap
 A:Around
 N:Â
 s₀:Shared
 H₀:Hp
 env:Env
 outer:ϓ
 stack:ϓ
 ex:Κ
 fn:Str->Bool
 calm:Bool
 pn:Û
 xe:Ñ
abbrev frs(l:ϓ):Κ:=l.filterMap (·.frame)
noncomputable abbrev Cx.fs(X:Cx):Κ:=frs X.outer
abbrev Vis(sc:Scope)(x:Str):Prop:=PB=CQ\/PB=j8\/PB=A9
abbrev Loc(sc:Scope)(x:Str):Prop:=zq0
abbrev Qv3(env:Env)(h:Heap)(m:Ĕ)(x:Str)(u:Value):Prop:=
 (wP x=CQ/\m x=sO u)\/((wP x=j8\/wP x=A9)/\∃c,env.cells.lookup x=sO c/\h.IsCell c (sO u))
structure Cx.Ok(X:Cx):Prop where
 mod:qL3
 kind:X.env.scope.kind=.function
 glob:X.env.globals=mainGlobals
 blt:X.env.builtins=builtinsNs
 above:X.s₀.heap.objs.size<=X.env.locals
 inj:∀x y c,Ax->bJ y=sO c->x=y
 has:∀x,jDj->∃c,Ax
 cab:∀x c,fL->Ax->X.s₀.heap.objs.size<=c
 hd:ĥ->X.A.handled=nO
 frames:X.A.frames=sO X.stack
 stk:X.stack=X.outer\/(X.stack=X.env::X.outer/\X.env.frame=sO X.env.locals)
 exf:∀b∈X.ex,zMb/\∀x c,Ax->c≠b
 bs:∀b o,kQ->znd/\xsg
 bsz:X.base.objs.size<=X.s₀.heap.objs.size
 noex:∀b o,kQ->b∉X.ex
 exfs:∀b∈X.ex,jcg
 funs:X.s₀.heap.FunFrames X.base X.outer
 frf:∀b∈X.fs,xsg
structure Inv(X:Cx)(pins:Û)(σ:zab V)(H:Hp)(s:Shared):Prop where
 ok:X.Ok
 os:s.os=X.s₀.os
 bare:dY s
 base:Un X.fs X.ex X.H₀ H X.s₀.heap s.heap
 loc:∃m,jwi/\∀(i:Nat) (x:Str) (v:V),ώ->jLf->f9->∃u,ñ v/\Qv3 X.env s.heap m x u
 cell:∀x c,Ax->∃v,jCh
 free:H X.env.locals=nO
 freeC:∀x c,Ax->H c=nO
 pin:∀p∈zX3,jV1
 hok:HOk X.prog X.w H s.heap
 len:σ.length=X.N.length
section
variable{X:Cx}{pins:Û}{σ:zab V}{H H':Hp}{s:Shared}{h':Heap}
def Cx.Ok.nofr(ok:X.Ok){b:Addr}{o:Obj}(e:kQ):jcg:=λa=>by
 let:=(ok.funs.mem a).1;show Bq e
def Inv.bs(I:ß):∀b o,kQ->ϙ/\ϫ:=λb o e=>
 #[I.base.keep b o qRb qRc (I.ok.nofr e) qL4,I.base.free b o qRb qRc qL4]
def Inv.bk(I:ß):∀b o,kQ->ϙ:=λb o e=>(I.bs b o e).1
def Inv.mod(I:ß):qL3:=I.ok.mod
def Inv.kIn(I:ß):X.K.In s.heap:=I.ok.mod.kin.keeps I.bk
def Inv.lt(I:ß):X.env.locals<s.heap.objs.size:=let#[_,a,_]:=I.loc;a.lt
def Inv.sz(I:ß):X.s₀.heap.objs.size<=s.heap.objs.size:=Nh I.ok.above (Nq I.lt)
def Inv.nofs(I:ß){a:Addr}(h:qL5):a∉X.fs:=λc=>by
 let#[_,o,b,_]:=I.ok.funs.mem c;show ý (Nf (NN b) (Nh I.sz h)) vP
def Inv.cne(I:ß):∀x c,Ax->c≠X.env.locals:=λx c e z=>by
 let#[v,o,d,hd]:=Hv I e;let#[m,#[f,g,h,a,b,_],_]:=I.loc;rw[z,a]at d;cases d;rw[b]at hd;cases hd
def Inv.funs(I:ß):s.heap.FunFrames X.base X.outer:=by
 let all:∀(l:ϓ),(∀b∈frs l,b∈X.fs)->X.s₀.heap.FunFrames X.base l->s.heap.FunFrames X.base l:=by
  intro l
  induction l with
  |nil=>intro _ _;trivial
  |cons m r f=>
   intro d j;let#[hk,#[L,o,a,i,h,hd],g]:=j;let hL:L∈X.fs:=d L (by unfold frs;rw[FS,a];show NA);let#[n,e]:=I.base.slot L o h (I.ok.frf L hL) hL λz=>I.ok.exfs L z hL;show#[hk,#[L,_,a,i,e,hd],f (λb c=>d b (by unfold frs;rw[FS,a];show C6 c)) g]
 show all X.outer (λ_ c=>c) I.ok.funs
def Inv.stack(I:ß):s.heap.FunFrames X.base X.stack:=by
 rcases I.ok.stk with e|⟨e,b⟩
 ·rw[e];show I.funs
 ·rw[e];let#[m,a,_]:=I.loc;refine .cons (by rw[I.ok.kind];decide) b a ?_ I.funs;show Heap.get?_none_of_le (Nh I.ok.bsz I.ok.above)
def Inv.stkSub(I:ß):∀b∈zU7,b∈X.env.locals::X.fs:=λb a=>by
 rcases I.ok.stk with e|⟨e,c⟩
 ·rw[e]at a;show C6 a
 ·rw[e]at a;unfold frs at a;rw[FS,c]at a;show a
def Inv.stkFree(I:ß):∀b∈zU7,ϫ:=λb a=>by
 rcases NK.mp (I.stkSub b a)with e|a
 ·rw[e];show I.free
 ·let#[_,o,c,_]:=I.ok.funs.mem a;show I.base.free b o c (I.ok.frf b a) λz=>I.ok.exfs b z a
def Inv.step{g':Array GenState}{t':Nat}{d':Drawn}{ch:List Addr}(I:Inv X pins σ H s)
  (g:∀b∈ch,(b∈X.ex\/X.s₀.heap.objs.size<=b)/\gJ/\(∀x c,jw6->c≠b)/\∀p∈X.pn++pins,p.1≠b)
  (keep:∀b o,gJ->b∉X.fs->uh->gF->Pc->q9=sO o)
  (slot:∀b o,gJ->b∈X.fs->uh->gF->Pc->∃M,q9=sO { o with slots:=M }) (free:∀b o,uh->gF->Pc->H' b=nO)
  (there:∀b o,uh->gF->∃D,q9=sO D)
  (B:zji) (F:jjj) (C:jog)
  (ns:∀m,jwi->h'.Ns X.env.locals m) (N:HOk X.prog X.w H' h') (hg:AllBare g') :
  Inv X pins σ H' { s with heap:=h',gens:=g',drawn:=d',toks:=t' }:=by
 let E:∀b o,znd->gJ:=λb o e=>NL (Nf (NN e) I.ok.above)
 let j:∀b o,znd->b∉X.ex->uh:=λb o e a y=>by
  rcases(g b y).1 with z|z
  ·show a z
  ·show absurd (Nf (NN e) z) (Em _)
 let h:∀x c,jw6->∀v,jCh->h'.IsCell c v:=λx c e v #[o,A,hd]=>by
  let f:c∉ch:=λz=>jxc
  by_cases S:c∈X.fs
  ·let#[M,q]:=slot c o jFe S f A zoj;show#[_,q,hd]
  ·show#[o,keep c o jFe S f A zoj,hd]
 refine#[I.ok,I.os,hg,#[jCi,jCi,λb o e n a=>?_,λb o e a=>?_,λb xs e=>B b xs (I.base.tups b xs e),λb o xs e=>F b o xs (I.base.frzs b o xs e),λb ps e=>?_],?_,jl6,?_,jl6,λp Q=>?_,N,I.len]
 ·show keep b o (E b o e) y l7 (I.base.keep b o e n y a) znb
 ·let#[M,t]:=I.base.slot b o e n y a;let#[L,J]:=slot b _ (E b o e) y l7 t znb;show#[L,J]
 ·show(jwj,free b D l7 t znb)
 ·show(jwj,there b D l7 t)
 ·let#[Y,t]:=I.base.tbls b ps e;let#[U,J]:=C b _ t;show#[Y++U,by rw[J,Array.append_assoc]]
 ·let#[m,Z,hl]:=I.loc;refine#[m,ns m Z,λi x v t J e3=>?_];let#[u,r,l]:=hl i x v t J e3;refine#[u,r,?_]
  rcases l with l|⟨k,c,e,z⟩
  ·show .inl l
  ·show .inr #[k,c,e,h x c e _ z]
 ·let#[v,z]:=jLg;show#[v,h x c e v z]
 ·let#[m,#[o,_,_,A,_],_]:=I.loc;show free _ o (λz=>(g _ z).2.1 rfl) A I.free
 ·let#[v,o,A,hd]:=jLg;show free c o (λz=>jxc) A zoj
 ·let#[e,n,ne,P,d]:=I.pin p Q;let f:p.1∉ch:=λz=>(g p.1 z).2.2.2 p Q rfl;show#[keep p.1 p.2 ne P f e n,free p.1 p.2 f e n,ne,P,d]
def Inv.un{t':Nat}(I:ß)(u:Un X.fs [] H H' s.heap h')(c:zR9 H'):yO H':=by
 let#[m,#[o,v,x,h,r],_]:=jch;let#[l,hL]:=u.any h I.free Ç
 show I.step (g':=s.gens) (d':=s.drawn) (ch:=[]) (λ_ z=>A3 z) (λb o _ d _ e n=>u.keep b o e n d Ç) (λb o _ d _ e n=>u.slot b o e n d Ç) (λb o _ e n=>u.free b o e n Ç) (λb o _ e=>u.there b o e Ç) u.tups u.frzs u.tbls (λq j=>by
  show ŏ p f g a i j;rw[h]at a;show ì a #[_,f,g,hL,i]) c I.bare
def Inv.call{g':zDj}{t':Nat}{d':Drawn}{ch:Κ}(I:ß)(u:Un qYc ch H H' s.heap h')(g:zR9 H')(t:AllBare g')
  (f:∀b∈ch,jOj) :
  Inv X pins σ H' { s with heap:=h',gens:=g',drawn:=d',toks:=t' }:=by
 let#[m,#[o,C,D,j,r],_]:=jch;let#[y,hL]:=u.any j I.free λz=>qYd
 show I.step (ch:=ch) f (λb o hL v a e n=>u.keep b o e n (λz=>(NK.mp (I.stkSub b z)).elim hL v) a) (λb o _ _ a e n=>u.any e n a) (λb o a e n=>u.free b o e n a) (λb o a e=>u.there b o e a) u.tups u.frzs u.tbls (λB q=>by
  show ŏ A h i d l q;rw[j]at d;show ì d #[_,h,i,hL,l]) g t
def Inv.turned{t':Nat}{it:Addr}(I:ß)(k:∀b o,b≠it->yz)(g:H it=nO)(hL:it≠X.env.locals)
  (h1:it∈X.ex\/X.s₀.heap.objs.size<=it) (h2:∀x c,Ax->c≠it) (j:∀p∈zX3,p.1≠it):yO H:=by
 let d:∀b u,zej->b≠it:=λb u e z=>zM0 e
 refine I.step (g':=s.gens) (d':=s.drawn) (ch:=[it]) (jf b i) (λb o _ _ a e _=>zA3) (λb o _ _ a e _=>#[o.slots,zA3]) (λ_ _ _ _ n=>n)
  (λb o a e=>#[o,zA3]) (wZ e) (zW8 e) (λb w e=>#[#[],CS e]) (jf m h) jLh I.bare
 ·show HV i
  show Ao e #[h1,hL,h2,j]
 ·show(ŏ o l t f r h,#[o,l,t,k _ o (Eb hL) f,r])
 ·refine(I.hok b u e).stay (zTc a q) zU5 yI
  show AN a
  ·rw[z];show d b u e
  ·show jf7
def Inv.tok(I:ß)(t:Nat):Inv X pins σ H { s with toks:=t }:=I.un (h':=s.heap) (t':=t) Un.refl I.hok
def Inv.kept{t':Nat}(I:ß)(k:∀b u,zpf):yO H:=I.un (Un.kept k) (I.hok.kept k)
def Inv.laid{a:Addr}{o:HO}{t':Nat}(I:ß)(k:∀b u,zpf)(c:qL5)(new:zac (Ą a o) a o) :
  yO (Ą a o):=I.un (Un.laid k c (jfc I c)) (I.hok.laid k c new)
def Inv.write{x e:Addr}{o:HO}{t':Nat}(I:ß)(c:zZi)(d:zF6)(k:∀b u,b≠e->zpf)(a:zp7)
  (new:zac (Ą x o) x o):yO (Ą x o):=I.un (Un.write c d k a) (I.hok.write c d k a new)
def Inv.pins_of{a:Û}(I:ß)(h:∀p∈a,jV1):ĳ a:=
 #[I.ok,I.os,I.bare,I.base,I.loc,I.cell,I.free,I.freeC,λp b=>(NI.mp b).elim (λz=>I.pin p wM) (h p),I.hok,I.len]
def Qas{N:Â}(hN:N.Nodup){i j:Nat}{x:Str}(a:N[i]?=sO x)(b:N[j]?=sO x):i=j:=by
 show(zj4 f d a,zj4 e c b,(Iy hN).mp (Hd d c))
def UM{M:Model}{A:Around}{E:Ñ}{i:Nat}{x:Str}{v:V}{u:Value}{Q:qa}(I:ß)(hN:X.N.Nodup)(hi:ώ)(B:jV)(r:ñ v)
  (h:∀s',qmd s'->(∃a,Heap.SameBut a s.heap s'.heap/\(a=X.env.locals\/bJ x=sO a))->Q () s') (hf:jM:=by show uu):jE0:=by
 let#[m,hn,hl]:=jch;let Y:(X.env.scope.kind==.class ||(X.env.scope.kind==.module&&X.env.locals != X.env.globals))=false:=by rw[I.ok.kind];rfl
 let F:i<σ.length:=by rw[I.len];show(Nd.mp hi).1
 let cne:=I.cne
 let g:∀{a:Addr} {h':Heap},(∃o,Ń a=sO o/\H a=nO)->Bg a->zR9 H:=λ{a h'} ha f b ob e=>by
  let#[_,_,C]:=ha;refine(I.hok b ob e).stay (λc w' t q=>(f.2 c ?_).trans q) zU5 yI
  rintro rfl
  show dQ t
  ·show â C e
  ·show â C t
 rcases B with hk|hk
 ·refine wpAny_storeName_local hk hn (λh' ae f=>?_) Y;let#[oL,_,_,ab,_]:=id hn;refine h _ #[I.ok,I.os,I.bare,jTc,#[_,ae,ϰ j y v' l D e3],Õ y c e,I.free,I.freeC,zb5,g #[oL,ab,I.free] f,qIf] #[_,f,SH]
  ·show Bz f b qh7 qvj
  ·let#[sl,l]:=qCf;show#[sl,jLi]
  ·show(qyd,#[o',jLi])
  ·show Ě J j i
   ·show(qx7,ì D #[u,r,Ý #[hk,Å]])
   ·show jq8
    rcases q with⟨k,e⟩|⟨k,c,e,z⟩
    ·show Cc (HA k);let:y≠x:=λe=>J (Qas hN l (e▸hi));simp[this,e]
    ·show Ć #[k,c,e,qq2]
  ·let#[w',z]:=I.cell y c e;show#[w',qq2]
  ·show(qE7,#[(f.2 p.1 ne).trans e,n,ne,nf,d])
 ·let L:fL:=by
   rcases hf with z|z
   ·show z
   ·rw[z]at hk;cases hk
  let#[c,t]:=I.ok.has x (.inl hk);let#[w',z]:=Hv I t;refine wpAny_storeName_cell I.ok.kind hk t z (λh' aa f=>?_);let#[oc,U,S]:=id z;refine h { s with heap:=h' } #[I.ok,I.os,I.bare,jTc,#[m,hn.sameBut f (Eb (cne x c t)),ϰ j y v' l D e3],Õ y c' e,I.free,I.freeC,zb5,g #[oc,U,jef t] f,qIf] #[c,f,ê t]
  ·show Bz f b qh8 qvj
  ·let#[sl,l]:=qCf;show#[sl,jLj]
  ·show(qyd,#[o',jLj])
  ·show Ě J j i
   ·show(qx7,ì D #[u,r,ê #[.inl hk,c,t,aa]])
   ·show jq8
    rcases q with q|⟨k,c',e,z'⟩
    ·show Ý q
    ·show jJ #[k,c',e,z'.sameBut f ?_]
     rintro rfl
     show J (Qas hN l (I.ok.inj _ _ _ e t▸hi))
  ·show Ě Z c' c
   ·show Ao Z #[_,aa]
   ·let#[w2,z2]:=I.cell y c' e;show#[w2,z2.sameBut f Z]
  ·show qE7;refine#[(f.2 p.1 ?_).trans e,n,ne,nf,d];intro q;rw[q,U]at e;let q':oc=p.2:=N4 e;show d w' (S6 q' S)
def WQ{M:Model}{A:Around}{E:Ñ}{i:Nat}{x:Str}{v:V}{u:Value}{Q:qa}(I:ß)(hN:X.N.Nodup)(hi:ώ)(b:jV)(r:ñ v)
  (h:∀a,qmd a->Q () a) (c:jM:=by show uu):jE0:=
 UM I hN hi b r (λa d _=>h a d) c
def Inv.call'{a:Shared}{ch:Κ}(I:ß)(l:a.os=s.os)(u:Un qYc ch H H' s.heap a.heap)(d:HOk X.prog X.w H' a.heap)(m:dY a)
  (f:∀b∈ch,jOj):CO H' a:=by
 show ŏ h' h i g j a;let e:j=s.os:=l;subst e;show I.call (g':=h) (t':=g) (d':=i) u d m f
#print"-"
noncomputable abbrev XK:=Value->BC->Ŧ
noncomputable abbrev St:=zab V
noncomputable abbrev VK:=V->Ŧ
noncomputable abbrev TE:=St->Be
noncomputable abbrev TT:=St->qje
noncomputable abbrev TA:=St->Hp->(Ö->Ŧ)->Prop
structure Ends where
 nx:yK
 rt:VK
 bk:yK:=eI
 ct:yK:=eI
noncomputable abbrev TS:=Ends->yK
abbrev EP(X:Cx)(a:Û)(σ:St)(Q:VK)(u:Value)(c:Shared):Prop:=∃v b,ŕ a σ b c/\ñ v/\Q v b
abbrev TP(X:Cx)(a:Û)(σ:St)(Q:HZ)(b:Bool)(d:Shared):Prop:=∃c,jl3/\Q b c
abbrev AP(X:Cx)(a:Û)(σ:St)(Q:Ö->Ŧ)(us:Ë)(d:Shared):Prop:=∃b c,jl3/\Mz b/\Q b c
abbrev SP(X:Cx)(b:Û)(D:Ends)(f:Flow)(d:Shared):Prop:=
 match f with
 |.next=>∃a c,ŕ b a c d/\g9 c
 |.brk=>∃a c,ŕ b a c d/\D.bk a c
 |.cont=>∃a c,ŕ b a c d/\D.ct a c
 |.ret u=>∃v a c,ŕ b a c d/\ñ v/\D.rt v c
abbrev PE(X:Cx)(e:Expr)(t:TE):Prop:=
 ∀(a:Û) (s:Shared) (b:St) (H:Hp) (Q:VK),Ż a b->t b H Q->ġ (Br e) T7 s
abbrev PT(X:Cx)(e:Expr)(t:TT):Prop:=
 ∀(a:Û) (s:Shared) (b:St) (H:Hp) (Q:HZ),ui->t b H Q->ġ (isTrue e X.env (Br e)) zQ7 s
abbrev PW(X:Cx)(e:Expr)(t:TT):Prop:=
 ∀(whole:Sem Value) (a:Û) (s:Shared) (b:St) (H:Hp) (Q:HZ),ui->t b H Q->ġ (isTrue e X.env whole) zQ7 s
def PW.pt{X:Cx}{e:Expr}{t:TT}(h:PW X e t):u8 e t:=h _
abbrev PA(X:Cx)(es:ā)(t:TA):Prop:=
 ∀(pos:Pos) (a:Û) (s:Shared) (b:St) (H:Hp) (Q:Ö->Ŧ),Ż a b->t b H Q->ġ (spliced (backTo pos qP)) (AP X a b Q) s
abbrev PS(X:Cx)(st:Stmt)(t:TS):Prop:=
 ∀(a:Û) (s:Shared) (b:St) (H:Hp) (D:Ends),ui->t D b H->ġ (exec st X.env) xla s
abbrev PSs(X:Cx)(st:jw)(t:TS):Prop:=
 ∀(a:Û) (s:Shared) (b:St) (H:Hp) (D:Ends),ui->t D b H->ġ (execs st X.env) xla s
def thn{b:Type}{t:Sem b}{Q Q':b->Ϸ}{M:Model}{A:Around}{E:Ñ}{s:Shared}(h:Ϩ M t Q s)(c:∀a s,Q a s->Q' a s):Ϩ M t Q' s:=Ej h c (jv x)
section
variable{X:Cx}
def bin{a b:Expr}{l tb:TE}(t:Ĺ a l)(r:vU){c:Û}{s:Shared}{σ:St}{H:Hp}{R:V->V->Ŧ}(I:Ż c σ)(h:l σ H qq3)
  {j:Type} {Q:j->Ϸ} {f:Value->Value->Sem j}
  (q:∀v u g x y H2,ŕ c σ H2 g->Ab->ñ y->R x y H2->ġ (f v u) Q g) :
  ġ (Br a) (PJ v e (Br b) (zAj u d (f v u) Q)) s:=by
 refine thn (uJ t c σ) (Õ v m i);show ŏ x H1 I1 o p i;refine thn (r c m σ H1 _ I1 p) (Õ u g i);show(ŏ y H2 I2 n q2 i,q v u g x y H2 I2 o n q2)
abbrev QwJ(i:Nat):TE:=λa H Q=>∃v,a[i]?=sO θ/\Q v H
abbrev tC(v:V):TE:=λ_ H Q=>Q v H
def QoP{i:Nat}{x:Str}{pos:Pos}(hN:ώ)(j:f9)(hd:ω:=by decide)(d:qcc:=by decide):Ĺ fe (QwJ i):=by
 show(đ b g Q,xsh e n p);let#[u,r,l]:=p i x v hN e j;let fin:MJ b g u:=#[v,H,I,r,h]
 rcases l with⟨hk,o⟩|⟨hk,c,f,a⟩
 ·show wpAny_Name (YaS I.ok.kind hk n o fin) hd
 ·rcases hk with hk|hk
  ·show wpAny_Name (wpAny_loadName_cell I.ok.kind hk f a fin) hd
  ·show wpAny_Name (wpAny_loadName_free I.ok.kind hk f a fin d) hd
def Qqz{i j pos}:Ĺ jBe (tC Ō):=λ_ _ _ H _ I h=>wpAny_Constant_int #[Á i,H,ų,þ,h]
def QsI{b j pos}:Ĺ jBf (tC yf):=λ_ _ _ H _ I h=>Constant_bool #[.bl b,H,I,rfl,h]
def QpJ{j pos}:Ĺ qye (tC .non):=λ_ _ _ H _ I h=>Constant_none #[.non,H,I,rfl,h]
def Qpb{x j pos}:Ĺ (Re Μ) (tC Μ):=λ_ _ _ H _ I h=>Calls.Constant_str #[Ù x,H,ų,þ,h]
abbrev Gl(X:Cx)(x:Str):Prop:=zDi=kR
def Qah{E:Ñ}{a:Û}{s:Shared}{σ:St}{H:Hp}{x:Str}{u:Value}{pos:Pos}{Q:Ñ}(I:ĳ a)(c:Ϭ)(b:zhj=sO u)(h:Q u s)
  (hd:ω:=by decide):jze:=
 Oz I.ok.kind c (Calls.loadGlobal_global qg3 b h) hd
def Xc{E:Ñ}{a:Û}{s:Shared}{σ:St}{H:Hp}{x:Str}{u:Value}{pos:Pos}{Q:Ñ}(I:ĳ a)(e:Ϭ)(d:vV)(b:kf=sO u)(h:Q u s)
  (c:Se:=by decide) (hd:ω:=by decide):jze:=by
 let#[i,g,f]:=I.mod.blt;show Oz I.ok.kind e (Calls.loadGlobal_builtin qg3 d (by rw[I.ok.blt];show g.keeps I.bk) ((f x c).trans b) h) hd
variable{a b:Expr}{ta tb:TE}{pos:Pos}
variable{tA tB':TT}{rest:ā}
abbrev QtV(t u:TT):TT:=λd H Q=>t d H λc H1=>if BX then u d H1 Q else Q false H1
abbrev tOr(t u:TT):TT:=λd H Q=>t d H λc H1=>if BX then Q true H1 else u d H1 Q
abbrev QwO(t:TT):TT:=λd H Q=>t d H λc H1=>Q (!c) H1
def QlN(g:wF):PW X jM0 tA:=by
 intro i d s f H Q I h;refine isTrue_and (ņ (g d s f H Q I h) c j e);cases c with
 |true=>show isTrue_and_nil e
 |false=>show e
def Qo2(g:wF):PW X jM1 tA:=by
 intro i d s f H Q I h;refine isTrue_or (ņ (g d s f H Q I h) c j e);cases c with
 |false=>show isTrue_or_nil e
 |true=>show e
def QoZ(l:wF)(j:PW X (f5 zc7) tB'):PW X (f5 tX) (QtV tA tB'):=by
 intro g d s e H Q I h;refine isTrue_and jsb;cases c with
 |true=>show j g d i e H1 Q I1 f
 |false=>show zRi
def QsK(l:wF)(j:PW X (ff zc7) tB'):PW X (ff tX) (tOr tA tB'):=by
 intro g d s e H Q I h;refine isTrue_or jsb;cases c with
 |true=>show zRi
 |false=>show j g d i e H1 Q I1 f
def Qn9(f:wF):u8 qCg (QwO tA):=by
 show lM;show isTrue_not (f d s e H (λc H1=>Q (!c) H1) I h)
abbrev tIf(t:TT)(ta tb:TE):TE:=λd H Q=>t d H λc H1=>if BX then ta d H1 Q else tb d H1 Q
def Qg6{c:Expr}(j:PT X c tA)(m:Tn)(l:vU):Ĺ qIg (tIf tA ta tb):=by
 show đ e f Q;refine wpAny_IfExp (ņ (uJ j e f) d g #[H1,I1,i]);cases d with
 |true=>show m e g f H1 Q I1 i
 |false=>show l e g f H1 Q I1 i
#print"-"
abbrev SqL(K:Nj)(H:Hp)(a:Addr)(xs:Ö):Prop:=
 MV qC \/
  ∃(o:Obj) (b:Ķ) (n:Nat),Ac a=sO o/\o.cls=Ę/\o.dict=nO/\qf0
abbrev SqT(K:Nj)(H:Hp)(a:Addr)(xs:Ö):Prop:=
 MV dt \/
  ∃(o:Obj) (b:Ķ) (n:Nat),Ac a=sO o/\cO/\qf0
abbrev Qw1:Value->Ū V
 |.none=>xO
 |zga=>sO yf
 |.int i _=>ğ i
 |.str x _=>sO Μ
 |.bytes b _=>sO (.byt b)
 |.float b _=>sO (.flt b)
 |Ä a=>sO Ġ
 |.type n=>sO zW9
 |_=>nO
def RelV.abs{x:V}{u:Value}(r:ñ x):Qw1 u=sO x:=by
 cases x with
 |non=>cases r;rfl
 |bl _=>cases r;rfl
 |int _=>show gu
 |str _=>show gu
 |byt _=>show gu
 |flt _=>show gu
 |ref _=>cases r;rfl
 |ty _=>cases r;rfl
def RelV.inj{x y:V}{u:Value}(r:ñ x)(q:ñ y):x=y:=N4 (r.abs.symm.trans q.abs)
def Vals.inj{xs c:Ö}{us:Ë}(a:Ι)(b:Mz c):xs=c:=by
 induction a generalizing c with cases b
 |nil=>rfl
 |cons r t f=>rename_i e d;rw[r.inj e,f d]
section
variable{X:Cx}{pins:Û}{σ:St}{H:Hp}{s:Shared}{a:Addr}{xs ys:Ö}
def SqL.of{K:Nj}(h:qx6):zb3 H:=Ý lS
def SqT.of{K:Nj}(h:H a=sO dt):xI H:=Ý lS
def Inv.list(I:ß)(h:rQ):∃its:Ë,Sr/\PlainL s.heap a its.toArray/\Bn:=by
 rcases h with h|⟨o,its,n,hk,d,hd,c,b,r⟩
 ·let#[z,its,n,r,e]:=h.ok I.hok;show#[its,r,#[_,n,e,rfl,rfl,rfl],z]
 ·refine#[its.toList,r,#[o,n,xlb,d,hd,é c],?_];show(Ž e r,qw0)
def Inv.tuple(I:ß)(h:rS):∃its:Ë,Sr/\IsTup s.heap a its.toArray/\Bn:=by
 rcases h with h|⟨o,its,n,hk,d,c,b,r⟩
 ·let#[z,its,r,p]:=h.ok I.hok;show#[its,r,p,z]
 ·refine#[its.toList,r,#[o,xlb,d,n,é c],?_];show(Ž e r,qw0)
def Inv.list_inj(I:ß)(h:rQ)(h':SqL X.K H a ys):xs=ys:=by
 let#[c,r,#[o,n,e,_,_,d],_]:=ϒ h;let#[b,i,#[l,m,f,_,_,g],_]:=ϒ h';show jBg
def Inv.tuple_inj(I:ß)(h:rS)(h':SqT X.K H a ys):xs=ys:=by
 let#[c,r,#[o,e,_,n,d],_]:=Bp h;let#[b,i,#[l,f,_,m,g],_]:=Bp h';show jBg
#print"-"
noncomputable abbrev Cx.wish(X:Cx)(E:Ñ):Cx:={ X with xe:=E }
noncomputable abbrev Cx.nox(X:Cx):Cx:=X.wish eI
def Cx.Ok.wish{X:Cx}(ok:X.Ok)(E:Ñ):xg5:=
 jR5
def Cx.Ok.unwish{X:Cx}{E:Ñ}(ok:xg5):X.Ok:=
 jR5
section
variable{X:Cx}{pins:Û}{σ:St}{H:Hp}{s:Shared}{E:Ñ}
def Inv.wish(I:ß)(E:Ñ):qo3:=#[I.ok.wish E,I.os,I.bare,I.base,I.loc,I.cell,I.free,I.freeC,I.pin,I.hok,I.len]
def Inv.unwish(I:qo3):ß:=#[I.ok.unwish,I.os,I.bare,I.base,I.loc,I.cell,I.free,I.freeC,I.pin,I.hok,I.len]
def SP.unwish{D:Ends}{f:Flow}{c:Shared}(h:SP qIh pins D f c):SP X pins D f c:=by
 cases f with
 |next=>show zyh
 |brk=>show zyh
 |cont=>show zyh
 |ret u=>let#[v,a,b,I,r,q]:=h;show#[v,a,b,I.unwish,r,q]
def PSs.nox{st:jw}{t:TS}(h:PSs X.nox st t):zij t:=λpins s σ H D I hw=>
 Ej (h pins s σ H D (I.wish _) hw) (λ_ _ q=>q.unwish) λ_ _ z=>CZ z
#print"-"
section
variable{X:Cx}{st:Stmt}{rest:jw}{t u:TS}{e:Expr}{te:TE}{pos:Pos}
abbrev Qr9:TS:=λD a H=>g9 H
abbrev Qud(t u:TS):TS:=λD a H=>t { D with nx:=u D } a H
def Qkk:PSs X [] Qr9:=λ_ _ a H _ I h=>LQ #[a,H,I,h]
def Qf3(h1:ja0)(h2:PSs X rest u):PSs X xlc (Qud t u):=by
 show đ a c D;refine wpAny_execs_cons (ņ (h1 a s c H { D with nx:=u D } I h) f d q);cases f with
 |next=>
  let#[b,i,g,q]:=q;show h2 a d b i D g q
 |ret v=>show q
 |brk=>show q
 |cont=>show q
def Qki(h1:ja0):PSs X [st] t:=by
 show đ a b D;refine wpAny_execs_cons (ņ (h1 a s b H D I h) f c q);cases f with
 |next=>show LQ q
 |ret v=>show q
 |brk=>show q
 |cont=>show q
def Inv.quiet{a:Û}{σ:St}{H:Hp}{s:Shared}(I:ĳ a):interactive X.env=false:=by simp[interactive,I.ok.kind]
abbrev QsF(te:TE):TS:=λD a H=>te a H λ_ H1=>g9 H1
def QlF(g:To)(f:swapsWith e nO pos.line X.env=CW:=by rfl):PS X qYg (QsF te):=by
 show đ a b D;refine wpAny_Expr_any jja I.quiet f;show(ς x j d c,#[b,H1,I1,d])
abbrev Qv5(te:TE):TS:=λD a H=>te a H D.rt
def Qoc(g:To):PS X qw1 (Qv5 te):=by
 show đ a b D;refine wpAny_Return_some jja;show(jl7,#[x,b,H1,I1,d,f])
abbrev QwS(c:TT)(t u:TS):TS:=λD a H=>c a H λb H1=>if Md then t D a H1 else u D a H1
def Qtw{c:Expr}{a b:jw}{i:TT}(m:u8 c i)(o:PSs X a t)(n:PSs X b u):PS X (.If c a b pos) (QwS i t u):=by
 show đ f g D;refine wpAny_If (ņ (uJ m f g) d j #[H1,I1,l]);cases d with
 |true=>show o f j g H1 D I1 l
 |false=>show n f j g H1 D I1 l
#print"-"
noncomputable abbrev TG:=V->qjd
noncomputable abbrev TGs:=Ö->qjd
abbrev PG(X:Cx)(target:Expr)(t:TG):Prop:=
 ∀(a:Û) (s:Shared) (c:St) (H:Hp) (v:V) (u:Value) (Q:St->Ŧ),Ż a c->ñ v->t v c H Q ->
  ġ (assign target X.env u) (λ_ e=>∃b d,ŕ a b d e/\Q b d) s
abbrev PGs(X:Cx)(g:ā)(t:TGs):Prop:=
 ∀(a:Û) (s:Shared) (c:St) (H:Hp) (d:Ö) (e:Ë) (Q:yK),Ż a c->Vals d e->t d c H Q ->
  wpAny qq X.A (assignInOrder ((assignEach g X.env).map (·.2)) e) (λ_ h=>∃b f,ŕ a b f h/\Q b f) X.xe s
noncomputable abbrev QsP:=qlh
abbrev QuV(X:Cx)(t:QsP):Prop:=
 ∀(a:Û) (s:Shared) (b:St) (H:Hp) (o i v:V) (c d u:Value) (Q:Ŧ),Ż a b->š o c->š i d->ñ v->t o i v H Q ->
  ġ (setItem c d u) (λ_ f=>∃e,ŕ a b e f/\Q e) s
noncomputable abbrev TIp:=V->V->Be
abbrev PIp(X:Cx)(op:Operator)(t:TIp):Prop:=
 ∀(a:Û) (s:Shared) (b:St) (H:Hp) (x y:V) (v u:Value) (Q:VK),Ż a b->Ab->ñ y->t x y H Q ->
  ġ (inplaceOp op v u) T7 s
section
variable{X:Cx}{pos:Pos}
abbrev Qc9(i:Nat):TG:=λv a H Q=>Q (a.set i θ) H
def QfO{i:Nat}{x:Str}(hN:X.N.Nodup)(hi:ώ)(b:jV)(c:jM:=by show uu):PG X fe zfh:=by
 intro a s e H v u Q I r h;show wpAny_assign_Name (WQ I hN hi b r (λf d=>#[_,H,d,h]) c)
abbrev Quz:TGs:=λb a H Q=>b=[]/\Q a H
abbrev Qpk(t:TG)(u:TGs):TGs:=λc b H Q=>∃v r,c=v::r/\t v b H λa d=>u r a d Q
def Ql9:PGs X [] Quz:=by
 intro a s b H c d Q I r h;let#[e,h]:=h;show(AW e r,assignInOrder_nil #[b,H,I,h])
def Qin{e:Expr}{es:ā}{t:TG}{u:TGs}(h1:PG X e t)(h2:PGs X es u)
  (j:(assignEach uw X.env).map (·.2)=assign e X.env::(assignEach es X.env).map (·.2):=by rfl):PGs X uw (Qpk t u):=by
 intro a s c H m o Q I r h;let#[v,n,l,h]:=h;subst l;cases r with
 |cons r g=>
  rw[j];refine assignInOrder_cons (thn (h1 a s c H _ _ _ I r h) λ_ f d=>?_);show(ϖ b H1 I1 i d,h2 a f b H1 _ _ Q I1 g i)
abbrev Qwu(K:Nj)(n:Nat)(t:TGs):TG:=λv c H Q=>∃a b,ψ/\iH/\nN/\t b c H Q
def QpV{es:ā}{k:Nat}{t:TGs}{n:Nat}(w:ĥ)(h:PGs X es t)
  (p:qdh=n:=by rfl) (d:(assignEach es X.env).findIdx? (·.1)=nO:=by rfl):PG X (zad k) (Qwu X.K n t):=by
 intro c s f H v u Q I r hw;let#[a,g,y,m,q,hw]:=hw;show AW y r;let#[i,rv,l,A]:=Bp m;refine assign_Tuple_tuple (ye w) l (by simp[p,<-q,rv.length]) d (Ô x j);let I1:i3 c f x:=I.kept (t':=s.toks) λb o e=>An j fT;show h c _ f H g _ Q I1 (by simpa using rv) hw
abbrev Qu6(b c:TE)(t:QsP):TG:=λv a H Q=>b a H λo H1=>c a H1 λi H2=>t o i v H2 λd=>Q a d
def Qnn{o i:Expr}{f g:TE}{t:QsP}(w:Ĺ o f)(hi:Ĺ i g)(q:QuV X t)
  (z:∀v,assign zs0 X.env v=(do
   let b <-jBh
   let c <-jl8 b
   standAt pos
   qUc b c
   release [v,b,c] []):=by intro _;rfl):PG X zs0 (Qu6 f g t):=by
 intro a s d H v u Q I r h;rw[z];show(HQ (N7 (ji w a d b l e)),ς x n p e,Æ (N7 (ņ (hi a l d H1 _ I1 p) c j e)),Pi y m e);show ı (Ya7 (Na (N7 (thn (q a j d H2 x y v b c u _ I2 n m r q2) λ_ B #[A,I3,q3]=>?_))));show wpAny_release #[d,A,I3,q3]
abbrev QqY(te:TE)(g:TG):TS:=λD a H=>te a H λx H1=>g x a H1 D.nx
def Qi5{b e:Expr}{te:TE}{g:TG}(n:To)(m:PG X b g)(l:qn6=CW:=by rfl)(hw:jM3:=by rfl)
  (h1:(assignEach [b] X.env).map (·.2)=qUd:=by rfl):PS X jM4 (QqY te g):=by
 show đ a c D;refine wpAny_Assign_stores (ji n a c v f d) l hw;show gq d;rw[h1];show thn (m a f c H1 x v _ I1 i j) λ_ o q=>q
def QjA{i:Nat}{x:Str}{e:Expr}{te:TE}{a:Pos}(hN:X.N.Nodup)(hi:ώ)(j:jV)(n:To)(l:swapsWith e (sO (.Name x a)) pos.line X.env=CW:=by rfl)(m:jM:=by show uu) :
  PS X (tq [TN a]) (QqY te zfh):=by
 show đ b c D;refine wpAny_Assign_Name (ji n b c v p d) l;show ς y f g d;show WQ I1 hN hi j f (λo I2=>#[_,H1,I2,g]) m
abbrev Qw0(i:Nat)(te:TE)(b:TIp):TS:=λD a H=>∃x,a[i]?=sO zh3/\te a H λy H1=>b x y H1 λz H2=>D.nx (a.set i (sO z)) H2
def QqS{i:Nat}{x:Str}{e:Expr}{te:TE}{op:Operator}{q:TIp}{g:Pos}(hN:X.N.Nodup)(hi:ώ)(o:jV)(Q:To)(F:PIp X op q)(P:jM:=by show uu) :
  PS X (qE8 g) (Qw0 i te q):=by
 show(đ a p D,xsh U J M);let n:f9:=by rcases o with k|k;show(Ý k,ê (Ş k))
 let#[u,r,l]:=M i x v hi U n;refine wpAny_AugAssign_Name ?_
 let go:ġ (Br e) (PJ w f (inplaceOp op u w) (zAj r d (qyc r) (λ_=>SP X a D .next))) s:=by
  refine thn (uJ Q a p) (Õ w t j);show ŏ y H1 I1 C E j;refine thn (F a t p H1 v y u w _ I1 r C E) (Õ z s2 j);show ŏ Y H2 I2 B q2 j;show WQ I2 hN hi o B (λZ I3=>#[_,H2,I3,q2]) P
 rcases l with⟨hk,L⟩|⟨hk,c,S,b⟩
 ·show YaS I.ok.kind hk J L go
 ·rcases hk with hk|hk
  ·show wpAny_loadName_cell I.ok.kind hk S b go
  ·rcases o with k|k
   ·let:pU=A9:=hk;show Bq k
   ·let:pU=A9:=hk;show Bq k
#print"-"
section
variable{X:Cx}{pos:Pos}
abbrev QiT(c:TT)(tb:TS):TS:=λD a H=>∃W:Nat->yK,(∃m,W m a H)/\∀m a H,W m a H ->
 c a H λb H1=>if Md then∃N:yK,(∀d f,N d f->∃e,e<m/\W e d f)/\qGa a H1 else g9 H1
def Qh9{c:Expr}{body:jw}{q:TT}{tb:TS}(r:pG)(F:u8 c q)(J:xg6):PS X qAh (QiT q tb):=by
 show đ d u D;let#[W,#[E,y],i]:=h;refine wpAny_While (codeAny_whileLoop (λn C=>∃g t,ŕ d g t C/\W n g t) ?_ E #[u,H,I,y])
 rintro n B ⟨e,H1,I1,x⟩
 refine Fo r (ņ (F d B e H1 _ I1 (i n e H1 x)) b z #[H2,I2,q2]);cases b with
 | true=>
  let#[N,hN,q2]:=q2;rw[į];refine Fo r (ņ (J d z e H2 _ I2 q2) f L q3);cases f with
  |next=>
   show jFg
  |cont=>
   show jFg
  |brk=>show q3
  |ret v=>show q3
 |false=>
  rw[Ó N9];show LQ #[e,H2,I2,q2]
#print"-"
structure It where
 go:Nat->Ŧ
 yld:Nat->Hp->V->Ŧ
 stop:Nat->Ŧ
abbrev QcD(X:Cx)(a:Û)(H:Hp)(b:Addr):Prop:=
 ϫ/\zMb/\jcg/\jY3/\(∀x c,Ax->c≠b)/\∀p∈X.pn++a,p.1≠b
def Inv.fpOk{X:Cx}{a:Û}{σ:St}{H f:Hp}{s:Shared}{b:Addr}(I:ĳ a)(d:s.heap.objs.size<=b)(h:f b=nO):Hz a f:=by
 refine#[h,EK (Nf I.lt d),I.nofs d,ê (Nh I.sz d),Ł x c e z,Õ p g z]
 ·let#[v,q]:=Hv I e;show ý (Nf q.lt zs1) vP
 ·show ý (Nf (NN (I.pin p g).1) zs1) vP
structure Turn(P:Program)(w:World)(K:Nj)(tg:Expr)(J:It)(fp:Κ)(it:Addr)(tn:Nat->iX):Prop where
 mem:it∈fp
 obj:∀i h,tn i h->∀b∈fp,∃o,HX/\qGb
 keep:∀i h h',tn i h->(∀b∈fp,∀o,qt b o)->tn i h'
 item:∀(X:Cx),X.prog=P->X.w=w->X.K=K->ĥ->∀(i:Nat) (pins:Û) (s:Shared) (σ:St) (H:Hp) (E:Ñ),ß->jE1->M0 s->zf1 ->
  wpAny vt X.A nJ (λr s1=>∃u,r=sO u /\
   wpAny vt X.A qj2 (λ_ s2=>∃x H',CO H' s2/\ñ x/\zf2 H'/\tn (i+1) s2.heap/\∀b∈fp,H' b=nO) E s1) E s
 done:∀(X:Cx),X.prog=P->X.w=w->X.K=K->ĥ->∀(i:Nat) (pins:Û) (s:Shared) (σ:St) (H:Hp) (E:Ñ),ß->jE1->M0 s->zb6 ->
  wpAny vt X.A nJ (λr s1=>r=nO/\CO H s1) E s
 self:∀(A:Around) (i:Nat) (s:Shared) (Q:Ñ) (E:Ñ),M0 s->Q PH s->Ϩ vt (TX PH) Q s
noncomputable abbrev TI:=St->qtg
abbrev PIE(X:Cx)(a:Û)(σ:St)(i:Expr)(R:It->Ŧ)(c:Value)(f:Shared):Prop:=
 ∃(g:Addr) (h:Κ) (e:Nat->iX) (J:It) (d:Hp),c=Ä g/\ŕ a σ d f/\Turn X.prog X.w X.K i J h g e/\e 0 f.heap/\(∀b∈h,Hz a d)/\R J d
abbrev PI(X:Cx)(d iter:Expr)(c:TI):Prop:=
 ∀(a:Û) (s:Shared) (b:St) (H:Hp) (R:It->Ŧ),ui->c b H R ->
  ġ zK6 (PJ v e (TX v) (PIE X a b d R)) s
def Gk {M:Model} {A:Around} {E:Ñ} {s:Shared} {b:Expr} {it:Addr} {u:Value} {o:Obj} {n:String} {vs:Ķ} {Q:qa} (c:s.heap.get? it=sO o) (e:o.cls=.type n) (hd:o.data=.fields vs)
    (d:jR6=false) (a:Q () s):Ϩ M (letOwnedTupleGo b PH u) Q s:=by
  unfold letOwnedTupleGo
  cases b<;>first
    |show Nl a
    |(cases u<;>first
        |show Nl a
        | (show Æ (YaT c ?_)
           rw[e,hd];apply Ϩ M (BF (jR6&&vs[0]?==sO (rawInt _))) Q s;rw[if_neg (by intro h;rw[d,Bool.false_and]at h;cases h)]
           show Nl a))
abbrev Itl(K:Nj)(a:Addr):It:=
 #[λi H=>∃b x,Tg b/\bX,λi H x c=>c=H/\jJ6,λi H=>∃b,Tg b/\xt1]
abbrev Itt(K:Nj)(a:Addr):It:=
 #[λi H=>∃b x,iH/\bX,λi H x c=>c=H/\jl9,λi H=>∃b,iH/\xt1]
abbrev Itr(lo:Int)(n:Nat):It:=#[λi _=>i<n,λi H x a=>a=H/\x=Á (lo+i),zU9]
def Qer{P:Program}{w:World}{K:Nj}{N:Expr}(a it:Addr):Turn P w K N xt2 [it] it (λi h=>h.IsListIter it a i) where
 mem:=Å
 obj:=λi h st b g=>by
  show HV g
  show jU0
 keep:=jy5 q
 item:=by
  intro X y hw A L i f s J H E I n st t;subst y hw A;show(ϖ M x m l t,jJ7,zYj U l,HH n);refine wpAny_pyNext_list_item st p.isList (x:=u) zI3 (Õ q j S);let I1:i3 f J q:=I.turned (t':=s.toks) (HW o g e S) F f1 D C B;show(fF j,#[u,rfl,sX q #[x,H,I1,U,qx9 Z m l,j,Sv g n]])
 done:=by
  intro X y hw A L i f s J H E I n st t;subst y hw A;show(Ů M m l t,jJ7,HH n,RR);show wpAny_pyNext_list_end ow st p.isList (qq4 l) λq eb=>#[rfl,I.turned (t':=s.toks) (bu g) F f1 D C B]
 self:=λ_ _ _ _ _ st h=>wpAny_pyIter_listiter st h
def Qcg{P:Program}{w:World}{K:Nj}{N:Expr}(a it:Addr):Turn P w K N xt3 [it] it (λi h=>zOb a) where
 mem:=Å
 obj:=λi h st b j=>by
  show HV j
  show jU0
 keep:=jy5 r
 item:=by
  intro X y hw A L i f s J H E I q st t;subst y hw A;show(ϖ M x n m t,jJ5,zYj U m,HH q);refine wpAny_pyNext_tuple_item st jH9 (x:=u) zI3 (Õ r l S);let I1:i3 f J r:=I.turned (t':=s.toks) (HW o j e S) F f1 D C B;show fF l;show#[u,rfl,sX r #[x,H,I1,U,#[rfl,λys Z=>by rw[I.tuple_inj Z n];show m],l,Sv j q]]
 done:=by
  intro X y hw A L i f s J H E I q st t;subst y hw A;show(Ů M n m t,jJ5,HH q,RR);show wpAny_pyNext_tuple_end ow st jH9 (qq4 m) λr eb=>#[rfl,I.turned (t':=s.toks) (bu j) F f1 D C B]
 self:=λ_ _ _ _ _ st h=>wpAny_pyIter_tupleiter st h
def QbN{P:Program}{w:World}{K:Nj}{C:Expr}(it:Addr)(lo:Int)(n:Nat):Turn P w K C xld [it] it (λi h=>IsRangeIter h it (lo+Ho*1) (ũ-Ho) 1) where
 mem:=Å
 obj:=λi h st b c=>by
  show HV c
  subst e
  show#[_,st,λv z=>by
   show qw2 B]
 keep:=qqj g
 item:=by
  intro X m hw p l i a s y H E I f st j;show jjd;let W:=Walks.range (prog:=X.prog) (w:=X.w) (ye l) it lo 1 n;refine W.item i s _ _ j st λv g tk F d D=>?_;show á F;let I1:qAi y g:=I.turned (λb o c e=>An D p8) x f1 u r q;refine#[_,rfl,qhi g d #[Á (lo+i),H,I1,HA t,ś,d,Sv c f]];rw[Int.mul_one]
 done:=by
  intro X m hw p l i a s y H E I f st j;show jjd;show Yao (ye l) st (by let:n<=i:=j;lia) (ŗ g J #[rfl,I.turned (t':=s.toks) (eF c J) x f1 u r q])
 self:=qxa
section
variable{X:Cx}{tg:Expr}
def Qal{a:Û}{σ:St}{H:Hp}{s:Shared}{R:It->Ŧ}{E:Ñ}{lo hi:Int}{t u v:Tok}{tk:Nat}(I:ĳ a)(h1:-qr0<=lo)(h2:lo<2^62)(f:-qr0<=hi)(d:hi<2^62)
  (q:R (Itr lo zK0) H):wpAny qq X.A (TX ϴ) (PIE X a σ tg R) E { s with heap:=jt5,toks:=tk }:=by
 refine qxb (small_one h1 h2 f d);let I1:Inv X a σ H { s with heap:=jt5,toks:=tk }:=I.kept kP
 refine#[zn0,[zn0],_,_,H,rfl,
  jAf,QbN _ lo zK0,?_,Ô b c,q]
 ·let h:lo+CK*1=lo:=Å
  let g:jHb-CK=Builtin.Range.rangeSize lo hi 1:=by rw[rangeSize_one];split<;>lia
  apply IsRangeIter _ _ (lo+CK*1) (jHb-CK) 1;rw[h,g];show ŭ
 ·let e:b=zn0:=é c
  show oN
abbrev Qrx(c:TA):TI:=λa H R=>c a H λb H1=>∃j:Int,b=[Á j]/\qYh/\j<2^62/\R (Itr 0 j.toNat) H1
abbrev Qsi(c:TA):TI:=λa H R=>c a H λb H1=>∃i j:Int,b=q8/\(qYi/\jla)/\R (Itr i zUa) H1
def QfG{a:Expr}{d:TA}{p pos:Pos}(o:iQ)(n:iG)(u:zhd d)(m:ur:=by rfl):PI X tg jM5 (Qrx d):=by
 show đ b f R;refine Call_ (Xc I o n boot_range (Ey (ņ (vh u b f) w x g) m rfl));show ς v l c g;let#[j,e,c,q2,q]:=c;subst e;cases l with
 |cons r i=>
  cases i;show(á r,call_range_1 (Qal I1 Ð Ð c q2 (Ģ q)))
def QdV{a b:Expr}{l:TA}{p pos:Pos}(x:iQ)(w:iG)(y:PA X [a,b] l)(v:jSh:=by rfl)(d:jzf:=by rfl) :
  PI X tg jM6 (Qsi l):=by
 show đ c m R;refine Call_ (Xc I x w boot_range (Ey (ņ (vh y c m) A C n) (by rw[v,d]) (jhf d)));show ς z o g n;let#[i,j,e,#[g,q2,q3,q4],q]:=g;subst e;cases o with
 | cons r f=>
  cases f with
  |cons u f=>
   cases f;show(jL t r B u,call_range_2 (Qal I1 g q2 q3 q4 q))
abbrev QuZ(f:TI)(g:TG)(tb:TS):TS:=λD a H=>f a H λJ H1=>∃W:Nat->Nat->yK,(∃m,W 0 m a H1)/\∀i m a H,W i m a H ->
 (zb6/\g9 H)\/(zf1/\∃N:yK,(∀b c,N b c->∃e,e<m/\W (i+1) e b c)/\∀x c,zf2 c->g x a c λd H2=>qGa d H2)
abbrev UQ(a:Κ)(h:Heap):Û:=a.filterMap λb=>(h.get? b).map λo=>(b,o)
def V2{a:Κ}{h:Heap}{b:Addr}{o:Obj}(c:b∈a)(e:HX):(b,o)∈UQ a h:=FZ.mpr #[b,c,Tp e]
def Qd5{a:Κ}{h:Heap}{p:Addr×Obj}(c:p∈UQ a h):p.1∈a/\h.get? p.1=u5:=by
 let#[b,d,e]:=FZ.mp c;cases q:ő b with
 |none=>show â q e
 |some o=>
  rw[q]at e;let f:(b,o)=p:=N4 e;show Ao f #[d,q]
def Inv.pinned{a:Û}{σ:St}{H:Hp}{s:Shared}{c:Κ}(I:ĳ a)(j:∀b∈c,Hz a H)(i:∀b∈c,∃o,ϙ/\qGb):ĳ (a++UQ c s.heap):=
 I.pins_of λp h=>(NI.mp h).elim (λz=>I.pin p ja2) λz=>by
  let#[f,e]:=Qd5 z;let#[l,f1,f2,_]:=j p.1 f;let#[o,g,d]:=i p.1 f;rw[e]at g;show ì g #[e,l,f1,f2,d]
def Inv.unpinned{a pl:Û}{σ:St}{H:Hp}{s:Shared}(I:ĳ (a++pl)):ĳ a:=I.pins_of λp b=>I.pin p (NY _ (NU _ b))
def Qpj{iter:Expr}{body:jw}{wi:TI}{g:TG}{tb:TS}{pos:Pos}(L:pG)(hc:ĥ)(hi:re)(hg:PG X tg g)(q:xg6)
  (hs:Bb:=by intro _;rfl):PS X qub (QuZ wi g tb):=by
 show đ c σ D;refine wpAny_For (thn (hi c s σ H _ I h) λv s1 h1=>thn h1 λae s2 h2=>?_) hs;let#[it,P,tn,J,H2,e,I2,T,Y,f2,W,#[m0,w0],C]:=h2;subst e;let p:∀{y:Hp},zK7->∀b∈P,Hz c y:=qAj q
 refine codeAny_forLoop_any (λn s'=>∃i l y,ŕ c l y s'/\M0 s'/\zK7/\W i n l y) ?_ m0 #[0,σ,H2,I2,Y,Sv q f2,w0]
 rintro n s3 ⟨i,j,Q,I3,E,M,w3⟩
 rcases C i n j Q w3 with⟨stop,qn⟩|⟨go,N,hN,step⟩
 ·refine Fo L (ņ (T.done X rfl rfl rfl hc i c s3 j Q X.xe I3 (p M) E stop) r s4 xt4);subst hr;show LQ #[j,Q,I4,qn]
 ·refine Fo L (ņ (T.item X rfl rfl rfl hc i c s3 j Q X.xe I3 (p M) E go) r s4 xg7);subst hr;refine Fo L (thn h4 λ_ s5 U=>?_);let#[x,H5,I5,r5,y5,B,aa]:=U;let ab:=I5.pinned (p aa) (T.obj _ _ B);refine Fo L (thn (hg _ s5 j H5 x u _ ab r5 qUe) λ_ s6 U=>?_);show ϖ S H6 I6 q6 U;refine Fo L (ņ (q _ s6 S H6 _ I6 q6) f Z z)
  let again:∀{a:St} {t:Hp},ŕ (c++UQ P s5.heap) a t Z->N a t->∃m,m<n/\∃i l y,ŕ c l y Z/\M0 Z/\zK7/\W i m l y:=λ{a t} I7 F=>by
   let#[m',hm,w7]:=hN a t F;refine#[m',hm,i+1,a,t,I7.unpinned,T.keep _ _ _ B λb q o e=>(I7.pin (b,o) (bK q)).1,Ô b q,w7];let#[o,e,d]:=T.obj _ _ B b q;show(I7.pin (b,o) (bK q)).2.1
  cases f with
  |next=>show jy6
  |cont=>show jy6
  |brk=>let#[a,t,I7,z]:=z;show#[a,t,I7.unpinned,z]
  |ret v=>let#[x7,a,t,I7,r7,z]:=z;show#[x7,a,t,I7.unpinned,r7,z]
#print"-"
noncomputable abbrev R2:=V->V->Be
abbrev OpR(X:Cx)(f:PU)(r:R2):Prop:=
 ∀(a:Û) (s:Shared) (b:St) (H:Hp) (x y:V) (v u:Value) (Q:VK),Ż a b->Ab->ñ y->zec ->
  ġ (f v u) T7 s
abbrev UnR(X:Cx)(f:zMc)(r:V->Be):Prop:=
 ∀(a:Û) (s:Shared) (b:St) (H:Hp) (x:V) (v:Value) (Q:VK),Ż a b->Ab->r x H Q ->
  ġ (f v) T7 s
abbrev CallR(X:Cx)(f:Value)(r:Ö->Be):Prop:=
 ∀(a:Û) (s:Shared) (b:St) (H:Hp) (c:Ö) (d:Ë) (Q:VK),Ż a b->jci->r c H Q ->
  ġ (call f d) T7 s
abbrev QwQ(X:Cx)(r:V->qje):Prop:=
 ∀(a:Û) (s:Shared) (b:St) (H:Hp) (x:V) (v:Value) (Q:HZ),ui->Ab->r x H Q ->
  ġ quc zQ7 s
abbrev tOp(r:R2)(b tb:TE):TE:=λa H Q=>b a H λx H1=>tb a H1 λy H2=>r x y H2 Q
abbrev tUn(r:V->Be)(b:TE):TE:=qUf b x
abbrev rI(C:Int->ja5)(g:xt5):R2:=λx y H Q=>∃i j,oE/\y=Á j/\C i j/\qRa
abbrev rI0(g:xt5):R2:=λx y H Q=>∃i j,oE/\y=Á j/\qRa
abbrev rU(g:Int->V):V->Be:=λx H Q=>∃i,oE/\Q (g i) H
section
variable{X:Cx}{a b c:Expr}{ta tb tc:TE}{pos:Pos}
def Qtq(r:Tn)(q:vU){d:Û}{s:Shared}{σ:St}{H:Hp}{R:V->V->Ŧ}(I:Ż d σ)
  (h:ta σ H qq3) {Q:Ñ} {f:PU}
  (p:∀v u i x y H2,ŕ d σ H2 i->Ab->ñ y->R x y H2->ġ (f v u) Q i) :
  ġ (Br a) (PJ v g (Br b) (zAj u e (f v u) Q)) s:=by
 refine thn (uJ r d σ) (Õ v l j);show ŏ x H1 I1 n o j;refine thn (q d l σ H1 _ I1 o) (Õ u i j);show(ŏ y H2 I2 m q2 j,p v u i x y H2 I2 n m q2)
def Qrn{op:Operator}{r:R2}(j:æ zP1 r)(m:Tn)(l:vU):Ĺ qGc tr:=by
 show lM;show wpAny_BinOp (Qtq m l I h λv u f x y H2 I2 i g q=>j d f e H2 x y v u Q I2 i g q)
def Qta{op:UnaryOp}{r:V->Be}(l:UnR X (unaryOp op) r)(m:Tn):Ĺ (.UnaryOp op a pos) (tUn r ta):=by
 show lM;refine UnaryOp_ (ji m d e v g f);show(gq f,l d g e H1 x v Q I1 i j)
def opI{f:PU}{C:Int->ja5}{g:Int->jcj}
  (rule:∀(i j:Int) (t u:Tok) (s:Shared) (Q:Ñ) (E:Ñ),C i j->jq1) :
  æ f (rI C jM7):=by
 intro d s o H x y v u Q I m l h;let#[i,j,rfl,rfl,n,q]:=h;show(zk1,rule i j t e s _ _ n jz0)
def Qst{f:PU}{g:Int->jcj}
  (rule:∀(i j:Int) (t u:Tok) (s:Shared) (Q:Ñ) (E:Ñ),jq1) :
  æ f (rI0 jM7):=by
 intro d s n H x y v u Q I m l h;show(nR,zk1,rule i j t e s _ _ jz0)
def QtR{f:PU}{g:Int->Int->Bool}
  (rule:∀(i j:Int) (t u:Tok) (s:Shared) (Q:Ñ) (E:Ñ),Q (yv fw) s->qv jAg Q E) :
  æ f (rI0 λi j=>ă fw):=by
 intro d s n H x y v u Q I m l h;show(nR,zk1,rule i j t e s _ _ #[ă fw,H,I,rfl,q])
abbrev QvJ(i j:Int):Prop:=zl0
abbrev QvS(i j:Int):Prop:=zBi
abbrev CMul(i j:Int):Prop:=zA4
def CMul.ok{i j:Int}(h:CMul i j):IntMulOk i j:=by
 rcases h with⟨e,d⟩|⟨e,d⟩
 ·show .of_left qGd
 ·show .of_right qGd
def op_add:æ iD jv4:=Qst λ_ _ _ _ _ _ _ q=>add_int q
def QnC:æ qRe (rI0 λi j=>Á (i-j)):=Qst λ_ _ _ _ _ _ _ q=>sub_int q
def Qnx:æ bv (rI CMul λi j=>Á (i*j)):=opI λ_ _ _ _ _ _ _ d q=>mul_int q d.ok
def QmQ:æ qE9 (rI QvJ λi j=>Á (i/j)):=opI λi j _ _ _ _ _ d q=>by
 let e:jz<j:=d.1;let f:zG5:=d.2;show floordiv_int (OZ e) (by rw[Int.fdiv_eq_ediv_of_nonneg i (Ybm e)];show q) (Ş (Yaq ċ))
def QnS:æ qRf (rI (λ_ j=>0<j) λi j=>Á (i%j)):=opI λi j _ _ _ _ _ d q=>by
 let e:jz<j:=d;show mod_int' (OZ d) (by rw[Int.fmod_eq_emod_of_nonneg i (Ybm d)];show q)
def Qp2:æ qRg (rI QvS λi j=>Á zM1):=opI λ_ _ _ _ _ _ _ d q=>pow_int_small d.1 d.2.1 d.2.2 q
def Qlm:æ qOc jv4:=Qst λ_ _ _ _ _ _ _ q=>iadd_int q
def unI{f:zMc}{g:jcj}
  (rule:∀(i:Int) (t:Tok) (s:Shared) (Q:Ñ) (E:Ñ),zt4 (.int (g i) s.toks)->qv (f fC) Q E) :
  UnR X f (rU λi=>Á (g i)):=by
 intro d s j H x v Q I e h;show(zk3 i h e,rule i t s _ _ #[Á (g i),H,ų,þ,q])
def QoG:UnR X (unaryOp .USub) (rU λi=>Á (-i)):=unI λ_ _ _ _ _ q=>neg_int q
#print"-"
section
variable{X:Cx}{a b c:Expr}{ta tb tc:TE}{pos:Pos}
def QdL{d:Û}{σ:St}{H:Hp}{s:Shared}{Q:VK}{k k':Bool}(I:ĳ d)(q:Q (.bl k) H)(e:k=k'):MJ d σ (yv k'):=by
 show Ao e #[.bl k,H,I,rfl,q]
def op_lt:æ zMd (rI0 λi j=>ă jDh):=QtR λ_ _ _ _ _ _ _ q=>lt_int q
def Qsd:æ qRh (rI0 λi j=>ă (AQ (j<i))):=QtR λ_ _ _ _ _ _ _ q=>gt_int q
def Qss:æ qOd (rI0 λi j=>zqc):=QtR λ_ _ _ _ _ _ _ q=>ge_int q
def Qfm:æ zMd (λx y H Q=>∃i j,x=Ù i/\y=Ù j/\Q (.bl (jFh i j)) H):=by
 intro d s g H x y v u Q I f e h;show(nR,jL t f l e,lt_str (QdL I q rfl))
def op_isN:æ zMe (λx y H Q=>y=.non/\Q (.bl (AQ (x=.non))) H):=by
 intro e s g H x y v u Q I d f h;show BE q h;cases f;refine is_none_gen xbi
 cases x<;>first
  |(cases d;rfl)
  |(show á d;rfl)
def QkY:æ qIi (λx y H Q=>y=.non/\Q (.bl (wG (x=.non))) H):=by
 intro e s g H x y v u Q I d f h;show BE q h;cases f;refine isnot_none_gen xbi
 cases x<;>first
  |(cases d;rfl)
  |(show á d;rfl)
def OpR.or{f:PU}{r j:R2}(h:æ f r)(h':æ f j):æ f (qEa j):=by
 intro d s e H x y v u Q I i g q
 show j6 q
 ·show h d s e H x y v u Q I i g q
 ·show h' d s e H x y v u Q I i g q
def Qmg{op:CmpOp}{r:R2}(j:oe)(n:Tn)(m:vU)(l:mZ):Ĺ PD tr:=by
 show lM;show wpAny_Compare1 (Qtq n m I h λv u f x y H2 I2 i g q=>j d f e H2 x y v u Q I2 i g q) l
abbrev Qsj(t:TE):TT:=λd H Q=>t d H (xg9 e)
def QkV{op:CmpOp}{r:R2}(o:oe)(t:Tn)(q:vU)(p:mZ):u8 PD (Qsj tr):=by
 show đ d f Q
 refine wpAny_isTrue_Compare1 (thn (uJ t d f) λv i #[x,H1,I1,m,n]=>thn (q d i f H1 _ I1 n) λu g #[y,H2,I2,l,q2]=>
  thn (o d g f H2 x y v u _ I2 m l q2) (Õ c A #[z,w,I3,j,k,e,q3])) p
 show(AW e j,OI (Ŷ w I3 q3))
abbrev Qte(K:Nj)(x:V)(H:Hp)(k:Bool):Prop:=
 match x with
 |.non=>k=false
 |.bl b=>k=b
 |Á i=>k=ja6
 |Ù y=>qaj
 |.byt y=>qcd
 |Ä p=>(∃d,xsi/\k=zX5)\/(∃d,MQ p d/\k=zX5)\/∃e,H p=sO (.dK e)/\k=!e.isEmpty
 |_=>False
def Qb9{κ:Type}{d:jY}{vs:AD κ}(r:KV d vs):(!vs.isEmpty)=zX5:=by
 show Hu r
def YH{xs:Ö}{its:Ë}(r:Sr):(!its.toArray.isEmpty)=!xs.isEmpty:=by
 cases r<;>simp
def Yf:xbj<2^63:=by rw[DA];decide
def QoH:QwQ X (λx H Q=>qUg H):=by
 intro A s E H x v Q I l h;show Ů k e q h;let F:=Yf;let D:zL6:=DA;cases x with
 |non=>
  cases l;let d:k=false:=e;subst d;show truthy_none (Ŷ H I q)
 |bl b=>
  cases l;let d:k=b:=e;subst d;show OI (Ŷ H I q)
 |int i=>
  show á l;let d:k=ja6:=e;subst d;show PySem.P.truthy_int (Ŷ H I q)
 |str y=>
  show á l;obtain⟨C,d⟩:qaj:=e;subst d;show PySem.P.truthy_str É #[H,ų,q]
 |byt y=>
  show á l;obtain⟨C,d⟩:qcd:=e;subst d;show PySem.W.truthy_bytes (Nq (ź (Nh C (Nv D)))) #[H,ų,q]
 |ref p=>
  cases l;let d:(∃j,Mf p j/\xlh)\/(∃j,TF p j/\xlh)\/∃f,H p=sO (.dK f)/\k=!f.isEmpty:=e
  rcases d with⟨j,n,d⟩|⟨j,n,d⟩|⟨f,n,d⟩
  ·subst d;show cE z r u B n g;show wpAny_truthy_list u.isList (by simp only[Nz];lia) jHd
  ·subst d;show(qp z r u B n,Ž g r);show truthy_tuple u (by simp only[Nz];omega) jHd
  ·subst d;obtain⟨B,hS,o,r,m⟩:qO6/\(sD p)=false/\∃o,KV f o/\s.heap.DictOf zMf p o:=I.hok p _ n;let g:f.length=o.length:=Ec r;show wpAny_truthy_dict hS m É #[H,ų,by rw[Qb9 r];show q]
 |_=>show qO e
def QgZ(m:Tn)(l:jR7) :
  u8 a (λσ H Q=>ta σ H λx e=>qUg e):=by
 show đ d σ Q;refine isTrue_plain (ji m d σ v g f) (l _);show(gq f,QoH d g σ H1 x v Q I1 i j)
def op_add_str:æ iD (λx y H Q=>∃i j,x=Ù i/\y=Ù j/\i.length+j.length<=sizeLine/\Q (Ad (i++j)) H):=by
 intro d s m H x y v u Q I g f h;let#[i,j,rfl,rfl,l,q]:=h;show jL t g e f;show add_str (λe tk=>#[Ù (i++j),H,ų,þ,q]) l
def Xm{x:V}{us:Ë}(r:Mz [x]):jAh:=by
 cases r with
 |cons e d=>show ì d #[_,rfl,e]
def Wj{x y:V}{us:Ë}(r:Mz [x,y]):∃u w',us=[u,w']/\ñ x/\š y w':=by
 cases r with
 |cons g f=>
  cases f with
  |cons e d=>show ì d #[_,_,rfl,g,e]
def Qes(f:ĥ):ŀ zL7 (jHe (ĭ qhj)):=by
 intro e s g H xs m Q I r h;show(xt6,qn7);refine max_two_ints (ye f) qda
 by_cases d:j>i
 show jlb
 show jlc
def Qc8(f:ĥ):ŀ qOe (jHe (ĭ qi0)):=by
 intro e s g H xs m Q I r h;show(xt6,qn7);refine min_two_ints (ye f) qda
 by_cases d:j<i
 show jlb
 show jlc
#print"-"
structure ObjM(h:Heap)(x dx C:Addr)(mA:Ĕ):Prop where
 obj:ő x=sO (DX C dx)
 ns:h.Ns1 dx mA
 ne:dx≠x
def Qe5{h:Heap}{g:Addr}{d:Ĕ}(n:h.Ns1 g d):∃c,ő g=sO c/\∀name,Oi name c=sO (d name):=by
 let#[o,f,p,j,hd,hk,_,l]:=n;refine#[o,j,λname=>?_];let e:=l name;unfold nsFind findBy at e;rw[<-Array.find?_toList]at e;unfold Oi;rw[hd];show jg3
 ·rename_i y q;rw[q]at e;show jeg e
 ·rename_i q;rw[q]at e
  let a:f.toList.any (·.refKey)=false:=by
   rw[YbC];intro y i;let#[z,t,b]:=hk y (FG.mp i);simp[DictEntry.refKey,b]
  let m:¬f.toList.any (·.refKey)=true:=BD a N9
  rw[Ó m];show jeg e
def ObjM.look{h:Heap}{x c C:Addr}{b:Ĕ}(I:ObjM h x c C b):∃a,PySem.W.InstAt h x (DX C c) C jfa/\∀name,Oi name a=sO (b name):=
 let#[a,d,e]:=Qe5 I.ns
 #[a,#[I.obj,rfl,rfl,d],e]
section
variable{prog:Program}{w:World}{A:Around}{E:Ñ}{s:Shared}{K:Nj}{x dx C f:Addr}{mA:Ĕ}{name:Str}{v:Value}
def Qko{expr:Bool}{Q:Ñ}(X:dy)(I:zH1)(e:qUh)(d:aM)
  (g:qyg=sO nO) (b:mA name=sO v) (a:YbO v=true) (h:zt4 v) :
  ä (getAttr ϱ name expr):=by
 show jhg i c;show PySem.W.get_value X J (Od e).1 (PySem.W.findObj_own d g rfl (by rw[c,b])) a h
def QgX{pl:Sem Bool}{Q:jJ8}(X:dy)(I:zH1)(a:qUh)
  (g:qyg=sO ű) (d:nT) (c:mA name=nO) (h:Q (Ä f,[Ä x]) s) :
  ä (getMethod ϱ name pl):=by
 show jhg b e;show PySem.W.method_fn X J (Od a).1 (Od a).2 g (beq_iff_eq.mp d) (by apply(Oi name b).map (·.isSome)=sO false;rw[e,c];rfl) h
def QlL{ns:Â}{Q:qa}(X:dy)(I:zH1)
  (n:zw6) (o:zUb) (m:Yak K C name=sO nO) (p:aM)
  (hw:Ybl mA ns) (hsz:qLb)
  (h:∀h',ObjM h' x dx C (λy=>if y=name then sO v else mA y)->Heap.SameBut dx s.heap h'->Q () { s with heap:=h',toks:=s.toks+2 }) :
  ä (setAttr ϱ name v):=by
 show jhg z D;refine PySem.W.set_plain X J n (PySem.W.osa_open (s:={ s with toks:=A7 }) (r:=nO) X J o m lu);let#[cd,q,i]:=PySem.W.any_some p;let l:Ń x=sO #[Ä C,sO dx,.plain,#[]]:=I.obj;show Æ (Nl (Na (Na (wpAny_loadPart l (Na (PySem.W.Looks.here (s:={ s with toks:=A7 }) (PySem.W.looks_clsIn X q) ?_))))));rw[i];refine Nl (a:=sO dx) (Na (Nl aO));refine wpAny_nsSet1 (s:={ s with toks:=A7 }) I.ns (Õ h' d c);let#[B,t,u,e,g,j]:=d.count (PySem.Within.cons name v hw);show Æ (wpAny_lookBehind e (by rw[g];show pastItsLine_dict (Nh j (by rw[NS];show N8 hsz _))) ?_);show ħ (h _ #[(c.2 _ (Eb I.ne)).trans I.obj,d,I.ne] c)
def Qic{R:cF}{vs:Ë}{kw:S4}(X:dy)(a:aP)
  (hi:qbg) (b:PySem.W.typeIn K qg=sO (.type "function"))
  (h:codeAny Ĝ (A.under (.builtin "type.__call__" #[Ä C::vs,kw])) (.call qg #[Ä jO::vs,kw]) (PySem.W.InitBack jO R)
   { s with heap:=jZe }) :
  nU (.call oj #[vs,kw]) R s:=by
 let#[c,g,d,t,os]:=s;show PySem.W.make_core (PySem.W.makes_of X a) (PySem.W.looks_findIn X hi) (λself=>PySem.W.bind_fn X self b) AL h
#print"-"
set_option backward.eqns.deepRecursiveSplit false in
abbrev W8(f:Str)(v:V):Θ V->Θ V
 |[]=>jg4
 |xm1=>if g=f then(g,v)::r else(g,x)::W8 f v r
def Gd(f g:Str)(v:V):∀fs:Θ V,(W8 f v fs).lookup g=if g=f then sO v else fG g:=by
 intro fs
 induction fs with
 |nil=>
  apply List.lookup g jg4=_
  show Ě h g f
  ·show zGd f;simp only[List.lookup,a,Ò h]
  ·let a:(g==f)=false:=PY h;simp only[List.lookup,a,Ó h]
 | cons b r d=>
  show Đ k x b;let c:=d;show zw0
  ·rw[zd5]
   show Ě h g k
   ·show zGd k;simp only[List.lookup,a,if_pos (h.trans hk)]
   ·let a:xm2:=PY h;simp only[List.lookup,a,if_neg (λe:g=f=>h (e.trans hk.symm))]
  ·rw[zd6]
   show Ě h g k
   ·show zGd k;simp only[List.lookup,a,if_neg (λe:g=f=>hk (h.symm.trans e))]
   ·let a:xm2:=PY h;simp only[List.lookup,a];show c
def Uq(f:Str)(v:V):∀fs:Θ V,f∈(W8 f v fs).map (·.1)/\∀g,g∈fs.map (·.1)->g∈(W8 f v fs).map (·.1):=by
 intro fs
 induction fs with
 |nil=>
  show#[ϩ W8,λg h=>ϥ h]
 | cons a r b=>
  show(Đ k x a,Đ d c b,zw0)
  ·rw[zd5];subst hk;show#[Å,λg h=>é h]
  ·rw[zd6];refine#[?_,Ô g h]
   ·rw[NB];show C6 d
   ·rw[NB]at h ⊢
    show CP h e
    ·show NK.mpr (Ş e)
    ·show C6 (c g e)
def GW(f:Str)(v:V):∀fs:Θ V,(W8 f v fs).length<=fs.length+1:=by
 intro fs
 induction fs with
 |nil=>
  simp[W8]
 |cons a r c=>
  show Đ k x a;let b:=c;show zw0
  ·rw[zd5,NS,NS];show Sw
  ·rw[zd6,NS,NS];show N8 b _
def RelO.some_of{v:V}{o:vo}(r:RelO θ o):∃u,o=sO u/\ñ v:=by
 cases o with
 |none=>show qO r
 |some u=>show#[u,rfl,r]
def RelO.none_of{o:vo}(r:RelO nO o):o=nO:=by
 cases o with
 |none=>rfl
 |some u=>show qO r
def QfC{v:V}{u:Value}(r:ñ v):YbO u=true:=by
 cases v with
 |non=>cases(show xl4 from r);rfl
 |bl b=>cases(show xbe from r);rfl
 |int i=>show jr7;cases e;rfl
 |str x=>show jx0;cases e;rfl
 |byt b=>show Đ t e (show qG5 from r);cases e;rfl
 |flt b=>show Đ t e (show qG6 from r);cases e;rfl
 |ref a=>cases jjf;rfl
 |ty n=>cases(show xbf from r);rfl
section
variable{P:Program}{w:World}{H H':Hp}{h h':Heap}{a C dx:Addr}{fs fs':Θ V}
def GU(c:CT)(e:nL):∃b,ObjM h a dx C b/\(∀f,zJh b)/\Ybl b (fs.map (·.1))/\qYb/\H dx=xse:=by
 let#[d,z,ne,ob,b,n,r,q]:=(show iJ qYj  from c a _ e)
 show#[b,#[ob,n,ne],r,q,z,d]
#print"-"
structure Cls(K:Nj)(C:Addr):Prop where
 pg:qGe
 hd:aM
 po:zUb
 sa:zw6
def Cls.get{K:Nj}{C:Addr}(c:zgd)(f:Str):Iz K C f=true:=c.pg
abbrev NoAttr(K:Nj)(C:Addr)(f:Str):Prop:=tN f=sO nO
def NoAttr.taker{K:Nj}{C:Addr}{f:Str}(n:zS0):Yak K C f=sO nO:=by
 unfold Yak;rw[show tN f=sO nO from n];rfl
structure Meth(K:Nj)(C:Addr)(m:Str)(f:Addr):Prop where
 at_:tN m=sO ű
 fn:nT
 kp:i6
section
variable{X:Cx}{pins:Û}{σ:St}{H:Hp}{s:Shared}{a C dx:Addr}{fs:Θ V}{f:Str}{v:V}{A:Around}{E:Ñ}
def Qcc{b:Bool}{Q:Ñ}(I:ß)(e:nL)(c:xz)(n:rX)(l:zs2)
  (h:∀u d,CO H d->ñ v->Q u d):uA (getAttr Ġ f b):=by
 let#[i,O,r,_,_,_]:=zX7;let#[u,hu,g]:=RelO.some_of (v:=v) (o:=i f) (jhh l r f);show Qko I.kIn O (c.get f) c.hd n hu (QfC g) (h u _ zEi g)
def YM{m:Str}{g:Addr}{pl:Sem Bool}{Q:jJ8}(I:ß)(e:nL)(c:xz)(k:Meth X.K C m g)(l:zl1)
  (h:Q (Ä g,yF) s):uA (getMethod Ġ m pl):=by
 let#[b,O,r,_,_,_]:=zX7;let d:b m=nO:=RelO.none_of (jhh l r m);show QgX I.kIn O (c.get m) k.at_ k.fn d h
def Qb3{y:V}{u:Value}{Q:qa}(I:ß)(e:nL)(c:xz)(n:rX)(D:rY)(t:ñ y)
  (h:∀j,CO (Ą a (.ins C dx xga)) j->Q () j):uA (setAttr Ġ f u):=by
 let#[l,O,r,i,_,m]:=zX7;let B:(fs.map (·.1)).length<=sizeLine:=by rw[Nr,DA];show Nq (kG D)
 refine QlL I.kIn O c.sa c.po n.taker c.hd i B λL d p=>h _ ?_;let hd:∃o,L.get? dx=sO o:=let#[o,_,_,M,_]:=d.ns;#[o,M]
 refine I.write (x:=a) (e:=dx) (qc3 e) (Ė m) (HW q J z p) hd ?_;refine#[by rw[Qu O.ne];show m,?_,O.ne,d.obj,_,d.ns,è g,Ô g F]
 ·let:=GW f y fs;lia
 ·apply RelO ((W8 f y fs).lookup g) qud;rw[Gd]
  show Ě q g f
  ·rw[Ò q,Ò q];show t
  ·rw[Ó q,Ó q];show r g
 ·show Ě q g f
  ·rw[q];show(Uq f y fs).1
  ·refine(Uq f y fs).2 g (i g λz=>F ?_);apply qud=nO;rw[Ó q];show z
def Inv.made(I:ß):Inv X pins σ (upd (upd H s.heap.objs.size (.own jO)) jO (.ins C s.heap.objs.size []))
  { s with heap:=jZe }:=by
 let c:(s.heap.push Dt).get? s.heap.objs.size=sO Dt:=NM s.heap rfl
 let j:((s.heap.push Dt).push zB0).get? jO=sO zB0:=by
  let:=NM (s.heap.push Dt) (o:=DX C s.heap.objs.size) rfl;rwa[DR]at this
 let i:(s.heap.push Dt).Ns s.heap.objs.size zX8:=#[Dt,#[],_,c,rfl,(λe h=>Ai h Ç),Λ]
 let I1:=I.laid (a:=s.heap.objs.size) (o:=.own jO) (h':=s.heap.push Dt) (t':=s.toks) jCj Č #[_,c];refine I1.laid (a:=uP) (o:=.ins C s.heap.objs.size []) (t':=s.toks) jCj (Nv (DR _ _)) ?_;let ne:s.heap.objs.size≠uP:=NL Af;refine#[by rw[Qu ne,Z9],NO _,ne,j,ξ,(Heap.Ns1.of_empty i).at λo q=>Ŗ q,λ_=>True.intro,λy g=>CV g]
def Qmx{prog:Program}{w:World}{env:Env}{e:Expr}{f:Str}{pos:Pos}{s:Shared}{Q:Ñ}(c:qd2)
  (h:Ϩ Ĝ (SJ e) (λo b=>iu A (getAttr o f true) Q E b) s):ä (SJ zH2):=
 Attribute_any_ h (by rw[arm_eval_Attribute,c])
#print"-"
abbrev Qvq(K:Nj)(c:TE)(f:Str):TE:=λb H Q=>c b H λx H1=>∃a C d fs v,Aw/\H1 a=zWa d/\zgd/\zS0/\zs2/\Q v H1
abbrev QvD(K:Nj)(d tv:TE)(f:Str):TS:=λD b H=>tv b H λy H1=>d b H1 λx H2=>∃a C c fs,Aw/\H2 a=zWa c/\zgd/\zS0/\rY /\
 D.nx b (upd H2 a (.ins C c xga))
section
variable{X:Cx}{o e value:Expr}{f:Str}{pos pos' tpos:Pos}{ta tv:TE}
def QpG(m:PE X e ta)(p:qad):Ĺ zH2 (Qvq X.K ta f):=by
 show đ b d Q;refine Qmx p (ji m b d u z g);let#[x,H1,I1,i,a,C,A,fs,v,r,t,c,n,l,q]:=g;subst r;obtain rfl:yH:=i;show Qcc I1 t c n l λw y I2 j=>#[v,H1,I2,j,q]
def QnO(v:PE X o ta)(r:xgb)(t:jU8):PS X qb0 (QvD X.K ta tv f):=by
 show đ b d D;refine plainObj_wpAny_Assign_Attribute (ji r b d u i g) t;show ς y j q g;refine thn (v b i d H1 _ I1 q) (Õ p B g);let#[x,H2,I2,m,a,C,E,fs,w,z,c,n,l,q2]:=g;subst w;obtain rfl:p=jQ a:=m;show Qb3 I2 z c n l j (ŗ A I3 #[d,_,I3,q2])
def Qlh{pl:Sem Bool}{m:Str}{apos:Pos}{args:List Expr}{b:List (Addr×Obj)}{s:Shared}{σ:St}{H:Hp}{Q:Value->Shared->Prop}{te:TE}(t:PE X e te)(I:Inv X b σ H s)
  (h:te σ H λx H1=>∃a C j fs g,x=.ref a/\H1 a=sO (.ins C j fs)/\Cls X.K C/\Meth X.K C m g/\fs.lookup m=nO /\
   ∀d,Inv X b σ H1 d->wpAny (model X.prog X.w) X.A (callWith pos (.ref g) [.ref a] (backTo pos (starEach args X.env)) (backToKw pos (keywordEach [] X.env))) Q X.xe d)
  (r:eval (.Call (.Attribute e m apos) args [] pos) X.env=(do
   let i <-eval e X.env
   standAt apos.atName
   let(f,first) <-holding [i] (getMethod i m pl)
   callWith pos f first (backTo pos (starEach args X.env)) (backToKw pos (keywordEach [] X.env)))) :
  wpAny (model X.prog X.w) X.A (eval (.Call (.Attribute e m apos) args [] pos) X.env) Q X.xe s:=by
 refine YaG (pl:=pl) (thn (t b s σ H _ I h) λu d n=>?_) r;let#[x,H1,I1,p,a,C,j,fs,g,v,y,c,k,l,q]:=n;subst v;obtain rfl:u=Value.ref a:=p;show YM I1 y c k l (q d I1)
#print"-"
structure Room(k:Nat)(A:Around):Prop where
 hd:Ζ
 dp:A.depth+3*k+5<recursionLimit
 un:A.units+16*k+200<cLine
def Room.mono{j k:Nat}{A:Around}(r:zf3)(h:j<=k):Room j A:=#[r.hd,by let:=r.dp;lia,qRi]
def Room.deeper{k:Nat}{A:Around}(r:qUi)(env:Env):Room k (A.deeper env):=
 #[r.hd,by let:=r.dp;apply A.depth+1+3*k+5<_;lia,by let:=r.un;apply A.units+3+16*k+200<_;lia]
def Qct{A:Around}{C:Addr}{us:Ë}{kw:S4}:(A.under jQb).depth=A.depth+1:=by
 first|rfl|simp[Around.under,Code.weight,Code.isCreation,Code.isGuard,Code.isCaller,Code.frames,Code.isFrame,guardIds]
def Qcp{A:Around}{C:Addr}{us:Ë}{kw:S4}:(A.under jQb).units=ve:=by
 first|rfl|simp[Around.under,Code.cUnits,Code.frames,Code.isFrame]
def Room.make{k:Nat}{A:Around}(r:qUi)(C:Addr)(us:Ë)(kw:S4):Room k jTd:=
 #[r.hd,by let:=r.dp;rw[Qct];lia,by let:=r.un;rw[Qcp];lia]
def Room.depth{k:Nat}{A:Around}(r:zf3):A.depth<recursionLimit:=by let:=r.dp;show Ni (Nh Ω Ω) this
def Room.units{k:Nat}{A:Around}(r:zf3):A.units+64<cLine:=qRi
abbrev Qr5:TA:=λ_ H Q=>Q [] H
abbrev Qr1(d:TE)(c:TA):TA:=λa H Q=>d a H λx H1=>c a H1 λb H2=>Q (x::b) H2
section
variable{X:Cx}{e:Expr}{es:ā}{te:TE}{t:TA}{pos:Pos}
def Qpg:PA X [] Qr5:=λ_ _ _ _ H Q I h=>OK #[[],H,I,.nil,h]
def Qlv(n:To)(m:zd7)(l:pv:=by rfl):PA X uw (Qr1 te t):=by
 intro pos a s c H Q I h;rw[l];apply ń (spliced (jUb::backTo pos qP));refine Oo (ji n a c u f b);show gq b;refine thn (m pos a f c H1 _ I1 j) (Õ o p b);show(Pi d g b,#[x::d,H2,I2,ĉ i g,q2])
abbrev Qv8(t:TA):TE:=λb H Q=>t b H (qsi (upd H1 p (Ĩ a)))
abbrev Qvt(t:TA):TE:=λb H Q=>t b H (qsi (upd H1 p lW))
def Qn5{i}(h:zd7):Ĺ (zad i) (Qv8 t):=by
 intro a s d H Q I l;refine wpAny_Tuple_spliced (ņ (h pos a s d H _ I l) j c f);let#[g,H1,I1,r,z,q]:=f;show(jSj m,TY #[ϋ c,jHg (Ĩ g),jZ0,rfl,q _ m] #[z,j,r,#[_,ŭ,rfl,_,rfl]])
def Qjx(h:zd7):Ĺ zNg (Qvt t):=by
 intro a s d H Q I j;refine wpAny_List_spliced (ņ (h pos a s d H _ I j) i c f);let#[g,H1,I1,r,z,q]:=f;show(jSj l,TY #[ϋ c,jHg zl2,jZ0,rfl,q _ l] #[z,i,0,r,ŭ])
#print"-"
noncomputable abbrev Sp:=Ö->Hp->VK->XK->Prop
noncomputable abbrev CXT:=ϓ->Hp->Shared->XK->Ñ
structure Env0(P:Program)(w:World)(K:Nj)(mg:Ĕ)(base:Heap)(A:Around)(outer:ϓ)(s:Shared)(H:Hp):Prop where
 frames:A.frames=sO outer
 mod:Mod K mg base
 bs:∀b o,base.get? b=sO o->ϙ/\ϫ
 bsz:base.objs.size<=s.heap.objs.size
 funs:s.heap.FunFrames base outer
 frf:∀b∈frs outer,ϫ
 hok:jhi H s
 bare:dY s
abbrev CE(a:ϓ)(P:Program)(w:World)(H:Hp)(s:Shared)(Q:VK)(u:Value)(b:Shared):Prop:=
 ∃v c,b.os=s.os/\dY b/\Un (frs a) [] H c s.heap b.heap/\jhi c b/\ñ v/\Q v c
abbrev CR(CX:CXT)(a:ϓ)(P:Program)(w:World)(H:Hp)(s:Shared)(Q:VK)(E:XK)(r:Result)(b:Shared):Prop:=
 match r with
 |.ok (.ret u)=>CE a P w H s Q u b
 |.ok _=>False
 |.error e=>CX a H s E e b
structure FnOk(P:Program)(w:World)(K:Nj)(mg:Ĕ)(base:Heap)(CX:CXT)(k:Nat)(f:Addr)(fd:FuncData)(ps:Â)(sp:Sp):Prop where
 len:qi1
 run:∀(A:Around) (outer:ϓ) (s:Shared) (H:Hp) (args:Args) (us:Ë) (vs:Ö) (Q:VK) (E:XK),zf3->Env0 P w K mg base A outer s H->BindsTo s fd args fg->zb7->aQ ->
  codeAny vt A (.call qg args) (CR CX outer P w H s Q E) s
def FnOk.imp{P:Program}{w:World}{K:Nj}{c:Ĕ}{base:Heap}{CX:CXT}{k:Nat}{f:Addr}{fd:FuncData}{ps:Â}{sp b:Sp}(F:FnOk P w K c base CX k f fd ps sp)
  (h:∀vs H Q E,b vs H Q E->aQ):FnOk P w K c base CX k f fd ps b:=
 #[λvs H Q E q=>F.len vs H Q E (h _ _ _ _ q),λA a s H args d vs Q E i j l e g=>F.run A a s H args d vs Q E i j l e (h _ _ _ _ g)]
def Env0.make{P:Program}{w:World}{K:Nj}{b:Ĕ}{base:Heap}{A:Around}{a:ϓ}{s:Shared}{H:Hp}(e:Env0 P w K b base A a s H)(C:Addr)(us:Ë)(kw:S4) :
  Env0 P w K b base jTd a s H:=#[by first|show e.frames|(simpa[Around.under,Code.envs,Code.isFrame,pushEnvs]using e.frames),e.mod,e.bs,e.bsz,e.funs,e.frf,e.hok,e.bare]
section
variable{X:Cx}{pins:Û}{σ:St}{H:Hp}{s s':Shared}
def Inv.env0(I:ß):Env0 X.prog X.w X.K X.mg X.base X.A X.stack s H:=
 #[I.ok.frames,I.ok.mod,I.bs,qUj,I.stack,I.stkFree,I.hok,I.bare]
def Inv.after{Q:VK}{u:Value}(I:ß)(h:CE X.stack X.prog X.w H s Q u s'):EP X pins σ Q u s':=by
 let#[v,f,os,bare,un,c,r,q]:=h;show ŏ e g d t a s';obtain rfl:a=s.os:=os;show#[v,f,I.call (h':=e) (g':=g) (d':=d) (t':=t) (ch:=[]) un c bare (λb z=>Ai z Ç),r,q]
#print"-"
abbrev Qkx(sp:Sp)(a:Ö)(E:XK)(t:TA):TE:=λb H Q=>t b H λc H1=>sp (c++a) H1 Q E
abbrev Qr6(C:Addr)(m:Str)(sp:Sp)(b:Ö)(E:XK)(e:TE)(t:TA):TE:=λc H Q=>e c H λx H1=>∃a f fs,Aw/\H1 a=zWa f/\zl1 /\
 t c H1 λd H2=>sp (x::(d++b)) H2 Q E
abbrev QsQ(C:Addr)(sp:Sp)(b:Ö)(E:XK)(t:TA):TE:=λc H Q=>t c H λd H1=>∀x a,H1 x=nO->H1 a=nO->a≠x ->
 sp (Ä x::(d++b)) (upd (upd H1 a tW) x (.ins C a [])) qk8 E
abbrev Binds(K:Nj)(fd:FuncData)(ps:Â)(b:Ë):Prop:=
 ∀(s:Shared) (a:Ë),dy->(a++b).length=ps.length->BindsTo s fd #[a,[]] (ps.zip (a++b))
def Binds.all{K:Nj}{fd:FuncData}{ps:Â}(h:∀us:Ë,qLe->bindArgs fd zI4=pure fg):iy:=λs us _ a=>by
 rw[EM]at a ⊢;show .of_eq (h us a)
abbrev XE(CX:CXT)(X:Cx)(E:XK):Prop:=∀(a:Û) (c:St) (H:Hp) (s:Shared) (e:Value) (b:Shared),Ż a c->CX X.stack H s E e b->X.xe e b
section
variable{X:Cx}{CX:CXT}{k:Nat}{f C:Addr}{fd:FuncData}{ps:Â}{sp:Sp}{dvs:Ö}{ds:Ë}{E:XK}{x m:Str}{p pos apos:Pos}{e o:Expr}{es:ā}{ta:TE}{t:TA}
def QfP{a:Û}{σ:St}{H:Hp}{s:Shared}{Q:VK}{us:Ë}{vs:Ö}(F:pI)(i:Tj)(l:kT)(hd:dz)(g:vW)
  (I:ĳ a) (r:zb7) (h:sp wz H Q E):ġ (call qg us) qYe s:=by
 let c:Vals wz zS1:=r.append hd;let j:(us++ds).length=ps.length:=by show(u6 c,F.len _ _ _ _ h)
 refine YaU (Fk (F.run X.A X.stack s H zI4 zS1 wz Q E i I.env0 (l s us I.kIn j) c h) (Õ r d b));cases r with
 |error e=>show g a σ H s e d I b
 |ok n=>
  cases n with
  |ret u=>show I.after b
  |next=>show CZ b
  |brk=>show CZ b
  |cont=>show CZ b
def QkB(F:pI)(l:Tj)(u:Ϭ)(n:nQ)(hk:ny)(y:kT)(hd:dz)(j:vW)
  (z:bB) (c:ω:=by decide) (v:pv:=by rfl) (b:(backTo pos qP).any (·.1)=false:=by rfl) :
  Ĺ oQ (Qkx sp dvs E t):=by
 show đ a g Q;refine DS (Qah I u n ?_ c);refine Ybn (h₀:=X.base) I.ok.mod.kin hk (ņ (vh z a g) D J i) v b;show ς B r q i;refine#[I1.kIn,?_];show QfP F l y hd j I1 r q
def Qf2(F:pI)(d:Tj)(i:Ϭ)(g:nQ)(hk:ny)(j:kT)(hd:dz)(c:vW)
  (a:ω:=by decide):Ĺ m7 (Qkx sp dvs E Qr5):=by
 show(đ b l Q,que,Ybe I.kIn hk (QfP (us:=[]) F d j hd c I .nil h))
def Qkz{pl:Sem Bool}(P:PE X o ta)(c:Cls X.K C)(B:Meth X.K C m f)(F:FnOk X.prog X.w X.K X.mg X.base CX k f fd ps sp)(N:Room k X.A)(S:Binds X.K fd ps ds)(hd:Vals dvs ds)(L:XE CX X E)(U:PA X (e::es) t)
  (g:starEach (e::es) X.env=(false,eval e X.env)::starEach es X.env:=by rfl) (i:(backTo pos (starEach es X.env)).any (·.1)=false:=by rfl)
  (M:eval (.Call (.Attribute o m apos) (e::es) [] pos) X.env=(do
   let y <-eval o X.env
   standAt apos.atName
   let(f,first) <-holding [y] (getMethod y m pl)
   callWith pos f first (backTo pos (starEach (e::es) X.env)) (backToKw pos (keywordEach [] X.env))):=by rfl) :
  PE X (.Call (.Attribute o m apos) (e::es) [] pos) (Qr6 C m sp dvs E ta t):=by
 intro b s j H Q I h;refine YaG (pl:=pl) (thn (P b s j H _ I h) λu D d=>?_) M;let#[x,H1,I1,J,a,dx,fs,Y,Z,l,q]:=d;subst Y;obtain rfl:u=Value.ref a:=J;refine YM I1 Z c B l ?_;refine Ybn (first:=[.ref a]) (h₀:=X.base) I.ok.mod.kin B.kp (thn (U pos b D j H1 _ I1 q) λv s2 d=>?_) g i;let#[n,H2,I2,r,q2]:=d;refine#[I2.kIn,?_];show QfP (us:=.ref a::v) (vs:=.ref a::n) F N S hd L I2 (.cons rfl r) q2
structure Mk(K:Nj)(C f:Addr):Prop where
 makes:aP
 init:qbg
 fn:nT
 kp:zGe
def Qgb{a:Û}{σ:St}{H:Hp}{s:Shared}{Q:VK}{us:Ë}{vs:Ö}(M:Mk X.K C f)(F:pI)(l:zMg)(q:kT)(hd:dz)
  (j:vW) (I:ĳ a) (r:zb7)
  (h:∀x c,H x=nO->H c=nO->c≠x->sp (Ä x::wz) (upd (Ą c tW) x (.ins C c [])) qk8 E) :
  ġ (call oj us) qYe s:=by
 let g:=h jO s.heap.objs.size (jfc I Mh) (s9 I) (NL Af);let I2:=Inv.made (C:=C) I;let d:Vals (V.ref jO::wz) jYc:=.cons rfl (r.append hd)
 let n:(qe5++ds).length=ps.length:=by
  show Ž e d;rw[F.len _ _ _ _ g]at e;show e.symm
 refine YaU (Qic (f:=f) I.kIn M.makes M.init (beq_iff_eq.mp M.fn) (Fk (F.run _ X.stack _ _ #[qe5,[]] jYc _ _ E (l.make C us [])
  (I2.env0.make C us []) (q _ (Value.ref jO::us) I2.kIn n) d g) (Õ r i b)))
 cases r with
 |error e=>show j a σ _ _ e i I2 b
 | ok y=>
  cases y with
  |ret u=>
   let#[v,B,I3,rv,z,q3]:=I2.after b;show Ao z #[rv,#[V.ref jO,B,I3,rfl,q3]]
  |next=>show CZ b
  |brk=>show CZ b
  |cont=>show CZ b
def Qhk(M:Mk X.K C f)(F:pI)(d:zMg)(i:Ϭ)(g:zhj=υ C)(j:kT)(hd:dz)(c:vW)
  (a:ω:=by decide):Ĺ m7 (QsQ C sp dvs E Qr5):=by
 show(đ b l Q,que,Ybe I.kIn M.kp (Qgb (us:=[]) M F d j hd c I .nil h))
#print"-"
structure FnScope(N P:Â)(sc:Scope):Prop where
 kind:qRj
 co:qIj
 gen:qJ0
 nd:N.Nodup
 pre:N.take P.length=P
 par:∀x∈P,zq0
 nofree:∀y∈sc.names,xt8
def QeF{kindOf:qJ1}{x:Str}:∀{binds:S4} {m:Ĕ},qxc->bindL kindOf binds m x=m x:=by
 intro binds
 induction binds with
 |nil=>
  intro _ _;show rfl
 | cons a r b=>
  show Đ n v a;intro m h;unfold bindL;rw[qs4];split
  ·show jAi
  ·rfl
def QfJ{kindOf:qJ1}{x:Str}:∀{binds:S4} {m:Ĕ},qxc->bindC kindOf binds m x=m x:=by
 intro binds
 induction binds with
 |nil=>
  intro _ _;show rfl
 | cons a r b=>
  show Đ n v a;intro m h;unfold bindC;rw[qs4];show zc8
  ·show jAi
def Ur{kindOf:Str->Option NameKind}{x:Str}{v:Value}:∀{P:List Str} {vs:List Value} {i:Nat} {m:Str->Option Value},P.Nodup->P[i]?=sO x->vs[i]?=sO v->kindOf x=sO .local ->
  bindL kindOf (P.zip vs) m x=sO v
 |[],_,_,_,_,h,_,_=>by simp at h
 |_::_,[],_,_,_,_,h,_=>by simp at h
 |p::P,w::vs,0,m,nd,h1,h2,hk=>by
  simp at h1 h2;subst h1;subst h2;apply bindL kindOf ((p,w)::P.zip vs) m p=_;unfold bindL;rw[QeF λv a=>(Eo.mp nd).1 (Fp a).1,if_pos hk];simp
 |p::P,w::vs,i+1,m,nd,h1,h2,hk=>by
  apply bindL kindOf ((p,w)::P.zip vs) m x=_;unfold bindL;show Ur (i:=i) (Eo.mp nd).2 (by simpa using h1) (by simpa using h2) hk
def U0{kindOf:Str->Option NameKind}{x:Str}{v:Value}:∀{P:List Str} {vs:List Value} {i:Nat} {m:Str->Option Value},P.Nodup->P[i]?=sO x->vs[i]?=sO v->kindOf x≠sO .local ->
  bindC kindOf (P.zip vs) m x=sO v
 |[],_,_,_,_,h,_,_=>by simp at h
 |_::_,[],_,_,_,_,h,_=>by simp at h
 |p::P,w::vs,0,m,nd,h1,h2,hk=>by
  simp at h1 h2;subst h1;subst h2;apply bindC kindOf ((p,w)::P.zip vs) m p=_;unfold bindC;rw[QfJ λv a=>(Eo.mp nd).1 (Fp a).1,if_neg hk];simp
 |p::P,w::vs,i+1,m,nd,h1,h2,hk=>by
  apply bindC kindOf ((p,w)::P.zip vs) m x=_;unfold bindC;show U0 (i:=i) (Eo.mp nd).2 (by simpa using h1) (by simpa using h2) hk
abbrev start(N:Â)(vs:Ö):St:=vs.map sO++List.replicate (N.length-vs.length) nO
abbrev QfS(CX:CXT)(P:Program)(w:World)(K:Nj)(mg:Ĕ)(base:Heap)(N:Â)(b:Str)(a:Scope)(f:Addr)(cd:Value)(A:Around)(outer:ϓ)(s:Shared)(H:Hp)(E:XK):Cx where
 prog:=P
 w:=w
 K:=K
 mg:=mg
 base:=base
 A:=A.deeper zAi
 N:=N
 s₀:=s
 H₀:=H
 env:=qr1
 outer:=outer
 stack:=qr1::outer
 ex:=[]
 calm:=true
 fn:=xA
 pn:=[]
 xe:=λe d=>wpAny vt (A.deeper zAi) (leaving zAi e) (λ_ c=>CX outer H s E e c) (λg c=>CX outer H s E g c) d
def Wm{sc:Scope}{n:Nat}{x:Str}(h:PB=j8):∃c,(cellsFrom n sc.names []).lookup x=sO c:=by
 let q:=Yar sc.names n [] lS;show DY.mp q
def Qee{CX:CXT}{P:Program}{w:World}{K:Nj}{I:Ĕ}{base:Heap}{N ps:Â}{j:Str}{d:Scope}{f:Addr}{cd:Value}{A:Around}{g:ϓ}{s J:Shared}{H:Hp}{E:XK}{us:Ë}{vs:Ö}
  (S:FnScope N ps d) (hd:Ζ) (m:Env0 P w K I base A g s H) (M:qLd) (r:zb7)
  (x:InCallC s s.heap.objs.size (bindL qjf fg ξ) (cellsFrom jO d.names []) (bindC qjf fg ξ) J) :
  Inv (QfS CX P w K I base N j d f cd A g s H E) [] zQ9 H J:=by
 let L:ps.length<=N.length:=by show(qq5,Nh rE xJ)
 let#[F,tk,rfl,hk]:=x.done;let o:∀b:Addr,b∉(QfS CX P w K I base N j d f cd A g s H E).ex:=jt6 z
 refine#[#[m.mod,S.kind,rfl,rfl,Nw _,λy z c F l=>?_,Ô y t,λy c _ h=>?_,λ_=>hd,Around.frames_deeper m.frames,ê ś,jz1,m.bs,m.bsz,λb _ _=>o b,jz1,m.funs,m.frf],
  rfl,m.bare,Un.kept hk,#[_,x.toInCall.ns,ϰ i y v F l U],λy c h=>#[_,x.cell y c h],m.hok.fresh Č,Õ y c h,λp C=>absurd (show p∈([]:Û)from C) Ç,m.hok.kept hk,?_]
 ·show name_of_addr x.apart (D7 F) (D7 l)
 ·let t:zMh=j8\/zMh=A9:=t
  show j6 t
  ·show Wm t
  ·show jJ9 t
 ·show Nq qw5
 ·let D:zUc:=by
   unfold start at l
   by_cases D:zUc
   ·show D
   show jx1 D l
  let Q:aS:=by
   unfold start at l;rw[NF (Ģ D),Nt]at l;cases e:vs[i]? with
   |none=>show â e l
   |some a=>show â e l;rfl
  let#[u,hu,rv]:=r.get Q
  let C:ps[i]?=sO y:=by
   rw[<-S.pre,List.getElem?_take_of_lt (Nf D (Nv M))];show F
  let B:ps.Nodup:=by rw[<-S.pre];show S.nd.sublist xta
  refine#[u,rv,?_]
  rcases S.par y (EI C)with k|k
  ·show Ğ #[k,Ur B C hu k]
  ·let#[c,e]:=Wm (n:=uP) k;show jJ #[Ý k,c,e,?_];let q:=x.cell y c e;rw[U0 B C hu (by apply zMh≠_;rw[k];decide)]at q;show q
 ·show m.hok.fresh (Nq qw5)
 ·unfold start;apply _=N.length;rw[NJ,Nr,List.length_replicate];lia
def Qrp{CX:CXT}{P:Program}{w:World}{K:Nj}{D:Str->Option Value}{base:Heap}{k:Nat}{f:Addr}{name d:Str}{h:Arguments}{body:List Stmt}{a:Scope}{Z kV C pm g ct oc:Value}{an od:Option Addr}
  {L:Array (Option Value)} {N ps:List Str} {sp:Sp} (lk:K.lookup f=sO #[oc,od,.func (DJ name d h body a Z kV C pm an g ct),L]) (X:Lf K g d=true) (S:FnScope N ps a)
  (len:∀vs H Q E,sp vs H Q E->vs.length=ps.length)
  (m:∀(A:Around) (c:List Env) (s:Shared) (H:Hp) (vs:List V) (Q:VK) (E:XK),Room k (A.deeper (envOfC d a s.heap.objs.size f g))->sp vs H Q E ->
   ∃t,PSs (QfS CX P w K D base N d a f g A c s H E) body t/\t { nx:=λ_ j=>Q .non j,rt:=Q } (start N vs) H) :
  FnOk P w K D base CX (k+1) f (DJ name d h body a Z kV C pm an g ct) ps sp:=by
 refine#[len,λA c s H args us vs Q E U B hb r z=>?_];let hl:=len _ _ _ _ z;let KX:K.In s.heap:=B.mod.kin.keeps λb o e=>(B.bs b o e).1;let M:s.heap.NoLimit:=B.mod.nolimit.keeps λb o e=>(B.bs b o e).1
 let l:∀y∈ps.zip us,a.names.lookup y.1=sO .local\/(a.names.lookup y.1=sO .cell/\((cellsFrom (s.heap.objs.size+1) a.names []).lookup y.1).isSome=true):=λ#[n,v] hy=>by
  rcases S.par n (Fp hy).1 with q|q
  ·show .inl q
  ·show .inr #[q,Yar _ _ _ (.inl q)]
 refine codeAny_call_function U.depth (KX _ _ lk) rfl S.co S.gen rfl (PySem.W.codeRec_of KX X) (hb _ _ _ _ ?_);refine wpAny_newFunctionEnv_cells S.kind l λaa he Y x=>?_;subst he;refine#[M.keeps x.toInCall.keep,codeAny_func ?_];let#[t,ht,hq]:=m A c s H vs Q E (U.deeper _) z;let I:Inv (QfS CX P w K D base N d a f g A c s H E) [] (start N vs) H Y:=Qee S U.hd B hl r x;refine Ej (ht [] Y (start N vs) H _ I hq) (λfl F p=>?_) λe F p=>p
 let fin:∀{i:St} {j:Hp} {v:V} {u:Value},Inv (QfS CX P w K D base N d a f g A c s H E) [] i j F->RelV v u->Q v j->CE c P w H s Q u F:=
  λ{i j v u} J rv q=>#[v,j,J.os,J.bare,J.base,J.hok,rv,q]
 cases fl with
 |ret u=>
  let#[v,i,j,J,rv,q]:=p;show fin J rv q
 |next=>
  let#[i,j,J,q]:=p;show fin (v:=V.non) (u:=Value.none) J rfl q
 |brk=>
  let#[_,_,_,q]:=p;show False.elim q
 |cont=>
  let#[_,_,_,q]:=p;show False.elim q
section
variable{X:Cx}{x:Str}{p pos:Pos}{e:Expr}{es:ā}{t:TA}{id T:String}{r:Pe}
abbrev tCB(r:Pe)(t:TA):TE:=qUf t b
def Qig(w:ŀ pO r)(u:Ϭ)(q:vV)(n:ztd)(y:bB)(o:Se:=by decide)(c:ω:=by decide)
  (v:pv:=by rfl) (b:(backTo pos qP).any (·.1)=false:=by rfl):jUh:=by
 show(đ a d Q,quf);refine LS jxd v b;show(ς g l m f,w a j d H1 g i Q I1 l m)
def Qfb(w:ŀ fA r)(u:Ϭ)(q:vV)(n:zte)(y:bB)(o:Se:=by decide)(c:ω:=by decide)
  (v:pv:=by rfl) (b:(backTo pos qP).any (·.1)=false:=by rfl):jUh:=by
 show(đ a d Q,quf);refine Ey jxd v b;show(ς g l m f,w a j d H1 g i Q I1 l m)
#print"-"
#print"-L2"
namespace HT
open PySem PyProof.Rows
section
variable{prog:Program}{w:World}{A:Around}{E:Ñ}{s:Shared}
def cat_tup{t b:Addr}{vs ws:Ë}{Q:Ñ}(p:IsTup s.heap t vs.toArray)(q:IsTup s.heap b ws.toArray)(l:vs≠[])
  (h1:ws=[]->Q p4 s) (h2:ws≠[]->Q ϴ { s with heap:=s.heap.push { cls:=AA,data:=.seq qV0 } })
  (hsz:vs.length+ws.length<=sizeLine):ä (binaryOp .Add p4 Ci):=by
 show zIf i h m p;let#[#[o,g,data2,c],a,f,j,d]:=id q;show zQ1 m f d;let e:vs.toArray++ws.toArray=qV0:=Å
 by_cases hw:ws=[]
 ·show Ybo jCg zkh O1 Ya8 LA Lj ja8
   (tuple_addW1 t b vs.toArray ws.toArray n j dd g i c zki (by simp[hw])) #[h,a,h1 hw]
 ·refine Ybo jCg zkh O1 Ya8 LA Lj ja8
   (tuple_addW2 t b vs.toArray ws.toArray n j dd g i c zki (by simpa using hw) (by rw[Nz,Nz];show hsz)) #[h,a,?_]
  rw[e];show h2 hw
abbrev sIx(n d:Nat):Į->Nat
 |none=>d
 |ã v=>if v<0 then(v+ũ).toNat else qB2
def sIx_none(n d:Nat):sIx n d nO=d:=rfl
def sIx_nat(n d k:Nat):sIx n d (sO Ň)=min k n:=by
 apply(if Ň<0 then(Ň+ũ).toNat else min (k:Int).toNat n)=min k n;rw[if_neg É,Dj]
def QoY(n d:Nat)(hd:d<=n)(o:Į):sIx n d o<=n:=by
 cases o with
 |none=>show hd
 |some v=>
  apply js7<=n
  by_cases a:v<0
  ·rw[Ò a];lia
  ·rw[Ó a];show Dz _ _
def Gu(v:Int)(n d:Nat):(if v<0 then max (v+ũ) 0 else min v ũ)=qs5:=by
 apply _=((js7:Nat):Int)
 by_cases a:v<0
 ·rw[Ò a,Ò a,Int.toNat_eq_max]
 ·let#[k,rfl]:=FU (Int.not_lt.mp a);rw[Ó a,Ó a,Dj]
  rcases Nat.le_total k n with h|h
  ·rw[Yal h,Int.min_eq_left jM8]
  ·rw[YbP h,Int.min_eq_right jM8]
def clip_max(v:Int)(n d:Nat):max 0 (min (if v<0 then v+ũ else v) ũ)=qs5:=by
 rw[<-Gu]
 by_cases a:v<0
 ·rw[Ò a,Ò a,Int.min_eq_left (Il (YaV (Ybm a) n) (Im (O3 _))),Int.max_comm]
 ·rw[Ó a,Ó a,Int.max_eq_right (Int.le_min.mpr #[Int.not_lt.mp a,Ybp n])]
def QbE(lo hi:Į)(n:Nat):js3=(nA,qEb):=by
 let a:¬(yg<0):=cv
 unfold Builtin.Slice.sliceAdjust;simp only[a,if_false];refine Prod.ext ?_ ?_
 ·cases lo with
  |none=>rfl
  |some v=>show Gu v n 0
 ·cases hi with
  |none=>rfl
  |some v=>show Gu v n n
def Qb2(i j:Nat):Builtin.Slice.slicePlaces A5 BP 1=j-i:=by
 unfold Builtin.Slice.slicePlaces;let a:yg>0:=cv
 simp only[a,if_true,Int.ediv_one];split<;>lia
def Y9{v:Value}{o:Į}{Q:Į->Ϸ}(p:IsPart v o)(h:Q o s):ä (Builtin.Slice.slicePartIndex v):=by
 cases p with
 |none=>show slicePart_none h
 |int i t=>show slicePart_int h
def sliceApplied_gen{d:Addr}{vl c:Value}{lo hi:Į}{n:Nat}{Q:Int×Int×Nat->Ϸ}(f:nK d c)(pl:eK)(e:zh6 c)
  (h:Q (nA,1,sIx n n hi-sIx n 0 lo) s):ä (Builtin.Slice.sliceApplied P7 (pure ũ)):=by
 let#[os,a,g,b]:=id f;unfold Builtin.Slice.sliceApplied Builtin.Slice.sliceFields;show(Æ (Na (IJ a b (x:=vl) rfl (Na (IJ a b (x:=c) rfl (Na (IJ a b (x:=.none) rfl ζ)))))),Æ (slicePart_none ?_));apply ń (BF (yg==0));show(zK4,Æ (Y9 pl (Na (Y9 e qI9))));apply ń (match js3 with|(lo,hi)=>pure (lo,yg,Builtin.Slice.slicePlaces lo hi 1));rw[QbE lo hi n];apply ń (pure (nA,yg,Builtin.Slice.slicePlaces nA qEb 1));rw[Qb2];show Nl h
def QhB(xs:Ķ)(i k:Nat):((List.range k).filterMap λ(m:Nat)=>xs[zp0]?).toArray=((xs.toList.drop i).take k).toArray:=by
 let e:(λ(m:Nat)=>xs[zp0]?)=xgc:=by
  funext m;let:zp0=i+m:=Í
  rw[this]
 rw[e];let:=pick_run xs i k;rw[List.filterMap_map]at this;let a:((λx=>xs[x]?)∘λx=>i+x)=xgc:=rfl;rw[a]at this;rw[this]
def getItem_tuple_cut{t c:Addr}{items:Ķ}{vl i:Value}{lo hi:Į}{Q:Ñ}(b:qJ2)(j:nK c i)(pl:eK)(l:zh6 i)
  (hw:¬(iC=0/\kC=items.size))
  (h:Q ϴ { s with heap:=s.heap.push { cls:=AA,data:=.seq jPg } })
  (hsz:zI5):ä (getItem p4 (ú c)):=by
 let a:sizeOk (.seq jPg):=by
  apply((items.toList.drop qj3).take xDa).toArray.size<=sizeLine;rw[Nz,Ez,YbQ,NP];show Nh (Nh xJ T0) hsz
 let n:kC<=items.size:=QoY _ _ Č hi;show jp3 d f o j g c
 show Æ (qw6 b)
 refine Na (EU (name:=qxd) b.typeIs EV
  (jXa b))
 show(jrh b g,Æ (sliceApplied_gen j pl l ?_))
 let e:¬(jQ3=true):=by
  intro q;rw[Eh,Eh]at q;let p:((iC:Nat):Int)=0:=Fl q.1.1;let q2:kC-iC=items.size:=Fl q.2;show hw #[Í,by show EZ n (Nh (İ q2) T0)]
 apply ń (BF jQ3);rw[Ó e,QhB]
 first
  |show Na (m:=mP) qf7
  |show Na (m:=mP) (EA (Na (CG qIb)) a)
  |show Na (Na (m:=mP) (EA (CG qIb) a))
  |show Na (Na (m:=mP) qf7)
#print"-"
#print"-HT"
namespace L2
noncomputable abbrev TO:=St->Hp->(Į->Ŧ)->Prop
abbrev PO(X:Cx)(e:x0)(t:TO):Prop:=
 ∀(a:Û) (s:Shared) (b:St) (H:Hp) (Q:Į->Ŧ),Ż a b->t b H Q ->
  ġ (evalPart e X.env) (λu d=>∃o c,ŕ a b c d/\IsPart u o/\Q o c) s
abbrev Qmv:TO:=λ_ H Q=>Q nO H
abbrev QrV(t:TE):TO:=λa H Q=>t a H λx H1=>∃i,oE/\Q (sO i) H1
section
variable{X:Cx}{e:Expr}{te:TE}{lo hi:x0}{tl th:TO}{pos p2:Pos}
def Qk6:PO X nO Qmv:=by
 show đ a b Q;rw[evalPart_none];show ħ #[nO,H,I,.none,h]
def QlJ(h:To):PO X zf0 (QrV te):=by
 intro a s b H Q I hw;rw[evalPart_some];refine thn (h a s b H _ I hw) (Õ u g c);show(jl7,zk3 i f d,#[sO i,H1,I1,rM,q])
abbrev SlR(X:Cx)(r:V->Į->Į->Be):Prop:=
 ∀(a:Û) (s:Shared) (b:St) (H:Hp) (x:V) (v vl c:Value) (lo hi:Į) (d:Addr) (Q:VK),Ż a b->Ab->nK d c->eK->zh6 c->jeh r ->
  ∃T id,jW1/\xm3/\ġ (getItem v (ú d)) T7 s
def SlR.or{r g:cx}(h:HD r)(h':HD g):HD (λx lo hi H Q=>jeh r\/jeh g):=by
 intro a s b H x v vl c lo hi d Q I f l j i q
 show j6 q
 ·show h a s b H x v vl c lo hi d Q I f l j i q
 ·show h' a s b H x v vl c lo hi d Q I f l j i q
abbrev tSl(r:cx)(te:TE)(tl th:TO):TE:=λa H Q=>te a H λx H1=>tl a H1 λl H2=>th a H2 λu b=>r x l u b Q
def Qhl{r:cx}(z:HD r)(D:To)(B:PO X lo tl)(hu:PO X hi th):Ĺ (mq e qEc) (tSl r te tl th):=by
 show đ a d Q;refine Subscript_ (ji D a d v j f);show ς x m n f;refine wpAny_Slice (thn (B a j d H1 _ I1 n) λvl i f=>?_);show Pi l p f;refine thn (hu a i d H2 _ I2 q2) λvu c f=>?_;show ŏ u g I3 o q3 f;rw[evalPart_none];show zi0;let I4:Inv X a d g { c with heap:=zx3 }:=I3.kept (t':=c.toks) λb ob q=>Ŗ q;let#[T,id,E,y,C]:=z a { c with heap:=zx3 } d g x v vl vu l u c.heap.objs.size Q I4 m (Heap.IsSliceOf.new ..) p o q3;apply wpAny qq X.A (subscriptTail e qEc v (xlf c)) (EP X a d Q) X.xe { c with heap:=zx3 };show tail_any (ops:=[ϋ c,v]) y E C (by with_unfolding_all rfl)
abbrev QgA(xs:Ö)(lo hi:Į):Ö:=jQ0
def K4(xs:Ö)(lo hi:Į):(QgA xs lo hi).length<=xs.length:=by
 unfold QgA;rw[Ez,YbQ];show Nh xJ T0
abbrev Qws(K:Nj):cx:=λx lo hi H Q=>∃a b,Aw/\iH /\
 ¬(zOd b=0/\qOf b=b.length)/\∀p,T6 (Ą p (Ĩ (QgA b lo hi)))
def QoI:HD (Qws X.K):=by
 intro g s u H x v vl w lo hi z Q I l t n m h;let#[a,d,rfl,p,hw,q]:=h;cases l;show qp f r j i p;let c:f.toArray.size=d.length:=qth
 refine qo4;refine HT.getItem_tuple_cut j t n m qGf ?_ (j0 c i);rw[c];show TY #[ϋ s,_,jqc (QgA d lo hi),rfl,zE q] #[Nh (K4 d lo hi) i,_,(r.drop qB3).take (qOf d-zOd d),jg5]
abbrev QrW(K:Nj):R2:=λx y H Q=>∃a b d c,Aw/\y=Ä b/\MQ a d/\MQ b c/\d≠[]/\d.length+c.length<=sizeLine /\
 (c=[]->zN6)/\(c≠[]->∀p,T6 (Ą p (Ĩ jg2)))
def Vals.nil_iff{xs:Ö}{us:Ë}(r:Ι):us=[]↔xs=[]:=by
 cases r with
 |nil=>simp
 |cons _ _=>simp
def QkQ:æ iD (QrW X.K):=by
 intro f s D H x y v u Q I n m h;let#[a,b,l,j,rfl,rfl,C,B,A,i,p,q2]:=h;show(AZ n m,ub t d r C,ub g c p2 B);refine HT.cat_tup r p2 (λz=>A (d.nil_iff.mp z)) (λz=>#[Ä a,H,I,rfl,p (c.nil_iff.mp z)]) zl5 (by rw[<-d.length,<-c.length];show i);show TY #[ϋ s,_,jqc (l++j),rfl,q2 (λw=>z (c.nil_iff.mpr w)) _ (s9 I)] #[by rw[NJ];show i,_,d.append c,jg5]
#print"-"
abbrev ixN(n:Nat)(i:Int):A4:=if 0<=i then(if i<n then sO i.toNat else nO)else if -ũ<=i then sO xtb else nO
abbrev atI{a:Type}(xs:Ø a)(i:Int):Ū a:=(ixN xs.length i).bind λj=>xs[j]?
def QdE{n:Nat}{i:Int}{j:Nat}(h:ixN n i=sO j):seqIndex? i n=sO j/\j<n/\-ũ<=i/\i<n:=by
 unfold ixN at h
 by_cases b:0<=i
 ·rw[Ò b]at h
  by_cases a:i<n
  ·rw[Ò a]at h;let e:i.toNat=j:=N4 h;show#[by rw[seqIndex_of b a,e],Í,Í,a]
  show oA a h
 ·rw[Ó b]at h
  by_cases a:-ũ<=i
  ·rw[Ò a]at h;let e:xtb=j:=N4 h;show#[by rw[Ybq (OR.mp b) a,e],Í,a,Í]
  show oA a h
def Gw{a:Type}{xs:Ø a}{i:Int}{v:a}(h:xgd):∃j,seqIndex? i xs.length=sO j/\xs7/\xte/\-(xs.length:Int)<=i/\zUd:=by
 unfold atI at h;cases e:ixN xs.length i with
 |none=>show â e h
 |some j=>
  rw[e]at h;let#[f,d,c,b]:=QdE e;show#[j,f,h,d,c,b]
def Qmc{a:Type}{xs:Ø a}{j:Nat}{v:a}(h:xs7):atI xs BP=sO v:=by
 let b:xte:=Ü h
 let e:ixN xs.length BP=sO j:=by
  show qec
 unfold atI;show Β e h
abbrev WJ(b:Expr):Prop:=qmf o i b
abbrev IxR(X:Cx)(r:R2):Prop:=
 ∀(value slice:Expr) (a:Û) (s:Shared) (b:St) (H:Hp) (x y:V) (v u:Value) (Q:VK),Ż a b->Ab->ñ y->zec ->
  subscripted slice false v u=xm4 v u->ġ (subscriptTail value slice v u) T7 s
abbrev MtR(X:Cx)(id:String)(r:uf):Prop:=
 ∀(a:Û) (s:Shared) (b:St) (H:Hp) (x:V) (c:Ö) (v:Value) (d:Ë) (Q:VK),ui->Ab->jci->r x c H Q ->
  jld
section
variable{X:Cx}{a b:Expr}{ta tb:TE}{pos:Pos}
def IxR.or{r g:R2}(h:TW r)(h':TW g):TW (qEa g):=by
 intro value slice c s d H x y v u Q I f e q i
 show j6 q
 ·show h value slice c s d H x y v u Q I f e q i
 ·show h' value slice c s d H x y v u Q I f e q i
def Qsf{r:R2}(j:TW r)(m:Tn)(l:vU)(i:WJ b):Ĺ lH tr:=by
 show đ c d Q;show Subscript_ (Qtq m l I h λv u e x y H2 I2 g f q=>j a b c e d H2 x y v u Q I2 g f q (i _ _))
abbrev QuQ(K:Nj):R2:=λx y H Q=>∃p c i v,x=Ä p/\y=Á i/\SqL K H p c/\qLf
abbrev Qt0(K:Nj):R2:=λx y H Q=>∃p c i v,x=Ä p/\y=Á i/\MQ p c/\qLf
abbrev Qt3:R2:=λx y H Q=>∃z i c,x=Ù z/\y=Á i/\zK5/\atI z.cps.toList i=sO c/\Q (Ad w9) H
def ix_list:TW (QuQ X.K):=by
 intro value slice c s n H x y v u Q I D C h o;let#[p,P,i,z,rfl,rfl,E,J,q]:=h;cases D;show á C;let#[l,r,g,S]:=ϒ E;let#[j,d,N,Y,M,L]:=Gw J;show(Ϥ w A f r N,Ž F r);let U:=Yf;let fin:MJ c n w:=#[z,H,I,f,q]
 by_cases e:0<=i
 ·let m:i.toNat=j:=by
   rw[seqIndex_of e L]at d;show N4 d
  show item_listR g.isList e É jy8 fin o
 ·let m:(i+(l.toArray.size:Int)).toNat=j:=by
   rw[Ybq xtc M]at d;rw[Nz,<-F];show N4 d
  show Yas (x:=w) g.isList.typeIs slot_list_getitem.lookup
   (wpAny_getItem_list_neg (Q:=xtf B n) g.isList xtc (by rw[Nz]<;>lia) É jy8 xge) o
def ix_tup:TW (Qt0 X.K):=by
 intro value slice c s e H x y v u Q I m l h o;let#[p,J,i,z,rfl,rfl,A,C,q]:=h;cases m;show(á l,qp n r f L A);let#[j,E,D,S,P,N]:=Gw C;show(Ϥ w F d r D,Ž B r);let M:=Yf;let fin:MJ c e w:=#[z,H,I,d,q]
 show Yas (x:=w) f.typeIs EV.lookup
  (getItem_tuple (j:=j) (Q:=xtf g e) f É É (tE B E) (Ģ F) xge) o
def Qpd:IxR X Qt3:=by
 intro value slice d s B H x y v u Q I g f h l;let#[z,i,c,rfl,rfl,D,n,q]:=h;show jL t g C f;let#[j,e,r,F,p,o]:=Gw n;let m:z.cps.toList.length=z.length:=by simp[Str.length]
 rw[m]at e p o;let E:=Yf
 show tail_any (typeIs_str s z t) slot_str_getitem.lookup (getItem_str (c:=c) (by
  let A:decide (i < -(2^63:Int))=false:=gG;let w:decide (i >= 2^63)=false:=gG
  rw[A,w,Ya9]) (by rw[e];show Aj r) #[Ù w9,H,ų,þ,q]) l
abbrev rIx(K:Nj):R2:=λx y H Q=>QuQ K x y H Q\/Qt0 K x y H Q\/Qt3 x y H Q
def Qqc:TW (rIx X.K):=ix_list.or (ix_tup.or Qpd)
def Qbx(its:Ë)(n j:Nat)(u:Value):Obj.mapSeq (·.setIfInBounds j u) { cls:=Ę,data:=sP }={ cls:=Ę,data:=.seq (its.set j u).toArray n }:=by
 simp[Obj.mapSeq]
def Inv.lst{c:Û}{σ:St}{H:Hp}{s:Shared}{p:Addr}{xs:Ö}(I:ĳ c)(h:qIc) :
  ∃(its:Ë) (n:Nat),Sr/\Ń p=ck/\Bn:=by
 let#[z,its,n,r,e]:=I.hok p _ h;show#[its,n,r,e,z]
def Inv.lstUpd{c:Û}{σ:St}{H:Hp}{s:Shared}{p:Addr}{xs d:Ö}{its its':Ë}{n g:Nat}{f:Obj->Obj}(I:ĳ c)(h:qIc)
  (j:Ń p=ck) (i:f { cls:=Ę,data:=sP }={ cls:=Ę,data:=qLg }) (r:Vals d its') (hz:qO7) (t:Nat) :
  Inv X c σ (Ą p (Ï d)) { s with heap:=dS p f,toks:=t }:=by
 let e:xm5 p f=sO { cls:=Ę,data:=qLg }:=by
  rw[Ep f j (by rw[i]<;>rfl),i]
 refine I.write (x:=p) (e:=p) (by rw[h];trivial) AL (λb u l q=>ze5 (Eb l) q) ja7 ?_;show#[hz,its',g,r,e]
abbrev QnL:qlh:=λo i v H Q=>∃p c k j,o=Ä p/\i=Á k/\H p=Ar c/\ixN c.length k=sO j/\Q (Ą p (zt5 c))
def set_list:QuV X QnL:=by
 intro c s z H o i v F J u Q I B C rv h;let#[p,A,k,j,rfl,rfl,m,E,q]:=h;cases B;show á C;let#[d,n,r,g,D]:=I.lst m;let#[e,M,x,w]:=QdE E;show Ž l r;let L:=Yf
 let y:Inv X c z (Ą p (zt5 A)) { s with heap:=s.heap.update p (Obj.mapSeq (·.setIfInBounds j u)) }:=
  I.lstUpd m g (Qbx d n j u) (r.set rv j) (by rw[Es];show D) s.toks
 by_cases f:0<=k
 ·let hk:k.toNat=j:=by
   rw[seqIndex_of f w]at e;show N4 e
  show PySem.W.ki_setAt g f É (tE l w) qk9
 ·let hk:(k+zAa).toNat=j:=by
   rw[Ybq xtd x]at e;rw[Nz,<-l];show N4 e
  show PySem.W.ki_setBack g xtd (tE l x) É qk9
def UJ(lo hi:Į)(n:Nat):(sliceBounds lo hi nO n).1=((HT.sIx n 0 lo:Nat):Int)/\(sliceBounds lo hi nO n).2.1=((HT.sIx n n hi:Nat):Int)/\(sliceBounds lo hi nO n).2.2=1:=by
 refine#[?_,?_,rfl]
 ·cases lo with
  |none=>rfl
  |some i=>show HT.clip_max i n 0
 ·cases hi with
  |none=>rfl
  |some i=>show HT.clip_max i n n
def Wc(its:Ë)(lo hi:Į):slicePick its.toArray lo hi nO=((its.drop (HT.sIx its.length 0 lo)).take (HT.sIx its.length its.length hi-HT.sIx its.length 0 lo)).toArray:=by
 let#[e,d,c]:=UJ lo hi its.toArray.size;unfold slicePick;rw[e,d,c];simp only[sliceRange_one,pick_run,Nz]<;>rfl
abbrev QvX(K:Nj):cx:=λx lo d H Q=>∃a c,Aw/\Tg c/\∀p,T6 (Ą p (Ï (QgA c lo d)))
def sl_list:HD (QvX X.K):=by
 intro f s u H x v vl w lo e z Q I j t m l h;show MR a d p q h;cases j;show cE n r i g p c;refine#["list",_,slot_list_getitem.lookup,i.isList.typeIs,?_];refine wpAny_getItem_list_slice i.isList t m l .none Ç ?_ (by rw[Nz]<;>show Nh zkf g);rw[Wc,<-c];show TY #[ϋ s,_,I.laid (t':=s.toks) (o:=À (QgA d lo e)) jtd Č ?_,rfl,zE q] #[Nh (K4 d lo e) g,_,0,(r.drop qB3).take (HT.sIx d.length d.length e-zOd d),ŭ]
abbrev Ql5:V->Bool
 |.non=>true
 |.bl _=>true
 |yp=>true
 |BY=>true
 |_=>false
abbrev eqV:V->V->Bool
 |.non,.non=>true
 |.bl a,.bl b=>a==b
 |.bl a,Á b=>qj5
 |Á a,.bl b=>qj6
 |Á a,Á b=>a==b
 |Ù a,Ù b=>a==b
 |_,_=>false
def QoU{A:Around}{s:Shared}{y x:V}{u v:Value}(e:ñ y)(c:Ab)(g:Ql5 y=true)(f:Ql5 x=true):SeqAt.EqAt A s u v (eqV y x):=by
 cases y with
 |non=>
  cases e;cases x with
  |non=>cases c;show SeqAt.EqAt.same _
  |bl b=>cases c;show SeqAt.EqAt.none_bool b
  |int b=>show(á c,SeqAt.EqAt.none_int b t)
  |str b=>show(á c,SeqAt.EqAt.none_str b t)
  |_=>show lN
 |bl a=>
  cases e;cases x with
  |non=>cases c;show SeqAt.EqAt.bool_none a
  |bl b=>cases c;show SeqAt.EqAt.bool_bool a b
  |int b=>show(á c,SeqAt.EqAt.bool_int a b t)
  |str b=>show(á c,SeqAt.EqAt.bool_str a b t)
  |_=>show lN
 |int a=>
  show Ĵ d e;cases x with
  |non=>cases c;show SeqAt.EqAt.int_none a d
  |bl b=>cases c;show SeqAt.EqAt.int_bool a d b
  |int b=>show(á c,SeqAt.EqAt.int_int a d b t)
  |str b=>show(á c,Ybj a d b t)
  |_=>show lN
 |str a=>
  show Ĵ d e;cases x with
  |non=>cases c;show SeqAt.EqAt.str_none a d
  |bl b=>cases c;show SeqAt.EqAt.str_bool a d b
  |int b=>show(á c,Ybk a d b t)
  |str b=>show(á c,SeqAt.EqAt.str_str a d b t)
  |_=>show lN
 |_=>show ý (show zb8 from g) N9
def call_len_seq:ŀ zL8 (λxs H Q=>∃p d,zOc/\(Mf p d\/TF p d)/\Q (.int d.length) H):=by
 intro j s n H xs o Q I r h;show(MR p d e q h,qf l r);let t:=Yf
 show j6 e
 ·show cE i f g m e c;show Calls.call_len_list g.isList (by simp only[Nz]<;>lia) ju1
 ·show(qp i f g m e,Ž c f);show len_tuple g (by simp only[Nz]<;>omega) ju1
def Uy:ŀ zL8 (λxs H Q=>∃z,xs=[Ù z]/\zK5/\Q (.int z.length) H):=by
 intro c s d H xs e Q I r h;let#[z,rfl,f,q]:=h;let#[u,rfl,t,rfl]:=Xm r;let g:=Yf;show len_str É #[aD z,H,ų,þ,q]
def CallR.or{f:Value}{r i:Pe}(h:ŀ f r)(h':ŀ f i):ŀ f (λxs H Q=>r xs H Q\/i xs H Q):=by
 intro c s d H xs e Q I g q
 show j6 q
 ·show h c s d H xs e Q I g q
 ·show h' c s d H xs e Q I g q
def Ks:ŀ i7 (λxs H Q=>∃p g,zOc/\(Mf p g\/TF p g)/\∀l,H l=nO->Q zl3 (Ą l zl2)):=by
 intro t s C H xs E Q I r h;show(MR p g x q h,qf D r)
 let fin:∀(c:Ë),Vals g c->g.length<=sizeLine->∀(f:Heap) (m:Nat),(∀b B,Ń b=sO B->B4 f b=sO B) ->
   zL0 f=sO { cls:=Ę,dict:=nO,data:=.seq c.toArray m,slots:=#[] }->EP X t C Q ϴ { s with heap:=f }:=λc i j f m v e=>
  #[ϋ s,_,I.laid (t':=s.toks) v Č (m8 f zl2 #[j,c,m,i,e]),rfl,zE q]
 show j6 x
 ·show cE c i y j x d;let#[o,z,A,n,hd]:=y.isList;show jQd AL
 ·show(qp c i y j x,Ž d i);let#[o,z,A,n,hd]:=y;show jQd xh
def WY:ŀ zM9 (λxs H Q=>∃p f,zOc/\((Mf p f/\∀l,H l=nO->Q zl3 (Ą l zkg))\/(TF p f/\Q p5 H))):=by
 intro c s v H xs A Q I r h;let#[p,f,rfl,h]:=h;show qf y r
 rcases h with⟨t,q⟩|⟨t,q⟩
 ·show cE d j m n t g;refine call_tuple_list m.isList (jf i z) (by simp only[Nz]<;>show Nh ou n);let I1:i3 c v i:=I.kept (t':=s.toks) z
  let I2:Inv X c v (upd H i.objs.size zkg) { s with heap:=i.push { cls:=AA,data:=.seq d.toArray } }:=
   I1.laid (t':=s.toks) (λb o e=>Ŗ e) Č (k9 zkg #[n,d,j,jg5])
  show#[.ref i.objs.size,_,I2,rfl,q _ (s9 I1)]
 ·show(qp d j m n t,call_tuple_same m #[Ä p,H,I,rfl,q])
abbrev tyV(K:Nj)(T:String)(x:V)(H:Hp):Prop:=match x with
 |BY=>T="str"
 |yp=>T="int"
 | Ä p=>(T="list"/\∃d,xsi)\/(T="tuple"/\∃o,Ac p=sO o/\cO/\o.dict=nO) \/
   (T="dict"/\((∃c,H p=sO (.dK c))\/∃c,H p=sO (.dT c)))\/(T="set"/\∃S n,H p=sO (.set S n))
 |_=>False
def QiY{f:Û}{σ:St}{H:Hp}{s:Shared}{T:String}{x:V}{v:Value}(I:ĳ f)(r:Ab)(ty:tyV X.K T x H) :
  xm3/\∀a,ψ->∃ob,Ń a=sO ob/\ob.dict=nO:=by
 cases x with
 |str z=>
  show(á r,ì (show T="str"from ty) #[typeIs_str s z t,jle])
 |int i=>
  show(á r,ì (show T="int"from ty) #[typeIs_int s i t,jle])
 | ref p=>
  cases r
  rcases ty with⟨rfl,u,m⟩|⟨rfl,o,hk,q,hd⟩|⟨rfl,hk⟩|⟨rfl,S,n,hk⟩
  ·let#[l,_,j,_]:=ϒ m;refine#[j.isList.typeIs,Ô a e];cases e;let#[o,n,e,c,hd,_]:=j;show#[o,e,hd]
  ·refine#[#[o,I.kIn p o hk,q],Ô a e];show ì e #[o,I.kIn _ o hk,hd]
  ·let z:∃o,Ń p=sO o/\o.ExactDict:=by
    rcases hk with⟨g,hk⟩|⟨g,hk⟩
    show qba
    show qba
   show(Ů o e d z,jri)
  ·let#[o,_,_,_,e,d,_]:=xm6;show jri
 |_=>show False.elim ty
abbrev Qwx(K:Nj)(T:String)(r:uf)(d:TE):TE:=λc H Q=>d c H λx H1=>xm7/\r x [] H1 Q
abbrev tBM(K:Nj)(T:String)(r:uf)(e:TE)(t:TA):TE:=λc H Q=>e c H λx H1=>xm7/\t c H1 λd H2=>r x d H2 Q
variable{o e:Expr}{es:ā}{to:TE}{t:TA}{name:Str}{apos cpos:Pos}{T id:String}{r:uf}
def Qon(p:db)(slot:rZ)(g:pB)(u:MtR X id r)(q:PE X o to)
  (f:sk:=by rfl) (d:mr:=by rfl):Ĺ jZ6 (Qwx X.K T r to):=by
 show đ c i Q;refine wpAny_Call_method0_late f d (ji q c i v m l);let#[x,H1,I1,j,ty,n]:=l;let#[y,w]:=QiY I1 j ty;show#[T,id,p,slot,g,y,w,Yat rfl (PySem.evalArgs_none (u c m i H1 x [] v [] Q I1 j .nil n))]
def Qtg(B:db)(slot:rZ)(m:pB)(E:MtR X id r)(D:PE X o to)(F:bB)
  (g:sk:=by rfl)
  (i:(jP7
   && decide jRe)=true:=by rfl)
  (f:mr:=by rfl) (C:pv:=by rfl) (d:(backTo cpos qP).any (·.1)=false:=by rfl) :
  Ĺ jWh (tBM X.K T r to t):=by
 show đ c j Q;refine wpAny_Call_method_late g i f rfl (ji D c j v y l);let#[x,H1,I1,n,ty,A]:=l;let#[L,J]:=QiY I1 n ty;refine#[T,id,B,slot,m,L,J,?_];let p:=F cpos c y j H1 _ I1 A;rw[C]at p ⊢;refine Yat (by apply(false ||(backTo cpos qP).any (·.1))=false;rw[d]<;>rfl) (Calls.evalArgs_plain ?_);refine thn p (Õ u w l);show(Pi q z l,E c w j H2 x q v u Q I2 n z q2)
#print"-"
abbrev MtM(X:Cx)(id:String)(r:uf):Prop:=
 ∀(a:Û) (s:Shared) (b:St) (H:Hp) (x:V) (c:Ö) (v:Value) (d:Ë) (Q:VK),ui->Ab->jci->r x c H Q ->
  jld
def Vals.one{x:V}{us:Ë}:Mz [x]->jAh:=by
 rintro(_|⟨r,_|_⟩);show xs5
def Vals.zero:∀{us:Ë},Vals [] us->us=[]
 |_,.nil=>rfl
def Vals.dropLast{xs:Ö}{us:Ë}(h:Ι):Vals xs.dropLast us.dropLast:=by
 induction h with
 |nil=>show .nil
 |cons r t a=>
  cases t with
  |nil=>show .nil
  |cons q b=>show ĉ r a
def Vals.eraseIdx:∀{xs:Ö} {us:Ë} (i:Nat),Ι->Vals (xs.eraseIdx i) (us.eraseIdx i)
 |_,_,_,.nil=>.nil
 |_,_,0,zZf=>t
 |_,_,i+1,ĉ r t=>ĉ r (Vals.eraseIdx i t)
def Vals.reverse{xs:Ö}{us:Ë}(h:Ι):Vals xs.reverse us.reverse:=by
 induction h with
 |nil=>show .nil
 |cons r t a=>rw[Lq,Lq];show Vals.append a (du r)
def Qbv{c:Type}(l:Ø c):l.eraseIdx (l.length-1)=l.dropLast:=by
 induction l with
 |nil=>rfl
 | cons a r d=>
  cases r with
  |nil=>rfl
  | cons b r=>
   let e:qV1-1=(xgf-1)+1:=by
    let g:qV1=r.length+2:=rfl;let f:xgf=r.length+1:=rfl;show rfl
   rw[e,List.eraseIdx_cons_succ,d]
   all_goals rfl
section
variable{X:Cx}{pins:Û}{σ:St}{H:Hp}{s:Shared}{l b:Addr}{xs ys zs:Ö}
def Inv.lset{its its':Ë}{n:Nat}{f:Ķ->Ķ}{t':Nat}(I:ß)(g:zU3)
  (e:Ń l=ck) (c:f its.toArray=its'.toArray) (a:Vals ys its') (hz:qLh) :
  Inv X pins σ (Ą l xtg) { s with heap:=dS l (zTd f),toks:=t' }:=by
 let q:=YbR e f;rw[c]at q;refine I.write (x:=l) (e:=l) (by rw[g];show trivial) AL (λh u d hu=>(EJ s.heap (zTd f) (Eb d)).trans hu) #[_,q] ?_;show#[hz,its',_,a,q]
def Inv.lnew{its:Ë}{t':Nat}(I:ß)(a:Vals ys its)(hz:qLh) :
  Inv X pins σ (upd H s.heap.objs.size xtg) { s with heap:=s.heap.push { cls:=Ę,data:=.seq its.toArray },toks:=t' }:=
 I.laid zp1 Č #[hz,its,0,a,ŭ]
def Inv.fresh(I:ß):H s.heap.objs.size=nO:=I.hok.fresh Č
def Inv.lstM(I:ß)(a:zU3):Bn/\∃(its:Ë) (n:Nat),Sr/\xs.length=its.length/\Ń l=ck:=by
 let#[z,its,n,r,e]:=I.hok l _ a;show#[z,its,n,r,r.length,e]
def Qba{n:Nat}(h:zUe):Builtin.List.listTooLong n=false:=by
 unfold Builtin.List.listTooLong;show decide_eq_false (N6.mpr h)
#print"-"
section
variable{X:Cx}
abbrev QlC:uf:=λx b H Q=>∃l a y,pp/\b=[y]/\H l=Ar a/\uR/\Q .non (Ą l (Ï (a++[y])))
def Qez:MtM X "list.append" QlC:=by
 intro b s m H x p v t Q I g rv h;let#[l,o,y,rfl,rfl,f,d,q]:=h;show(zM2 g i,cz a j f);refine Lg LU p7 Ybf xth (YbE l a.toArray n u (by rw[Nz];show Nq (Ni (İ j) d))) (HA e);refine#[.non,_,zTe a [u] f (r.append (du i)),rfl,q];rw[NJ,Er];show d
abbrev Qna:uf:=λx d H Q=>∃l b c a,pp/\d=[Ä b]/\H l=Ar c/\H b=Ar a/\qw3/\Q .non (Ą l jJa)
def QdI:MtM X "list.extend" Qna:=by
 intro g s C H x J v L Q I m rv h;let#[l,b,F,D,rfl,rfl,j,hB,w,q]:=h;show zM2 m o;cases o;show cz c A j;let#[E,a,t,p,y,B]:=I.lstM hB;show qf1
 let d:jQ4:=by
  rw[Qba f,Fb];show N9
 refine Lg Io p7 Ybg xti
  (AutoSeq1.list_extend_list_list_0 l c.toArray n b a.toArray t d (zTf (İ A)) qAf) #[e,B,?_]
 refine#[.non,_,zTe c a j (r.append p),rfl,q];rw[NJ];show w
abbrev Qwl:uf:=λx b H Q=>∃l a y,pp/\b=[]/\H l=Ar a/\a[zXc]?=sO y/\Q y (Ą l (.lst a.dropLast))
def QoQ:MtM X "list.pop" Qwl:=by
 intro d s p H x w v A Q I j rv h;let#[l,t,y,rfl,rfl,i,o,q]:=h;cases j;let c:=rv.zero;subst c;show cz a g i;let#[u,hu,m]:=r.get o
 let b:a.toArray[a.toArray.size-1]?=sO u:=by
  apply a.toArray[zXc]?=sO u;rw[<-NT,<-g];show hu
 refine Lg Ybr p7 F.entry_list_pop (F.args_list_pop_1 _) (MeetsSeq.list_pop_last l a.toArray n u b (zTf ou)) (HA e);refine#[y,_,I.lset (its':=a.dropLast) i e ?_ r.dropLast ?_,m,q]
 ·apply a.toArray.eraseIdxIfInBounds (a.toArray.size-1)=a.dropLast.toArray;rw[Nz,List.eraseIdxIfInBounds_toArray,Qbv]
 ·rw[List.length_dropLast];show Nh T0 z
abbrev Qwt:R2:=λx y H Q=>∃l b c a,pp/\y=Ä b/\H l=Ar c/\H b=Ar a/\qw3/\∀p,T6 (Ą p jJa)
def Qpa:OpR X iD Qwt:=by
 intro d s w H x y v u Q I g f h;let#[l,b,C,A,rfl,rfl,o,hB,j,q]:=h;show(AZ g f,cz c F o);let#[B,a,E,i,m,t]:=I.lstM hB;refine PySem.P.add_list e t ?_ (by rw[Nz,Nz];omega);let p:c.toArray++a.toArray=(c++a).toArray:=Å
 show Β p #[Hx,_,I.lnew (t':=s.toks) xc0 (by rw[NJ];show j),rfl,q _ I.fresh]
#print"-"
#print"-L2"
namespace Att
open PySem PySem.W PySem.Calls PyProof.Rows
def Yq{P:Params}{h:Heap}:∀(ns:Ũ) (vs:Ë),WellAll P h vs qJ6->fN:=by
 intro ns
 induction ns with
 |nil=>
  intro vs w;rw[Dl]at w;show zj0 w
 | cons n ns c=>
  intro vs w;rw[NB]at w;cases w with
  |cons a b=>
   cases a;show .cons _ _ (c _ b)
def QfE{l:OpenLaw}{n:Nat}(u:zUf){P:Params}{h:Heap}{args:List WData}{vals:Ë}
  (b:l.row.toRowW.claim.pre args=true) (i:WellAll P h vals args) :
  ∃a vs ns,vals=[jQ a]/\args=[WData.list qJ6]/\ő a=zne/\fN/\eN:=by
 let j:WShape.hasAll [] args [.list .int]=true:=(pre_splitW b).1;let m:l.pre.holds [] { args:=args }=true:=(pre_splitW b).2;let#[d,r,rfl,x,w]:=hasAllW_cons j;obtain rfl:=hasAllW_nil w;let#[y,rfl,v]:=hasW_list x;let#[ns,rfl]:=items_int v
 let c:eN:=by
  unfold OpenLaw.pre at m
  let g:(WTm.not (.lt (.lit (.int ũ)) (.len (.arg 0)))).holds [] { args:=[.list pJ] }=true:=by
   let g:=(holds_andW m).1;rw[u]at g;show g
  let f:=condW_of g (w_not (w_lt w_lit (w_len_list (w_arg rfl))));rw[Nr]at f;refine Nat.le_of_not_lt (è q);let s:ũ<(xc1:Int):=ć
  first
   |(rw[vv s]at f;show ý f Ð)
   |(simp at f;omega)
 cases i with
 |cons p o=>
  cases o;cases p with
  |list t e=>show#[_,_,ns,rfl,rfl,t,Yq ns _ e,c]
def QeC(l:OpenLaw)(args:List WData):l.row.toRowW.claim.post args nu args=true:=
 postW_of (r:=l.row.toRowW) (X:=xc2)
  (show WShape.has [] nu .bool=true by first|rfl|decide|simp[WShape.has,WShape.arms,WShape.armsAll])
  (show(WTm.eq .res (.lit nu)).value [] { args:=args,res:=sO nu,after:=args }=sO (yv xc2)from w_eq_bool (w_res rfl) w_lit) rfl
def attach_call{l:OpenLaw}{n:Nat}{q:Program}{e:Â}{C:jz2}{B:World->iX}{d:DefRec}
  (H:zUf) (y:zI6)
  (call:∀(w:World) (c b:Shared) (t u:Ĕ) (p:Addr) (o:Obj) (pm cd h:Value) (a:Addr) (vs:Ë) (ns:Ũ),
   Ground q e [] C w c t u b.heap->B w b.heap ->
   BM b p=sO o->o.data=.func (docDef d.name d.params d.body d.scope pm cd h)->b.heap.CodeRec cd d.name->t d.name=υ p ->
   BM b a=zne->fN->eN->b.gens=#[] ->
   codeAny (model l.prog w) callerA (.call p5 zk0) (jQa s b) b) :
  WalkO q e C B l.row.toRowW d [] zJ2:=by
 intro w c b t u G Y p o pm cd h Q kV F hd z hD x L args vals as i A D v J;obtain rfl:Q=.none:=Dflts.none hD y;obtain rfl:kV=.none:=Dflts.noKw hD;let#[a,vs,ns,rfl,rfl,j,g,m]:=QfE H i v;refine enter_call (Fk (call w c b t u p o pm cd h a vs ns G Y F (fd_plain hd) z x j g m L) (Õ r s E));let#[rfl,P,N,M]:=E;show#[Ý #[zXd,zXd,[],rfl,Λ,zXd,QeC l _,λ_=>#[List.Pairwise.nil,λ_ I=>(M4 I)]],P,N,M]
#print"-Att"
namespace L2
def QcW{vs:Ë}{ns:Ũ}(h:fN):Vals P9 vs:=by
 induction h with
 |nil=>show .nil
 |cons _ t _ i=>show ĉ Sd i
abbrev Qs8(H:Hp):Prop:=∀b,ϫ\/∃o a,H b=sO (.frz o lW)
def Qht{P:Program}{w:World}{K:Nj}{t N:Ĕ}{CX:CXT}{k:Nat}{X a:Addr}{fd:FuncData}{x:Str}{sp:Sp}{c:Shared}{vs:Ë}{ns:Ũ}
  (KX:K.In c.heap) (C:c.heap.Ns mainGlobals t) (g:c.heap.Ns builtinsNs N) (S:∀x:Str,Se->N x=kf) (D:c.heap.NoLimit) (hg:c.gens=#[])
  (L:BM c a=zne) (hi:fN) (Z:qLb) (hr:zP3)
  (F:∀base:Heap,K.In base->zN7 t->FnOk P w K t base CX k X fd [x] sp) (l:∀(s:Shared) (u:Value),qf6)
  (Q:∀H:Hp,Qs8 H->Tg P9->sp yF H jFi zP4)
  (U:∀H e i,CX [] H c qOg e i->False) :
  jOc:=by
 let rv:=QcW hi;let y:=hi.length
 let core:∀H:Hp,Qs8 H->Tg P9->jhi H c->(∀b,H b≠nO->b=a)->(H a≠nO->Ac a=nO) ->
   jOc:=by
  intro H hO hS B hA hK;let f:∀{b:Addr} {o:Obj},jlg->ϫ->(Qhc c.heap H).get? b=sO o:=λe n=>Qg9 e n
  let M:∀{b:Addr} {o:Obj} {I:fy} {J:Nat},jlg->o.data=.dict I J->ϫ:=λ{b o I J} e d=>by
   cases q:H b with
   |none=>rfl
   |some u=>
    show(qjg,â L e);let d':Data.seq vs.toArray _=Data.dict I J:=d;cases d'
  let j:∀{b:Addr} {m:Ĕ},c.heap.Ns b m->(Qhc c.heap H).Ns b m:=λ{b m} #[o,I,J,e,d,r]=>#[o,I,J,f e (M e d),d,r]
  let E:K.In zNh:=λb o e=>f (KX b o e) (by
   cases q:H b with
   |none=>rfl
   |some u=>
    show qjg
    rw[hK (yZ q)]at e;cases e)
  let hM:Mod K t zNh:=#[E,j C,#[N,j g,S],let#[mc,h1,h2]:=D;#[mc,j h1,h2]]
  let e0:Env0 P w K t zNh callerA [] c H:=#[rfl,hM,λb o e=>Qne e,Nv (QcJ _ _),trivial,jt6 g,B,.of_eq hg]
  refine Fk ((F _ E (j C)).run callerA [] c H zk0 yF yF _ _ hr e0 (l c Ġ) (.cons rfl .nil) (Q H hO hS)) (Õ r i h);cases r with
  |error e=>show(U H e i h).elim
  | ok fl=>
   cases fl with
   |next=>show CZ h
   |brk=>show CZ h
   |cont=>show CZ h
   | ret u=>
    let#[v,H',os,bare,un,A,r',q]:=h;let q':v=Ϣ:=q;subst q';obtain rfl:u=Value.bool true:=r';refine#[rfl,OldK.of_keep (Õ b o e),os,bare];cases q:H b with
    |none=>show un.keep b o e q (by intro z;show ý jvi Ç) Ç
    |some u=>
     rcases hO b with z|⟨ob,xs,z⟩
     ·show â q z
     ·let z2:=un.frzs b ob _ z;let#[e1,_]:=B b _ z;let#[e2,_]:=A b _ z2;rw[e]at e1;show Χ e1 e2
 cases hk:Ac a with
 |some o=>
  let e:=KX a o hk;show â L e;refine core zX8 (λ_=>SH) (Υ #[_,vs.toArray,_,hk,rfl,rfl,rfl,by rw[Nz,y];show Z,by simpa using rv]) (λb u z=>by let p:(nO:zd4)=sO u:=z;cases p) (λb z=>CV z) λz=>CV z
 | none=>
  refine core (λb=>if b=a then sO (.frz { cls:=Ę,data:=zCe } (Ï P9))else nO) (TV b) (΢ (Υ #[{ cls:=Ę,data:=zCe },į])) (Ak b u z) (jf b z) λ_=>hk
  ·show Ě g b a
   ·show Ć #[_,_,Ò g]
   ·show Ý xmb
  ·show Ě g b a
   ·let p:=(if_pos g).symm.trans z;cases p;show Ao g #[L,zK8 Z,vs,_,rv,L]
   ·let p:=(if_neg g).symm.trans z;cases p
  ·show Ě g b a
   ·show g
   ·show ý xmb z
noncomputable abbrev KOf{K:Nj}{h:Heap}(_:TQ):Nj:=K
def QmP{l:PySem.W.OpenLaw}{n k:Nat}{q:Program}{i:Â}{X:jz2}{I:World->iX}{d:DefRec}{K:Params->Nj}{CX:World->CXT}{sp:World->Sp}{x:Str}
  (L:zUf) (A:zUe) (C:zI6) (J:zP3)
  (Q:∀(w:World) (h:Heap),I w h->br)
  (F:∀(w:World) (m:Ĕ) (t:Addr) (h:Heap),br->S9 m->m d.name=υ t ->
   ∃fd:FuncData,(∀(s:Shared) (u:Value),qf6) /\
    ∀base:Heap,qJ7->zN7 m->FnOk l.prog w fZ m base (CX w) k t fd [x] (sp w))
  (z:∀(w:World) (H:Hp) (a:Addr) (ns:Ũ),eN->Qs8 H->SqL fZ H a P9->sp w yF H jFi zP4)
  (D:∀(w:World) (H:Hp) (s:Shared) (e:Value) (y:Shared),CX w [] H s qOg e y->False) :
  Yb5 q i X I l.row.toRowW d [] zJ2:=by
 refine Att.attach_call L C λw E p m Z t o pm cd U a vs ns G Y ho hd N B r j c M=>?_;let KX:=Q w _ Y;let#[fd,P,hF]:=F w m t _ KX G.T.g B;show Qht KX G.T.g G.T.b G.T.builtins G.T.nolimit M r j (Nh c A) J hF P (λH S hS=>z w H a ns c S hS) λH e y=>D w H p e y
abbrev XZ(s:Stmt)(j:Nat):Stmt:=match s with
 |.ClassDef _ _ _ body _ _ _ _ _ _ _=>body.getD j qo5
 |_=>.Pass qB4
abbrev Vh(s:Stmt):Arguments:=match s with
 |.FunctionDef _ a _ _ _ _ _ _ _ _=>a
 |_=>{ posonlyargs:=[],args:=[],vararg:=nO,kwonlyargs:=[],kw_defaults:=[],kwarg:=nO,defaults:=[] }
abbrev ZP(s:Stmt):jw:=match s with
 |.FunctionDef _ _ b _ _ _ _ _ _ _=>b
 |_=>[]
abbrev Qo(s:Stmt):Scope:=match s with
 |.FunctionDef _ _ _ _ _ _ sc _ _ _=>sc
 |_=>{ kind:=.function,names:=[],isGenerator:=false,isCoroutine:=false }
noncomputable abbrev CX0:CXT:=λ_ _ _ _ _ _=>False
noncomputable abbrev E0:XK:=zP4
def Qhy{X:Cx}:XE CX0 X E0:=qyh
structure Fun(K:Nj)(x qual:Str)(st:Stmt)(f:Addr)(fd:FuncData):Prop where
 ex:∃(oc:Value) (od:BC) (kV doc pm:Value) (an:BC) (cdv ct:Value) (osl:kJ),
  fd=DJ x qual xi BL jr .none kV doc pm an cdv ct/\Ac f=qw7/\Lf K cdv qual=true
 kp:i6
section
variable{P:Program}{w:World}{K:Nj}{mg:Ĕ}{base:Heap}
def Fun.ok{x b:Str}{st:Stmt}{f:Addr}{fd:FuncData}{N ps:Â}{k:Nat}{sp:Sp}(F:tY b)(S:kB)(len:qi1)
  (d:∀(c:Value) (A:Around) (a:ϓ) (s:Shared) (H:Hp) (vs:Ö) (Q:VK) (E:XK),pH k b c->aQ ->
   ∃t,PSs (QfS CX0 P w K mg base N b jr f c A a s H E).nox BL t/\t { nx:=λ_ m=>Q .non m,rt:=Q } zQ9 H):FnOk P w K mg base CX0 (k+1) f fd ps sp:=by
 let#[o,n,kV,l,pm,p,c,ct,i,rfl,lk,g]:=F.ex;refine Qrp lk g S len λA a s H vs Q E j e=>?_;let#[t,h,q]:=d c A a s H vs Q E j e;show#[t,h.nox,q]
def Fun.binds{x a:Str}{st:Stmt}{f:Addr}{fd:FuncData}{ps:Â}(F:tY a)
  (h:∀(kV b pm:Value) (d:BC) (c ct:Value) (us:Ë),zA8 (zn3 a b d c)):iy:=by
 let#[j,i,kV,b,pm,d,c,ct,e,rfl,lk,g]:=F.ex;show .all (h kV b pm d c ct)
def Qa8{x a:Str}{st:Stmt}{f:Addr}{i:Value}{h g:BC}{e:kJ}{kV d pm b ct:Value}(l:Ac f=sO #[i,h,.func jk3,e])
  (c:Lf K b a=true) (k:i6):Fun K x a st f jk3:=#[#[i,h,kV,d,pm,g,b,ct,e,rfl,l,c],k]
#print"-"
def Qnj{A B:Prop}(h:B):if zb8 then A else B:=by
 rw[Ó N9];show h
def Qnk{A B:Prop}(h:A):if true=true then A else B:=by
 rw[į];show h
section
variable{κ:Type}[xl κ]
abbrev U7(a:jY)(k:κ):Ū V:=(a.find? l5).map (·.2)
abbrev Ua(a:jY)(k:κ)(v:V):jY:=
 jQ8
def QhS{p:κ×V}{r:jY}{k:κ}(e:p.1=k):xt7=u5:=qV2
def Qg8{p:κ×V}{r:jY}{k:κ}(e:¬p.1=k):xt7=U7 r k:=qV2
def Xs(a:jY)(k:κ)(v:V):(Ua a k v).length<=zX9:=by
 unfold Ua;show zk6
def RelO.isSome_eq{o:Ū V}{u:vo}(r:RelO o u):o.isSome=u.isSome:=by
 cases o with
 |none=>cases u with
  |none=>rfl
  |some _=>show qO r
 |some _=>cases u with
  |none=>show qO r
  |some _=>rfl
def RelO.getD{o:Ū V}{u:vo}{d:V}{d':Value}(r:RelO o u)(a:š d d'):RelV xmc (u.getD d'):=by
 cases o with
 |none=>cases u with
  |none=>show a
  |some _=>show qO r
 |some _=>cases u with
  |none=>show qO r
  |some _=>show r
def KV.val{a:jY}{vs:AD κ}(r:zgb)(k:κ):RelO (U7 a k) (valueAt vs k):=by
 unfold KV at r
 induction r with
 |nil=>show zee
 | @cons p q j c h t g=>
  show Đ f i h
  show Pf
  ·let d:q.1=k:=f.symm.trans e;let b:qGg=sO q.2:=qGh
   rw[QhS e,b];show i
  ·let d:¬q.1=k:=pd e f;let b:qGg=valueAt c k:=qGh
   rw[Qg8 e,b];show g
def KV.any{a:jY}{vs:AD κ}(r:zgb)(k:κ):jw7=vs.any l5:=by
 unfold KV at r
 induction r with
 |nil=>rfl
 |cons h t c=>rw[D4,D4,c,h.1]
def KV.repl{b:jY}{vs:AD κ}(r:jf6)(k:κ){y:V}{u:Value}(d:ñ y) :
  KV (b.map λa=>qB a y) (vs.map λa=>qB a u):=by
 unfold KV at r ⊢
 induction r with
 |nil=>show .nil
 |@cons p q j i h t f=>
  show(rg f,Đ c g h)
  show Pf
  ·rw[Ò e,if_pos (c.symm.trans e)];show B3 c d
  ·rw[Ó e,if_neg (λz=>e (Ē c z))];show B3 c g
def KV.put{a:jY}{vs:AD κ}(r:zgb)(k:κ){y:V}{u:Value}(b:ñ y):KV (Ua a k y) (stored vs k u):=by
 unfold Ua stored;rw[r.any k]
 by_cases e:(vs.any (uC c k))=true
 ·rw[Ò e,Ò e];show r.repl k b
 ·rw[Ó e,Ó e];show Yau r (ϔ b)
def KV.length{a:jY}{vs:AD κ}(r:zgb):a.length=vs.length:=Ec r
#print"-"
def Qai{P:Program}{w:World}{k:Key}{u:Value}(r:ñ zh7):(ZY P w).is k u=true:=by
 cases k with
 |inl i=>show jr7;subst e;show Gg P w i t
 |inr x=>show jx0;subst e;show GB P w x t
section
variable{P:Program}{w:World}{H:Hp}{h:Heap}{a:Addr}
def QsY{u:HO}(ok:CT)(e:MV u):iJ u:=e.ok ok
def Qcv{b:ü V}(ok:CT)(e:MV zp):zw5:=
 show iJ zp  from QsY ok e
def QlW{b:ü V}(ok:CT)(e:rV):zw5:=Qcv ok (Ş e)
#print"-"
abbrev DGet(H:Hp)(a:Addr)(y:V)(r:Ū V):Prop:=∃b k,MV zp/\y=kV k/\r=U7 b k
abbrev DPut(H:Hp)(a:Addr)(y v:V)(c:Hp):Prop:=∃b k,rV/\y=kV k/\zL9/\c=upd H a qCh
def DGet.k{H:Hp}{a:Addr}{b:ü V}{k:Key}(e:rV):DGet H a zh7 (U7 b k):=#[b,k,Ý e,rfl,rfl]
def DPut.k{H:Hp}{a:Addr}{b:ü V}{k:Key}{v:V}(e:rV)(c:zL9):DPut H a zh7 v (Ą a qCh):=#[b,k,e,rfl,c,rfl]
section
variable{X:Cx}{pins:Û}{σ:St}{H:Hp}{s:Shared}{a:Addr}{y v:V}{u r:Value}{o:Ū V}{A:Around}{E:Ñ}
def Inv.big(I:ß):sysModules<s.heap.objs.size:=by
 let h:mainGlobals<s.heap.objs.size:=(I.mod.glob.keeps I.bk).lt;show NZ Ð h
def Qeh{Q:Ñ}(hu:cP)(I:ß)(g:DGet H a y θ)(f:ñ y)(h:∀w' c,CO H c->š v w'->Q w' c) :
  uA (getItem Ġ u):=by
 show gZ i j d;let#[w',hw,b]:=RelO.some_of (v:=v) (o:=valueAt d k) (by rw[l];show rel.val k);show wpAny_getItem_of (Qai f) dd.mapOf hw (h w' _ zEi b)
def QwX{Q:Ñ}(hu:cP)(I:ß)(g:eO)(c:ñ y)(h:∀b,CO H b->Q (.bool o.isSome) b) :
  uA (compareOp .In u Ġ):=by
 show gZ d f i;refine wpAny_in_of jd1 hd dd.mapOf ?_;show qgi
def Qmi{Q:Ñ}(hu:cP)(I:ß)(g:eO)(c:ñ y)(h:∀b,CO H b->Q (yv (!o.isSome)) b) :
  uA (compareOp .NotIn u Ġ):=by
 show gZ d f i;refine wpAny_notIn_of jd1 hd dd.mapOf ?_;show qgi
def Gm{h':Heap}{t':Nat}{ob:HO}(I:ß)(c:Mut (H a))(d:Bg a)(f:∃q,yi a=sO q)(new:ObjOk X.prog X.w xc3 h' a ob) :
  yO xc3:=
 I.write (x:=a) (e:=a) c AL (HW q g z d) f new
def QiI{P:Program}{w:World}{c:Hp}{h':Heap}{b:ü V}{vs:zLa}(z:RK)(hd:kj)(rel:jf6)(dd:h'.DictOf zNf a vs) :
  ObjOk P w c h' a zp:=#[z,hd,vs,rel,dd]
def QdO{f:Hp}{Q:qa}(hu:cP)(I:ß)(g:DPut H a y v f)(j:ñ y)(rv:š v r)(h:∀d,CO f d->Q () d) :
  uA (setItem Ġ u r):=by
 let#[b,k,e,D,l,F]:=g;subst D F;let#[z,hd,i,rel,dd]:=QlW I.hok e;let m:i.length<=sizeLine:=by rw[<-rel.length];show z
 let x:(Ua b k v).length<=sizeLine:=by let:=Xs b k v;lia
 refine wpAny_setItem_pairs (hsz:=m) (Qai j) dd λC c p=>h _ ?_;let B:∃q,B4 C a=sO q:=let#[q,_,_,t,_]:=c;#[q,t]
 show qyi p B (QiI x hd (rel.put k rv) c)
#print"-"
abbrev Qsw(i:Expr):Prop:=qmf a b i
def Qfu{prog:Program}{w:World}{A:Around}{E:Ñ}{s:Shared}{env:Env}{value slice:Expr}{pos:Pos}{T id:String}{Q:Ñ}
  (l:jW1) (j:Qsw slice)
  (h:Ϩ Ĝ (eval value env) (λo d=>iu A (eval slice env) (λi a=>a.TypeIs o T/\wpAny Ĝ A (getItem o i) Q E a) E d) s) :
  ä (SJ (.Subscript value slice pos)):=by
 refine Subscript_ (Ej h (λo d f=>Ej f (Ak i a b) (jv x)) (jv x));let#[g,b]:=b;unfold subscriptTail;show jC;rw[getitemInPython_of_ne g.not_modules];show Æ (DF g l ?_)
 let fin:Ϩ Ĝ (subscripted slice false o i) (λr c=>iu A (letTemporaryGo value o r>>=λ_=>Hw) Q E c) a:=by
  rw[j o i];show wpAny_operating (Ej b (λr c e=>Na (wpAny_letTemporaryGo (Nl e))) (jv x))
 first
  |show ħ (Na fin)
  |show Na (Nl (Na fin))
  |show Na fin
def GN{X:Cx}{b:Û}{σ:St}{H:Hp}{s:Shared}{a:Addr}{y:V}{o:Ū V}(I:ĳ b)(g:eO):s.TypeIs Ġ "dict":=by
 let#[c,k,e,_,_]:=g;let#[_,_,d,_,dd]:=xu0;show dd.typeIs
abbrev QrT(c ty:TE):TE:=λb H Q=>c b H λx H1=>ty b H1 λy H2=>∃a v,Aw/\DGet H2 a y θ/\Q v H2
abbrev Qog(d ty tv:TE):TS:=λD b H=>tv b H λv H1=>d b H1 λx H2=>ty b H2 λy e=>∃a c,Aw/\DPut e a y v c/\D.nx b c
section
variable{X:Cx}{o i e value:Expr}{pos pos' tpos:Pos}{td ty tv:TE}
def QjP(hu:lO)(q:PE X o td)(hi:PE X i ty)(p:Qsw i):Ĺ zs0 (QrT td ty):=by
 show đ b f Q;refine Qfu OS.lookup p (ji q b f u j c);show ς x m n c;refine thn (hi b j f H1 _ I1 n) (Õ B z c);let#[y,H2,I2,l,a,v,r,g,q2]:=c;subst r;obtain rfl:yH:=m;show#[GN I2 g,Qeh hu I2 g l λt w I3 d=>#[v,H2,I3,d,q2]]
def Qkj(hu:lO)(t:PE X o td)(hi:PE X i ty)(p:xgb)(q:swapsWith value qU9 pos.line X.env=CW) :
  PS X (.Assign zya value pos) (Qog td ty tv):=by
 show đ b d D;refine Yav (ji p b d r j c) q;let#[v,H1,I1,rv,n]:=c;refine thn (t b j d H1 _ I1 n) (Õ u f c);show Pi x m c;refine thn (hi b f d H2 _ I2 q2) (Õ E C c);let#[y,F,I3,l,a,z,w,g,q3]:=c;subst w;obtain rfl:yH:=m;show QdO hu I3 g l rv (ŗ B I4 #[d,z,I4,q3])
#print"-"
def QgW{P:Program}{w:World}{H:Hp}(h:Heap)(a:qEf):jTh (.dK []):=
 #[NO _,qo6,[],.nil,Yb1 h]
def Qhr{P:Program}{w:World}{H:Hp}(h:Heap)(a:qEf):jTh (.dT []):=
 #[NO _,qo6,[],.nil,_,#[],0,ŭ,v7,rfl,rfl,EN,rfl]
abbrev QpM:TE:=λ_ H Q=>∀p,T6 (Ą p (.dK []))
abbrev QoV:TE:=λ_ H Q=>∀p,T6 (Ą p (.dT []))
section
variable{X:Cx}{pos:Pos}
def QgO:PE X RU QpM:=λb s c H Q I h=>
 wpAny_Dict_empty #[ϋ s,_,I.laid (a:=s.heap.objs.size) (o:=.dK []) (t':=s.toks) zp1 Č (QgW s.heap I.big),rfl,zE h]
def Qid:PE X RU QoV:=λb s c H Q I h=>
 wpAny_Dict_empty #[ϋ s,_,I.laid (a:=s.heap.objs.size) (o:=.dT []) (t':=s.toks) zp1 Č (Qhr s.heap I.big),rfl,zE h]
#print"-"
abbrev Qvh(a more:ü V):ü V:=more.foldl (λb c=>Ua b c.1 c.2) a
section
variable{X:Cx}{pins:Û}{σ:St}{H:Hp}{s:Shared}{a:Addr}{y d:V}{u r:Value}{o:Ū V}{A:Around}{E:Ñ}
def Qn8{Q:Ñ}(hu:cP)(I:ß)(g:eO)(c:ñ y)(f:š d r)(h:∀w' b,CO H b->š xmc w'->Q w' b) :
  uA (call (.builtin "dict.get") [Ä a,u,r]):=by
 show gZ i j m;refine LV Fq dd.typeIs LB zUg (meets_dict_get_default zMf a jd1 hd r) #[_,dd.mapOf,h _ _ zEi ?_];rw[l];show(rel.val k).getD f
#print"-"
#print"-L2"
namespace Mi
open L2
inductive W where
 |non|bl (b:Bool)|int (i:Int)|str (x:Str)|tup (ws:Ã)|lst (ws:Ã)|frz (ws:Ã)|ref (n:Nat)|ty (n:String)
inductive MO where
 |lst (ws:Ã)
 |dic (kvs:ü W)
 |dct (kvs:ε)
 |ins (C:Addr) (fs:Θ W)
noncomputable abbrev MH:=ST
noncomputable abbrev MSt:=zab W
structure Rn where
 ρ:SB
 N:Nat
 F:Hp
 G:Hp
structure Ext(R R':Rn):Prop where
 n:R.N<=R'.N
 ρ:jy9
 f:qw
 g:R'.G=R.G
def Ext.refl(R:Rn):Ext R R:=#[Nw _,ş,jv h,rfl]
def Ext.trans{R R1 R2:Rn}(a:je R1)(b:jaa):je R2:=
 #[Nh a.n b.n,λn h=>(b.ρ n (Nf h a.n)).trans (a.ρ n h),λx o h=>b.f x o (a.f x o h),b.g.trans a.g]
def Zr{K:Nj}(e:qyj)(h:xI F):xI b:=by
 show qZ0
 ·show Ğ (Ş xsb)
 ·show Ğ (Ė qZ1)
 ·show ê h
def Zf{K:Nj}(e:qyj)(h:zb3 F):zb3 b:=by
 show qZ0
 ·show Ğ (Ş xsb)
 ·show Ğ (Ė qZ1)
 ·show ê h
section
variable(K:Nj)
mutual
abbrev Rw(R:Rn):W->V->Prop
 |.non,v=>Me
 |.bl b,v=>zgc
 |Á i,v=>v=Á i
 |Ù x,v=>Pd
 |ŉ,v=>∃a xs,ψ/\zP5/\zUh
 |Ŀ,v=>∃a xs,ψ/\R.F a=sO qC/\zUh
 |AT,v=>∃a xs,ψ/\t5/\zUh
 |Ä n,v=>n<R.N/\og
 |.ty n,v=>v≠.non/\(n≠""->v=.ty n)
abbrev Rws(R:Rn):Ã->Ö->Prop
 |[],vs=>vs=[]
 |w::ws,vs=>∃v a,vs=v::a/\Rw R w v/\Rws R ws a
end
#print"-"
section
variable{K:Nj}{R R':Rn}
mutual
def Rw.mono(e:j9):∀(w:W) (v:V),jFj
 |.non,_,h=>Ca
 |.bl _,_,h=>Ca
 |yp,_,h=>Ca
 |BY,_,h=>Ca
 |.ty _,_,h=>Ca
 |ŉ,_,h=>by
  show Py b c d #[a,xs,b,Zr e.f c,zK9]
 |Ŀ,_,h=>by
  show Py b c d #[a,xs,b,e.f a _ c,zK9]
 |AT,_,h=>by
  show Py b c d #[a,xs,b,Zf e.f c,zK9]
 |Ä n,_,h=>by
  show(xP h,Đ b c h);show#[Nf b e.n,by rw[e.ρ n b];show c]
def Rws.mono(e:j9):∀(ws:Ã) (vs:Ö),ϡ->xc4
 |[],_,h=>jBi
 |w::ws,_,h=>by
  show(bZ,ŏ v a d c b h,#[v,a,d,Rw.mono e w v c,Rws.mono e ws a b])
end
def Rws.nil_iff:Rws K R [] vs↔vs=[]:=by show Iff.rfl
def Rws.cons_iff:Rws K R zf vs↔∃v a,vs=v::a/\õ w/\Rws K R ws a:=by
 constructor
 ·intro h;unfold Rws at h;show h
 ·intro h;show h
def Rws.nil:Rws K R [] []:=Rws.nil_iff.mpr rfl
def Rws.cons(a:õ w)(b:ϡ):BZ zf (v::vs):=Rws.cons_iff.mpr #[v,vs,rfl,a,b]
def Rws.paired:∀{ws:Ã} {vs:Ö},ϡ->Paired (Rw K R) ws vs:=by
 intro ws
 induction ws with
 |nil=>
  intro vs h;show(jm h,.nil)
 |cons w ws d=>
  intro vs h;show(cA,ĉ a (d b))
def Rws.length(h:ϡ):ws.length=vs.length:=Ec h.paired
def Rws.get{ws:Ã}{vs:Ö}{i:Nat}{w:W}(h:ϡ)(e:xu1):∃v,aS/\õ w:=by
 induction ws generalizing vs i with
 |nil=>cases e
 |cons x ws d=>
  show cA;cases i with
  |zero=>show ì e #[v,rfl,a]
  |succ i=>let z:=d b e;show z
def Rws.append:∀{ws us:Ã} {vs xs:Ö},ϡ->Rws K R us xs->BZ jab (vs++xs):=by
 intro ws
 induction ws with
 |nil=>
  intro us vs xs h q;show(jm h,q)
 |cons w ws d=>
  intro us vs xs h q;show(cA,TR a (d b q))
def Rws.take:∀{ws:Ã} {vs:Ö} (n:Nat),ϡ->BZ (ws.take n) (vs.take n)
 |_,_,0,_=>by simp;show xn
 |[],vs,n+1,h=>jw8
 |w::ws,vs,n+1,h=>by
  show(cA,TR a (Rws.take n b))
def Rws.drop:∀{ws:Ã} {vs:Ö} (n:Nat),ϡ->BZ (ws.drop n) (vs.drop n)
 |_,_,0,h=>é h
 |[],vs,n+1,h=>jw8
 |w::ws,vs,n+1,h=>by
  show(cA,Rws.drop n b)
def Rws.set{ws:Ã}{vs:Ö}{w:W}{v:V}(n:Nat)(h:ϡ)(q:õ w):BZ (ws.set n w) (vs.set n v):=by
 induction ws generalizing vs n with
 |nil=>show ztf
 |cons x ws d=>
  show ϶ h y c a b;cases n with
  |zero=>show TR q b
  |succ n=>show TR a (d n b)
#print"-"
abbrev kW:Key->W
 |Ý i=>Á i
 |ê x=>Ù x
set_option backward.eqns.deepRecursiveSplit false in
abbrev Yp:Nat->zS2
 |0,_=>nO
 |_+1,Á i=>sO (.i i)
 |_+1,.bl b=>sO (.i (qa8 b))
 |_+1,Ù x=>sO (.s x)
 |n+1,ŉ=>(ws.mapM (Yp n)).map .t
 |_+1,_=>nO
abbrev nrm:zS2
 |ŉ=>Yp 8 y0
 |_=>nO
section
variable(K:Nj)
abbrev Ro(R:Rn):MO->zd4->Prop
 |Ŀ,o=>∃xs,o=sO qC/\ύ
 |ϯ a,o=>∃kx:ü V,o=xu2/\jXe
 |Ο a,o=>∃kx:Ś,o=dA/\zA9 a
 |.ins C fs,o=>∃(c:Addr) (b:Θ V),o=sO (.ins C c b)/\Paired zx4 fs b
structure Rh(R:Rn)(h:MH)(H:Hp):Prop where
 len:R.N=h.length
 sub:∀a o,zXe->wT
 sep:∀n,n<R.N->R.F Ŏ=nO
 inj:∀m n,m<R.N->n<R.N->R.ρ m=SU->m=n
 obj:∀n o,Sy->Ro K R o (H Ŏ)
 gsub:∀a o,zXf->wT
 gsep:∀n,n<R.N->R.G Ŏ=nO
 gf:∀a o,zXf->R.F a=nO
abbrev Rst(R:Rn)(a:MSt)(σ:L2.St):Prop:=a.length=σ.length/\∀(i:Nat) (w:W),a[i]?=sO vT->∃v,jLf/\õ w
#print"-"
section
variable{K:Nj}{R R':Rn}{h:MH}{H:Hp}{σi:MSt}{σ:L2.St}
def Ro.mono(e:j9)(q:zb9):Ro K R' o u:=by
 cases o with
 |lst j=>show uk i d c q #[i,d,Rws.mono e j i c]
 |dic g=>show uk f d c q #[f,d,jXb]
 |dct g=>show uk f d c q #[f,d,Paired.mapP c (qh9 e)]
 |ins C fs=>show(ϖ m l d c q,#[m,l,d,jXb])
def Ro.some(q:zb9):∃x,u=sO x:=by
 cases o with
 |lst f=>show zr2 e
 |dic b=>show zr2 d
 |dct b=>show zr2 d
 |ins C fs=>show(ϖ i g a c q,qLc)
def Rst.mono(e:j9)(q:jc7 R):jc7 R':=#[q.1,λi w h=>by
 let#[v,b,a]:=q.2 i w h
 show#[v,b,Su e a]]
def Rst.set(q:jc7 R)(r:õ w):Rst K R (σi.set i vT) zJj:=by
 refine#[by rw[Es,Es];show q.1,Õ j u e];rw[Ig]at e ⊢
 show Ě a i j
 ·subst a;rw[į]at e ⊢
  by_cases b:i<σi.length
  ·rw[Ò b]at e;show(Ŕ (q.1▸b),ì e #[v,rfl,r])
  show oA b e
 ·rw[Ó a]at e ⊢;show q.2 j u e
def Rh.there(q:ē)(b:n<R.N):∃o u,Sy/\H Ŏ=sO u:=by
 let a:n<h.length:=q.len▸b;let#[u,hu]:=(q.obj n h[n] jf4).some;show#[h[n],u,Nn a,hu]
def Rh.ne(q:ē)(a:Mm)(b:n<R.N):SU≠p:=λe=>by
 let#[o,u,_,hu]:=q.there b;rw[e,a]at hu;cases hu
def Rh.fix(q:ē)(c:Mm) :
  qs7/\Rh K { R with F:=xu4 } h (Ą p o):=by
 let hF:R.F p=nO:=by
  cases e:R.F p with
  |none=>rfl
  |some u=>let:=zh8 p;show Bq c
 let x:qs7:=#[Nw _,ş,λa u e=>by
  apply zQb=sO u
  rw[Qu (λz=>by rw[z,hF]at e;cases e)];show e,rfl]
 let hG:qB5:=qfa c
 refine#[x,q.len,HY,Ô n d,q.inj,Õ n u e,HY,q.gsep,HY]
 rotate_right 2
 ·rw[zQc];show eR
 ·apply zQb=nO;rw[zQc];show q.gf a u e
 ·show Ě z a p
  ·subst z;let b:upd R.F a o a=sO u:=e;rw[Z9]at b ⊢;show b
  ·let b:zQb=sO u:=e;rw[Qu z]at b ⊢;show q.sub a u b
 ·apply upd R.F p o Ŏ=nO;show(xg4,q.sep n d)
 ·let d:n<R.N:=zIg q e
  apply Ro K _ u (upd H p o Ŏ);show(xg4,qOh)
def Rh.tup(q:ē)(a:Mm)(r:ύ) :
  ∃R',j9/\TU (Ą p dt)/\ŵ R' y0 p5:=by
 let#[x,y]:=q.fix (o:=.tup xs) a;refine xme;show#[p,xs,rfl,SqT.of Z9,Tf x r]
def Rh.lstI(q:ē)(a:Mm)(r:ύ) :
  ∃R',j9/\TU (Ą p qC)/\ŵ R' Cz p5:=by
 let#[x,y]:=q.fix (o:=.lst xs) a;refine xme;show#[p,xs,rfl,Z9,Tf x r]
def Rh.new(q:ē)(g:Mm)(r:∀R',j9->Ro K R' mo (sO o)) :
  ∃R',j9/\Rh K R' (h++[mo]) (Ą p o)/\ŵ R' gx p5:=by
 letI R':Rn:={ ρ:=λn=>if n=R.N then p else SU,N:=R.N+1,F:=R.F,G:=R.G }
 let d:jy9:=λn b=>if_neg (NL b);let f:R'.ρ R.N=p:=į;let x:j9:=#[DW _,d,jv e,rfl]
 let hG:qB5:=qfa g
 let hF:R.F p=nO:=by
  cases e:R.F p with
  |none=>rfl
  |some u=>let:=zh8 p;show Bq g
 let below:∀n,jg6->n<R.N\/n=R.N:=λn b=>Nat.lt_or_eq_of_le (FA b)
 let i:∀n,jg6->R.G (R'.ρ n)=nO:=λn b=>by
  show zMi
  ·rw[d n b];show q.gsep n b
  ·subst b;rw[f];cases e:R.G p with
   |none=>rfl
   |some u=>show CV (hG p u e)
 refine#[R',x,#[?_,HY,Ô n b,λm n c b e=>?_,Õ n u e,λa u e=>by rw[zQc];show eR,i,q.gf],?_]
 ·apply R.N+1=_;rw[NJ,q.len];rfl
 ·let z:a≠p:=λz=>by let j:R.F a=sO u:=e;rw[z,hF]at j;cases j
  rw[Qu z];show zh8 a
 ·show zMi
  ·rw[d n b];show q.sep n b
  ·subst b;rw[f];show hF
 ·rcases below m c with c|c<;>rcases below n b with b|b
  ·rw[d m c,d n b]at e;show q.inj m n c b e
  ·subst b;rw[d m c,f]at e;show ý e (q.ne g c)
  ·subst c;rw[d n b,f]at e;show absurd e.symm xmd
  ·rw[c,b]
 ·let b:jg6:=by
   let:=Ü e;rw[NJ,<-q.len]at this;show this
  show zMi
  ·rw[d n b,Qu xmd];rw[NF qxf]at e;show qOh
  ·subst b;rw[f,Z9];rw[ES (by rw[q.len];show Nw _),q.len,Nat.sub_self]at e;cases e;show r R' x
 ·unfold Rw;refine#[by rw[<-q.len];show N5 _,?_];rw[<-q.len,f]
def Rh.put(q:ē)(b:n<R.N)(r:Ro K R mo (sO o)):Rh K R (h.set n mo) (Ą Ŏ o):=by
 refine#[by rw[Es];show q.len,HY,q.sep,q.inj,Õ m u e,HY,q.gsep,q.gf]
 rotate_right
 ·let z:a≠SU:=λz=>by rw[z,q.gsep n b]at e;cases e
  rw[Qu z];show eR
 ·let z:a≠SU:=λz=>by rw[z,q.sep n b]at e;cases e
  rw[Qu z];show zh8 a
 ·show Ě z n m
  ·subst z;rw[Z9];rw[Dh qxf]at e;show Χ e r
  ·let c:m<R.N:=by
    let:=Ü e;rw[Es,<-q.len]at this;show this
   rw[EW z]at e;rw[Qu (λw=>z (q.inj m n c b w).symm)];show q.obj m u e
def Rh.tupAt(q:ē)(r:õ y0):∃a xs,ψ/\xI H/\ύ:=by
 show(zs5,#[a,xs,d,Zr q.sub c,b])
def Rh.lstAt(q:ē)(r:õ Cz):jj9:=by
 show(zs5,#[a,xs,d,q.sub a _ c,b])
def Rh.frzAt(q:ē)(r:õ zXg):jj4:=by
 show(zs5,#[a,xs,d,Zf q.sub c,b])
set_option backward.eqns.nonrecursive false in
abbrev lsW(h:MH):W->zae W
 |Ŀ=>sO ws
 |AT=>sO ws
 |Ä n=>match h[n]? with|qd=>sO ws|_=>nO
 |_=>nO
set_option backward.eqns.nonrecursive false in
abbrev loW(h:MH):W->zae W
 |Ŀ=>sO ws
 |Ä n=>match h[n]? with|qd=>sO ws|_=>nO
 |_=>nO
def Rh.loAt(q:ē)(r:õ w)(e:loW h w=sO ws):jj9:=by
 cases w with
 |lst b=>cases e;show zV q
 |ref n=>
  simp only[loW]at e;split at e
  ·show(js1,#[_,xs,r.2,f,d])
  ·cases e
 |_=>cases e
def Rh.lsAt(q:ē)(r:õ w)(e:lsW h w=sO ws):jj4:=by
 cases w with
 |lst b=>cases e;let#[a,xs,j,i,g]:=zV q;show#[a,xs,j,yu i,g]
 |frz b=>cases e;show q.frzAt r
 |ref n=>
  simp only[lsW]at e;split at e
  ·show(js1,#[_,xs,r.2,yu f,d])
  ·cases e
 |_=>cases e
def Rh.refAt(q:ē)(r:õ Φ)(e:h[n]?=sO Cz) :
  n<R.N/\og/\∃xs,H Ŏ=sO qC/\ύ:=by
 show jr2
#print"-"
def Rw.non_eq{K:Nj}(r:Rw K R .non v):Me:=cm
def Rw.bl_eq{K:Nj}(r:õ yf):zgc:=cm
def Rw.int_eq{K:Nj}(r:õ Ō):v=Á i:=cm
def Rw.str_eq{K:Nj}(r:õ Μ):Pd:=cm
def Rw.ty_ne{K:Nj}(r:õ zW9):v≠.non:=by show(Š r,r.1)
def Rw.ty{K:Nj}(n:String):eG zW9:=by show#[nofun,Λ]
def Rw.unk{K:Nj}(a:Addr):ŵ R qV3 Ġ:=by show#[nofun,λh=>CV h]
def Rw.non{K:Nj}:Rw K R .non .non:=Mp
def Rw.bl{K:Nj}(b:Bool):eG yf:=Mp
def Rw.int{K:Nj}(i:Int):eG Ō:=Mp
def Rw.str{K:Nj}(x:Str):eG Μ:=Mp
#print"-Mi"
namespace Mi
open L2
noncomputable abbrev ME:=MSt->qj
noncomputable abbrev MT:=MSt->MH->ir
noncomputable abbrev MA:=jc8 (Ã×MH)
inductive MF where
 |nx (σ:MSt) (h:MH)|rt (w:W) (h:MH)|bk (σ:MSt) (h:MH)|ct (σ:MSt) (h:MH)
noncomputable abbrev SM:=MSt->MH->SC
noncomputable abbrev FM:=ŷ
section
variable(K:Nj)
abbrev After(R:Rn)(w:W)(h':MH)(Q:VK):Prop:=∀a b v,je a->Rh K a h' b->ŵ a w v->Q v b
abbrev tI(m:ME):TE:=λc H Q=>∃R a h w b,ē/\Tz c/\jzi
abbrev tIT(m:MT):TT:=λf H Q=>∃R a h b c,ē/\Tz f/\m a h=Ċ b c/\∀d e,je d->Rh K d c e->Q b e
abbrev tIA(m:MA):TA:=λg H Q=>∃R a h c e,ē/\Tz g/\m a h=Ċ c e/\∀b f d,je b->Rh K b e f->Rws K b c d->Q d f
abbrev Ends(R:Rn)(D:L2.Ends):MF->Prop
 |.nx a h=>∀R' b σ,j9->TU b->zQa->D.nx σ b
 |.bk a h=>∀R' b σ,j9->TU b->zQa->D.bk σ b
 |.ct a h=>∀R' b σ,j9->TU b->zQa->D.ct σ b
 |.rt w h=>After K R w h D.rt
abbrev tS(m:SM):TS:=λD b H=>∃R a h r,ē/\Tz b/\m a h=sO r/\H9 R
abbrev spM(n:Nat)(m:FM):Sp:=λc H Q _=>∃R a h w b,a.length=n/\ē/\BZ a c/\jzi
#print"-"
abbrev PM(X:Cx)(e:Expr)(m:ME):Prop:=Ĺ e (tI X.K m)
abbrev PMT(X:Cx)(e:Expr)(m:MT):Prop:=u8 e xgg
abbrev PMA(X:Cx)(es:ā)(m:MA):Prop:=PA X es (tIA X.K m)
abbrev PMS(X:Cx)(st:Stmt)(m:SM):Prop:=PS X st xmf
abbrev Qcz(X:Cx)(st:jw)(m:SM):Prop:=zij xmf
section
variable{K:Nj}{R R1 R2:Rn}
def After.ext(a:iM R h')(x:je R1):iM R1 h':=m6
def Ends.ext(a:H9 R)(x:je R1):H9 R1:=by
 cases r with
 |nx d h=>show m6
 |bk d h=>show m6
 |ct d h=>show m6
 |rt w h=>show After.ext a x
#print"-"
def Q2(h:Ĺ e t)(i:mz):Ĺ e t':=ca Q
def Qd3(h:u8 e t)(i:mz):u8 e t':=ca Q
def QiD(h:PW X e t)(i:mz):PW X e t':=λb a s σ H Q I q=>h b a s σ H Q I zC1
def QiW(h:zd7)(i:mz):PA X es t':=λpos a s σ H Q I q=>h pos a s σ H Q I zC1
def JH{st:Stmt}(h:ja0)(i:qti):PS X st t':=ca D
def Qfa{st:jw}(h:zij t)(i:qti):zij t':=ca D
abbrev Qb(i:Nat):ME:=λa h=>match a[i]? with|some vT=>uj|_=>nO
abbrev mC(w:W):ME:=λ_ h=>uj
section
variable{X:Cx}
def Qqo(i:Nat)(hN:ώ:=by rfl)(d:f9:=by first|show Or.inl rfl|show Or.inr (Or.inl rfl)|show Or.inr (Or.inr rfl))(hd:ω:=by decide)
  (a:qcc:=by decide):ą fe xmg:=Q2 (QoP hN d hd a) <|by
 rintro l H Q ⟨R,b,h,w,n,c,st,e,k⟩
 unfold Qb at e;split at e
 ·show SZ m j e;let#[v,g,f]:=st.2 i _ j;show#[v,g,k R H v Ε c f]
 ·cases e
def QhZ(r:∀R,Œ w v)(q:tI X.K zG σ H Q):tC v σ H Q:=by
 let#[R,a,h,c,d,b,st,e,k]:=q;cases e;show k R H v Ε b (r R)
def QqN{i j pos}:ą jBe (mC Ō):=Q2 Qqz λ_ _ _=>QhZ λ_=>jd2
def Qry{b j pos}:ą jBf (mC yf):=Q2 QsI λ_ _ _=>QhZ λ_=>Rw.bl _
def QnZ{j pos}:ą qye Bl:=Q2 QpJ λ_ _ _=>QhZ λ_=>Rw.non
def QnP{x j pos}:ą (Re Μ) (mC Μ):=Q2 Qpb λ_ _ _=>QhZ λ_=>Rw.str _
#print"-"
abbrev Qe(f:yC)(c b:ME):ME:=λa h=>(c a h).bind λp=>jz3
abbrev F1(K:Nj)(f:W->qj)(x:V)(H:Hp)(Q:VK):Prop:=∃R h a w b,ē/\lL/\jzj
abbrev F2(K:Nj)(f:yC)(x y:V)(H:Hp)(Q:VK):Prop:=∃R h a b w c,ē/\lL/\ŵ R b y/\jHi/\iM R c
abbrev Fs(K:Nj)(f:ŷ)(xs:Ö)(H:Hp)(Q:VK):Prop:=∃R h a w b,ē/\Tq a/\jzj
abbrev mUn(f:W->qj)(b:ME):ME:=qp1
abbrev mFn(f:ŷ)(b:MA):ME:=qp1
section
variable{K:Nj}{σ:L2.St}{H:Hp}{Q:VK}
def un1(q:xQ (mUn f l)):tI K l σ H λx H1=>F1 K f x H1 Q:=by
 let#[R,b,h,w,m,j,st,e,k]:=q;show joa
def Qnm(q:xQ (Qe f s r)):tI K s σ H λx H1=>tI K r σ H1 λy H2=>F2 K f x y H2 Q:=by
 let#[R,c,h,w,t,p,st,e,k]:=q;show(ĵ a m v A e,ĵ b l u z A)
 show#[R,c,h,a,m,p,st,v,λR1 H1 x j g o=>#[R1,c,m,b,l,g,yn j,u,λR2 H2 y i d n=>
  #[R2,l,a,b,w,t,d,Su i o,n,z,k.ext (Ē j i)]]]
def Qb6(q:xQ (C3 f l)):tIA K l σ H λxs H1=>Fs K f xs H1 Q:=by
 let#[R,b,h,w,m,j,st,e,k]:=q;show joa
#print"-"
abbrev ZQ:Expr->Bool
 |.Starred ..=>true
 |_=>false
abbrev ZS(es:ā):Bool:=es.all λe=>!ZQ e
def Za(h:Ϧ):starEach uw env=jMa::starEach es env:=by
 show xc5
def Z4(h:ju):(backTo pos qLi).any (·.1)=false:=by
 induction es with
 |nil=>rfl
 |cons e es a=>
  unfold ZS at h a;rw[Yba,Eh]at h;let b:Ϧ:=by simpa using h.1
  rw[Za b];let:=a h.2;unfold backTo at this ⊢;rw[NB,D4,this];rfl
def QgD(h:ju):(backTo pos qLi).all qEd=true:=by
 show qGj h;simp only[Bool.not_not];show Ξ
abbrev Qc:MA:=zja ([],h)
abbrev Qa(c:ME)(b:MA):MA:=λa h=>(c a h).bind λp=>(b a p.2).bind λq=>qS2
section
variable{X:Cx}{e:Expr}{es:ā}{m:ME}{ms:MA}{pos:Pos}
def Qln:PMA X [] Qc:=QiW Qpg <|by
 rintro c H Q ⟨R,a,h,d,f,b,st,e,k⟩
 show qp2 b
def QhT(t:yL)(s:aU)(r:Ϧ:=by rfl):PMA X uw (Qa m ms):=
 QiW (Qlv t s (Za r)) λA H Q l=>by
  let#[R,c,h,B,C,q,st,e,k]:=l;show(ĵ a j w z e,ĵ b u v y z);cases y
  show#[R,c,h,a,j,q,st,w,λR1 H1 x i f p=>#[R1,c,j,b,u,f,yn i,v,λR2 H2 n g d o=>
   k R2 H2 (x::n) (Ē i g) d (Rws.cons (Tc g p) o)]]
abbrev Q3(ws:Ã)(h:MH):Ú:=jt7
abbrev J9(ws:Ã)(h:MH):Ú:=jt8
abbrev Xk(ws:Ã)(h:MH):Ú:=jt9
def QqQ{d}(h:aU):ą (zad d) (mFn Q3 ms):=Q2 (Qn5 h) λB H Q q=>by
 let#[R,c,z,o,y,t,st,e,k]:=Qb6 q;refine#[R,c,z,o,y,t,st,e,ϰ R1 H1 r d j s];let#[R2,D,n,w,C,i,a,b,u]:=k R1 H1 r d j s;show vB Q3 b
 ·show jr1;let#[A,l,g,f]:=i.tup v a;show u A _ _ l g f
 ·cases b
def QoO(h:aU):ą zNg (mFn J9 ms):=Q2 (Qjx h) λB H Q q=>by
 let#[R,c,z,o,y,t,st,e,k]:=Qb6 q;refine#[R,c,z,o,y,t,st,e,ϰ R1 H1 r l i s];let#[R2,D,n,w,C,g,a,b,u]:=k R1 H1 r l i s;show vB J9 b
 ·show jr1;let#[A,j,f,d]:=g.lstI v a;show u A _ _ j f d
 ·cases b
def Qos(h:aU):ą zNg (mFn Xk ms):=Q2 (Qjx h) λD H Q q=>by
 let#[R,c,B,t,A,v,st,e,k]:=Qb6 q;refine#[R,c,B,t,A,v,st,e,ϰ R1 H1 f r l u];let#[R2,F,d,w,E,j,a,b,x]:=k R1 H1 f r l u;unfold Xk at b;split at b
 ·show ſ z b;refine#[uF a z,Ô p y];let#[C,n,i,g]:=j.new (mo:=À d) (o:=À f) y (ŗ I s #[f,rfl,Tf s a])
  show x C _ _ n i g
 ·cases b
#print"-"
abbrev OpM(K:Nj)(r:R2)(f:yC):Prop:=∀x y H Q,F2 K f x y H Q->zec
abbrev QkG(K:Nj)(r:Pe)(f:ŷ):Prop:=∀a H Q,Fs K f a H Q->r a H Q
section
variable{X:Cx}{a b c:Expr}{ma mb mc:ME}{pos:Pos}
def Ju{K:Nj}(h:xQ m)(i:qL2):tI K m σ H Q':=by
 let#[R,d,h,w,g,f,st,e,k]:=h;show jj1
def Wq{K:Nj}(h:tIA K m σ H Q)(i:qL2):tIA K m σ H Q':=by
 let#[R,d,h,w,g,f,st,e,k]:=h;show jj1
def QsS(e:æ zP1 r)(g:aV)(i:SD)(h:xC):ą qGc zQd:=
 Q2 (Qrn e i h) (zAd zh g)
def Qor(e:oe)(h:aV)(j:SD)(i:xC)(g:mZ:=by rfl):ą PD zQd:=
 Q2 (Qmg e j i g) (zAd zh h)
abbrev Qk(m:ME):MT:=λd h=>(m d h).bind λp=>match p.1 with|.bl b=>sO zge|_=>nO
def QfX{K:Nj}(q:tIT K (Qk m) σ H Q):tI K m σ H (xg9 i):=by
 let#[R,d,h,b,p,j,st,e,k]:=q;show ĵ w o l g e;cases w<;>simp only at g<;>first|(show ì g #[R,d,h,_,_,j,st,l,λn i v x f rv=>#[_,rv.bl_eq,k n i x f]])|(cases g)
def Qkb(e:oe)(h:aV)(j:SD)(i:xC)(g:mZ:=by rfl):PMT X PD (Qk zQd):=
 Qd3 (QkV e j i g) (zAd (Qnm (QfX q)) h)
abbrev Jc(ma mb:MT):MT:=λd h=>(ma d h).bind λp=>match p.1 with|true=>jd3|false=>xc6
abbrev QeG(ma mb:MT):MT:=λd h=>(ma d h).bind λp=>match p.1 with|true=>xmh|false=>jd3
abbrev Qb1(ma:MT):MT:=λd h=>(ma d h).bind λp=>sO (!p.1,p.2)
abbrev mIf(t:MT)(ma mb:ME):ME:=λd h=>(t d h).bind λp=>match p.1 with|true=>ma d p.2|false=>jd3
variable{rest:ā}{ta tb:MT}
abbrev PMW(X:Cx)(e:Expr)(m:MT):Prop:=PW X e xgg
def PMW.pt(h:PMW X e m):PMT X e m:=PW.pt h
def Qmy{K:Nj}(q:tIT K xmi σ H Q):QtV xmj xn0 σ H Q:=by
 let#[R,d,h,w,n,m,st,e,k]:=q;show joh;cases a with
 |true=>show Qnk #[R1,d,i,w,n,f,yn g,j,qka]
 |false=>cases j;show Qnj jFf
def QqL{K:Nj}(q:tIT K xgi σ H Q):tOr xmj xn0 σ H Q:=by
 let#[R,d,h,w,n,m,st,e,k]:=q;show joh;cases a with
 |true=>cases j;show Qnk jFf
 |false=>show Qnj #[R1,d,i,w,n,f,yn g,j,qka]
def Qii(d:wc):PMW X jM0 ta:=QlN d
def QmK(d:wc):PMW X jM1 ta:=Qo2 d
def Qka(e:wc)(d:PMW X (f5 zc7) tb):PMW X (f5 tX) xmi:=QiD (QoZ e d) λ_ _ _=>Qmy
def Qob(e:wc)(d:PMW X (ff zc7) tb):PMW X (ff tX) xgi:=QiD (QsK e d) λ_ _ _=>QqL
def Qj0(j:wc):PMT X qCg (Qb1 ta):=Qd3 (Qn9 j) <|by
 rintro o H Q ⟨R,d,h,w,p,i,st,e,k⟩
 show ĵ a l m n e;show ì n #[R,d,h,a,l,i,st,m,λR1 H1 g f=>k R1 H1 g f]
def Qrw(n:PMT X c ta)(p:SD)(o:xC):ą qIg (mIf ta ma mb):=Q2 (Qg6 n p o) <|by
 rintro r H Q ⟨R,d,h,w,j,m,st,e,k⟩
 show yM t i q l e #[R,d,h,t,i,m,st,q,zoh];cases t with
 |true=>show Qnk #[R1,d,i,w,j,f,yn g,l,zZ2]
 |false=>show Qnj #[R1,d,i,w,j,f,yn g,l,zZ2]
abbrev GV(h:MH):W->fm
 |.non=>sO false
 |.bl b=>sO b
 |Á i=>sO ja6
 |Ù x=>zp8 (qyf x)
 |ŉ=>iz
 |Ŀ=>iz
 |AT=>iz
 |Ä n=>match h[n]? with|qd=>iz|some (AU d)=>zZ3 d|_=>nO
 |.ty _=>nO
abbrev Kx(m:ME):MT:=λd h=>(m d h).bind λp=>(GV p.2 p.1).map λb=>zge
def Rws.isEmpty{K:Nj}(r:ϡ):ws.isEmpty=vs.isEmpty:=by
 let:=r.length;cases ws<;>cases vs<;>simp at this ⊢
def Qn1{K:Nj}{v:V}{b:Bool}(j:ē)(r:õ w)(e:GV h w=sO b):Qte K v H b:=by
 cases w with
 |non=>rw[r.non_eq];cases e;rfl
 |bl b=>rw[r.bl_eq];cases e;rfl
 |int i=>rw[r.int_eq];cases e;rfl
 |str x=>
  rw[r.str_eq];show qZ2
  ·rename_i q;show ì e #[q,rfl]
  ·cases e
 |tup l=>
  show ze6 a g f d j;cases e;show Ć (΢ #[g,f,zFa])
 |lst l=>
  let#[a,g,rfl,f,d]:=zV j;cases e;show HM jG0
 |frz l=>
  let#[a,g,rfl,f,d]:=j.frzAt r;cases e;show Ğ #[g,f,zFa]
 |ref n=>
  show qZ2
  ·show SZ l o e;let#[_,rfl,g,f,d]:=j.refAt r o;show HM jG0
  ·show(SZ m o e,Š r,ku p f d j o);rw[r.2];show jJ (Υ #[p,f,?_]);let:=Ec d;cases m<;>cases p<;>simp at this ⊢
  ·cases e
 |ty _=>cases e
def QjS(n:SD)(m:jR7:=by intro _;rfl):PMT X a (Kx ma):=
 Qd3 (QgZ n m) λs H Q g=>by
  let#[R,f,h,w,u,l,st,e,k]:=g;show(ĵ a t p r e,ū b o q r,#[R,f,h,a,_,l,st,p,T3 i d j #[_,Qn1 d j o,k R1 H1 i d]])
#print"-"
abbrev Kq:Expr->Bool
 |xn1=>true
 |.SetComp ..=>true
 |.DictComp ..=>true
 |_=>false
def Vr(h:Tk):swapsWith e t l env=CW:=by
 show xc5
abbrev QP:SM:=λa h=>jT a h
abbrev Qn(a b:SM):SM:=λd h=>(a d h).bind λr=>match r with|.nx c e=>b c e|r=>sO r
abbrev Q6(m:ME):SM:=λa h=>(m a h).map λp=>xu5
abbrev ZI(t:MT)(a b:SM):SM:=λc h=>(t c h).bind λp=>match p.1 with|true=>a c p.2|false=>b c p.2
abbrev QQ(m:ME):SM:=λa h=>(m a h).map λp=>zj6 a
abbrev QA(i:Nat)(m:ME):SM:=λa h=>(m a h).map λp=>Rf a p
abbrev QmB(i:Nat)(f:yC)(m:ME):SM:=λa h=>match a[i]? with
 |some zh3=>(m a h).bind λp=>(f x p.1 p.2).map λq=>Rf a q
 |_=>nO
section
variable{X:Cx}{st:Stmt}{rest:jw}{a b:SM}{e:Expr}{m:ME}{pos:Pos}
def QlI:Qcz X [] QP:=Qfa Qkk <|by
 rintro D d H ⟨R,c,h,r,f,s,e,k⟩
 cases e;show k R H d Ε f s
def Qpl{K:Nj}(q:xL (Qn a b)):Qud (tS K a) (tS K b) D σ H:=by
 let#[R,g,h,r,p,s,e,k]:=q;show Ĭ j t f e;refine#[R,g,h,j,p,s,t,?_];cases j with
 |nx c d=>show λR1 H1 l n i o=>#[R1,c,d,r,i,o,f,xM k n]
 |rt w d=>show Χ f k
 |bk c d=>show Χ f k
 |ct c d=>show Χ f k
def Qgj(h1:PMS X st a)(h2:Qcz X rest b):Qcz X xlc (Qn a b):=Qfa (Qf3 h1 h2) λ_ _ _=>Qpl
def Qmh(h1:PMS X st a):Qcz X [st] a:=Qki h1
def Qhe(l:yL)(j:Tk:=by rfl):Am qYg (QQ m):=JH (QlF l (Vr j)) <|by
 rintro D g H ⟨R,c,h,r,i,s,e,k⟩
 show vm w n p o e;show ì o #[R,c,h,w,n,i,s,p,λR1 H1 v f d _=>k R1 H1 g f d (s.mono f)]
def Qls(f:yL):Am qw1 (Q6 m):=JH (Qoc f) <|by
 rintro D l H ⟨R,c,h,r,d,s,e,k⟩
 show(vm w g j i e,ì i #[R,c,h,w,g,d,s,j,k])
def QqH(p:PMT X c t)(u:Qcz X n a)(q:Qcz X l b):Am (.If c n l pos) (ZI t a b):=JH (Qtw p u q) <|by
 rintro D w H ⟨R,d,h,r,o,s,e,k⟩
 show yM z i v j e #[R,d,h,z,i,o,s,v,zoh];cases z with
 |true=>show Qnk #[R1,d,i,r,f,HB g,j,xM k g]
 |false=>show Qnj #[R1,d,i,r,f,HB g,j,xM k g]
def QkE(hN:X.N.Nodup)(hi:ώ)(l:jV)(p:yL)(n:Tk:=by rfl)(o:jM:=by show uu) :
  Am (tq [TN g]) jad:=JH (QjA hN hi l p (Vr n) o) <|by
 rintro D y H ⟨R,c,h,r,j,s,e,k⟩
 show(vm w q u t e,ì t #[R,c,h,w,q,j,s,u,jZ1])
def Qp0(c:æ zNi r):PIp X op r:=c
def QlE(hN:X.N.Nodup)(hi:ώ)(F:jV)(I:æ zNi r)(J:aV)(L:yL)
  (p:jM:=by show uu):Am (qE8 t) (QmB i f m):=
 JH (QqS hN hi F L (Qp0 I) p) λD Y H A=>by
  let#[R,c,h,r,E,s,e,k]:=A;unfold QmB at e;split at e
  ·rename_i B n;show(ĵ w u U S e,vm z M Q P S);cases P;let#[v0,o,g]:=s.2 i _ n;refine#[v0,o,R,c,h,w,u,E,s,U,CB v d l];show J _ _ _ _ #[R1,u,B,w,z,M,l,Su d g,rv,Q,λR2 H2 y q j C=>k R2 H2 _ (Ē d q) j ((s.mono (Ē d q)).set C)]
  ·cases e
#print"-"
abbrev QjJ(r:SC):Ú:=match r with|some zc9=>uj|some (.nx _ h)=>M5 h|_=>nO
abbrev Qx(more:Nat)(m:SM):FM:=λa h=>QjJ (m (a.map sO++List.replicate more nO) h)
def Rst.start{K:Nj}(r:ϡ)(k:Nat)(hk:N.length=ws.length+k):Rst K R (ws.map sO++List.replicate k nO) zQ9:=by
 show Ž c r;unfold L2.start;refine#[by simp[hk,c],Õ i w e]
 by_cases b:i<ws.length
 ·rw[NF p9]at e;rw[NF (by simpa[<-c]using b)];rw[Nt]at e ⊢;show(ū h a g e,Ϥ v f d r a,#[v,Tp f,d])
 show jx1 b e
section
variable{P:Program}{w:World}{K:Nj}{mg:Ĕ}{base:Heap}
def Qpv{st:Stmt}{N ps:Â}{m:SM}(F:tY c)(S:kB)(hN:zFb)
  (g:∀(b:Value) (A:Around) (a:ϓ) (s:Shared) (H:Hp) (E:XK),pH k c b->Qcz (QfS CX0 P w K mg base N c jr f b A a s H E).nox BL m) :
  FnOk P w K mg base CX0 (k+1) f fd ps (spM K ps.length zS3):=by
 refine F.ok S (λv H Q E q=>?_) (λb A a s H v Q E y q=>?_)
 ·let#[R,u,h,w,B,l,j,d,_]:=q;show(u6 d,l)
 ·refine#[_,g b A a s H E y,?_];let#[R,u,h,w,B,l,j,d,e,o]:=q;let st:=Rst.start (N:=N) d more (by rw[hN,l]);unfold Qx QjJ at e;split at e
  ·rename_i C z n;show ì e #[R,_,h,_,j,st,n,o]
  ·rename_i p z n;show ì e #[R,_,h,_,j,st,n,λR1 H1 r t i _=>o R1 H1 .non t i Rw.non]
  ·cases e
#print"-"
section
variable{X:Cx}{CX:CXT}{k:Nat}{f:Addr}{fd:FuncData}{ps:Â}{g:FM}{E:XK}{x:Str}{p pos:Pos}{e:Expr}{es:ā}{ms:MA}
abbrev Qf(n:Nat)(g:FM)(ms:MA):ME:=mFn (λa h=>if a.length=n then g a h else nO) ms
def Qdm{K:Nj}(q:xQ xgj):Qkx (spM K n g) [] E (tIA K ms) σ H Q:=by
 refine Wq xc7 (Õ l H1 b);let#[R,h,c,w,j,d,a,e,k]:=b;show uT e
 ·rename_i i;show#[R,c,h,w,j,i,d,by rw[EM];show a,e,k]
 ·cases e
def Qm9(F:jVb)(d:Tj)(i:Ϭ)(h:nQ)(hk:ny)(l:qOi)(c:vW)
  (m:qZ) (b:ω:=by decide) (j:Ϧ:=by rfl) (a:ju:=by rfl) :
  ą oQ (Qf ps.length g ms):=Q2 (QkB F d i h hk l .nil c m b (Za j) (Z4 a)) λ_ _ _=>Qdm
def Qhd(F:jVb)(i:Tj)(l:Ϭ)(j:nQ)(hk:ny)(m:qOi)(d:vW)
  (a:ω:=by decide):ą m7 (Qf ps.length g Qc):=Q2 (Qf2 F i l j hk m .nil d a) λn H Q q=>by
 let#[R,b,h,o,r,c,st,e,k]:=Qdm (E:=E) q;show qp2 c
#print"-"
section
variable{X:Cx}{x:Str}{p pos:Pos}{e:Expr}{es:ā}{ms:MA}{id T:String}{r:Pe}{f:ŷ}
def QhF(m:ŀ pO r)(j:xu6)(i:Ϭ)(h:vV)(d:ztd)(n:qZ)(g:Se:=by decide)(b:ω:=by decide)
  (l:Ϧ:=by rfl) (a:ju:=by rfl):zs6:=
 Q2 (Qig m i h d n g b (Za l) (Z4 a)) qgj
def Qfr(m:ŀ fA r)(j:xu6)(i:Ϭ)(h:vV)(d:zte)(n:qZ)(g:Se:=by decide)(b:ω:=by decide)
  (l:Ϧ:=by rfl) (a:ju:=by rfl):zs6:=
 Q2 (Qfb m i h d n g b (Za l) (Z4 a)) qgj
#print"-"
inductive Src where
 |l (n:Nat)
 |d (n:Nat)
 |r (n:Nat)
 |v (n:Nat)
 |i (n:Nat)
 |z (n m a b:Nat)
abbrev Src.ok(items:Ã)(h:MH):Src->Prop
 |.l n=>h[n]?=sO (.lst items)
 |.d n=>∃c,Ra/\c.map (·.1)=items
 |.r n=>h[n]?=sO (.lst items.reverse)
 |.v n=>∃c,Ra/\c.map (·.2)=items
 |.i n=>∃c,Ra/\c.map (λp=>Î [p.1,p.2])=items
 |.z n m a b=>∃as bs,h[n]?=sO xu7/\h[m]?=sO (.lst bs)/\(as.zip bs).map (λq=>Î [q.1,q.2])=items/\as.length=a/\bs.length=b
abbrev live(src:A8)(items:Ã)(h:MH):Prop:=∀n,src=sO n->n.ok items h
noncomputable abbrev MI:=jc8 (Ã×A8×MH)
structure ItOk(K:Nj)(R:Rn)(J:It)(items:Ã)(src:A8):Prop where
 go:∀i w R' h H,j9->TU H->Bo->zl8->zf1
 yld:∀i w R' h H x H',j9->TU H->Bo->zl8->zf2 H'->∃R'',Ext R' R''/\Rh K R'' h H'/\Rw K R'' w x
 stop:∀i R' h H,j9->TU H->Bo->items.length<=i->zb6
abbrev tII(K:Nj)(m:MI):TI:=λf H C=>∃R a h items b d,ē/\Tz f/\m a h=sO (items,b,d)/\∀c e J,je c->Rh K c d e->ItOk K c J items b->C J e
abbrev PMI(X:Cx)(a iter:Expr)(m:MI):Prop:=PI X a iter (tII X.K m)
def YY(h:PI X b iter t)(i:∀σ H C,t' σ H C->t σ H C):PI X b iter t':=ca C
noncomputable abbrev MG:=W->MSt->MH->Option MSt
abbrev tIG(K:Nj)(b:MG):TG:=λv g H C=>∃R a h w c,ē/\Tz g/\õ w/\b w a h=sO c/\∀e f d,je e->Rh K e h f->Rst K e c d->C d f
abbrev PMG(X:Cx)(a:Expr)(b:MG):Prop:=PG X a (tIG X.K b)
def QiQ(h:PG X b t)(i:∀v σ H C,t' v σ H C->t v σ H C):PG X b t':=λa s σ H v u C I r q=>h a s σ H v u C I r (i _ _ _ _ q)
abbrev QZ(i:Nat):MG:=λw a _=>sO (a.set i vT)
def Qf7(hN:X.N.Nodup)(hi:ώ)(d:jV)(f:jM:=by show uu) :
  PMG X fe (QZ i):=QiQ (QfO hN hi d f) <|by
 rintro v g H C ⟨R,a,h,w,b,c,st,rw,e,k⟩
 cases e;show Ļ c (st.set rw)
open Classical in
set_option backward.eqns.deepRecursiveSplit false in
abbrev Zp(items:Ã)(src:A8)(b:MG)(body:SM):Ã->SM
 |[],σ,h=>if Bo then cV else nO
 | w::r,σ,h=>if Bo then(b w σ h).bind λσ1=>(body σ1 h).bind λz=>match z with
   |.nx σ2 h2=>zEd σ2 h2
   |.ct σ2 h2=>zEd σ2 h2
   |.bk σ2 h2=>yE
   |.rt v h2=>AO h2
  else nO
abbrev ZR(mi:MI)(b:MG)(body:SM):SM:=λa h=>(mi a h).bind λp=>Zp p.1 p.2.1 b body p.1 a p.2.2
section
variable{X:Cx}{tg iter:Expr}{body:jw}{mi:MI}{b:MG}{m:SM}{pos:Pos}
def QpD{K:Nj}(q:xL xh0):QuZ xn2 xu9 (tS K m) D σ H:=by
 let#[R,A,h,r,rh,s,e,k]:=q;show jBj t;refine#[R,A,h,items,t,h1,rh,s,e1,λR1 H1 J x1 ae it=>?_];refine#[λi n σ H=>qV4/\∃R2 g l,jaa/\Rh K R2 l H/\Rst K R2 g σ/\∃r,Zp items t b m qV5 g l=sO r/\H9 R2,#[items.length,Å,R1,A,h1,CU,ae,HB x1,r,é e2,xM k x1],?_]
 rintro i n E H2 ⟨ah,R2,g,l,I,j,s2,r2,d,M⟩
 by_cases N:xc8
 ·obtain⟨w,hw⟩:∃w,zl8:=#[jd4,Nn N]
  let hd:eS=w::qV6:=by
   rw[EF N];rw[Nn N]at hw;cases hw;rfl
  show qCi
  ·rename_i S;show(Ĭ C e4 e5 d,Ĭ z e6 U e5);show jJ #[it.go i w R2 l H2 I j S hw,λF Y=>∃y B h4,Ext R1 y/\Rh K y h4 Y/\Rst K y B F/\∃r,Zp items t b m (items.drop (i+1)) B h4=sO r/\H9 y,λF Y hn=>#[n-1,ć,ć,hn],λx Y hy=>?_];let#[y,p,ab,Z]:=it.yld i w R2 l H2 x Y I j S hw hy;refine#[y,g,l,w,C,ab,s2.mono p,Z,e4,λR4 H4 af u aa s4=>?_];refine#[R4,C,l,z,aa,s4,e6,?_];cases z with
   |nx f P=>show jPj
   |ct f P=>show jPj
   |bk f P=>cases U;show λQ H5 a o c L=>M Q H5 a (uE p u o) c L
   |rt v P=>cases U;show After.ext M (Ē p u)
  ·cases d
 ·let hd:eS=[]:=DL (jE N);show qCi
  ·show(ſ S d,Ğ #[it.stop i R2 l H2 I j S (jE N),M R2 H2 E Ε j s2])
  ·cases d
def QlD(c:pG)(e:ĥ)(hi:fi)(d:zL X)(f:xn3)
  (a:Bb:=by intro _;rfl):Am qub xh0:=JH (Qpj c e hi d f a) λ_ _ _=>QpD
#print"-"
set_option backward.eqns.deepRecursiveSplit false in
abbrev Qs(t:MT)(body:SM):Nat->SM
 |0,_,_=>nO
 | n+1,σ,h=>(t σ h).bind λp=>match p.1 with
  |false=>sO (.nx σ p.2)
  |true=>(body σ p.2).bind λz=>match z with
   |.nx σ2 h2=>zr n σ2 h2
   |.ct σ2 h2=>zr n σ2 h2
   |.bk σ2 h2=>yE
   |.rt v h2=>AO h2
section
variable{X:Cx}{c:Expr}{body:jw}{t:MT}{m:SM}{pos:Pos}
def Qiw{K:Nj}(q:xL xn4):QiT (tIT K t) (tS K m) D σ H:=by
 let#[R,E,h,r,Z,s,e,k]:=q;refine#[λn σ H=>∃R2 b B,Rh K R2 B H/\Rst K R2 b σ/\∃r,Qs t m n b B=sO r/\H9 R2,#[n,R,E,h,Z,s,r,e,k],?_]
 rintro n j H2 ⟨R2,b,B,I,F,N,J,w⟩
 cases n with
 |zero=>cases J
 | succ n=>
  unfold Qs at J;show yM z Q e3 S J #[R2,b,B,z,Q,I,F,e3,Ł U H3 g u];cases z with
  |false=>
   cases S;show Qnj (w U H3 j g u (F.mono g))
  |true=>
   show Ĭ y e5 C S;refine Qnk #[λl Y=>∃L i P,Rh K L P Y/\Rst K L i l/\∃r,Qs t m n i P=sO r/\H9 L,λl Y hn=>#[n,N5 _,hn],?_];refine#[U,b,Q,y,u,F.mono g,e5,?_];cases y with
   |nx f x=>show jUg
   |ct f x=>show jUg
   |bk f x=>cases C;show λA M a o d p=>w A M a (Ē g o) d p
   |rt v x=>cases C;show After.ext w g
def Qdh(n:Nat)(a:pG)(b:PMT X c t)(d:xn3):Am qAh xn4:=JH (Qh9 a b d) λ_ _ _=>Qiw
#print"-"
section
variable{prog:Program}{w:World}{A:Around}{E:Ñ}{R:cF}{s:Shared}
def GM(I:zla)
  (q:∀n s,I n s->wpAny Ĝ A (pyNext it) (λr d=>match r with
   |none=>R qEg d
   | ã v=>wpAny Ĝ A (letOwnedTupleGo target it v) (λ_ b=>wpAny Ĝ A (assign target env v) (λ_ i=>
     wpAny Ĝ A (forIn t true λc r=>if r=true then do let ok <-isTrue c env (SJ c);pure qdj else jli) (λok a=>
      if ok=true then wpAny Ĝ A (SJ B) (λx g=>
       iu A (call (.builtin "list.append") [C,x]) (λ_ f=>∃m,m<n/\I m f) jS g) jS a
      else∃m,m<n/\I m a) jS i) jS b) jS d) jS s)
  (n:Nat) (h:I n s) :
  nU (.compLoop qcf 0 it C env) R s:=by
 refine codeAny_loop rfl I (λn s hI=>?_) n h;apply wpAny _ A ((compTurn qcf 0 it C env).onRaise (λx=>do noteFrame x env;theTreesLotGoes x)) _ _ s;refine wpAny_noted ?_;rw[compTurn_list];show Æ (Ya7 (Na (Ej (q n s hI) (Ak r d l) Pa)));cases r with
 |none=>show Nl l
 | some v=>
  show Æ (Ej l (λ_ b p=>?_) Pa);show ı (Ej p (λ_ i z=>Na (Ej z (λok a j=>?_) Pa)) Pa);cases ok with
  |false=>show ħ (ϔ j)
  |true=>
   show Na (Na (Ej j (λx g y=>Na (Ej y (λ_ f u=>Nl (CG (ϔ u))) Pa)) Pa))
#print"-"
def sz{h:Heap}(e:HX)(a:h.objs.size<=n):¬b=n:=λz=>by
 let c:@LT.lt Nat instLTNat b h.objs.size:=NN e;subst z;show Em _ (Nf c a)
noncomputable abbrev blk(X:Cx)(a:Scope)(b:CA)(Nb:Â)(s₀:Shared)(H₀:Hp)(C:Addr)(ex:Κ)(pn:Û):Cx:=
 { X with N:=Nb,s₀:=s₀,H₀:=H₀,env:=compEnvC a b C X.env,outer:=X.stack,stack:=X.stack,ex:=ex,fn:=λ_=>false,pn:=pn,xe:=eI }
structure BlkOk(X:Cx)(scope:Scope)(cl:CA)(Nb:Â)(cp:χ):Prop where
 clos:closureFor scope X.env=pure cl
 cell:∀y∈scope.names,zV0
 kind:scope.kind=.function
 names:∀y∈scope.names,y.2=.local->scope.names.lookup y.1=CQ
 sub:∀x c,zMj->Ax
 has:∀x,jE3->∃c,zMj
 len:zJ3
 cap:∀(i j:Nat) (x:Str),qH1->Nb[i]?=sO x->X.N[j]?=sO x/\f9/\jDj/\jE3
abbrev Uz(cp:χ)(σ:L2.St):L2.St:=jp1
abbrev Qiq(l:TI)(cp:χ)(g:TG)(tt:TT)(te:TE):TE:=λf H Q=>l f H λJ H1=>∃W:Nat->Nat->Ö->L2.St->Ŧ,(∃m,W 0 m [] (Uz cp f) H1)/\∀i m a e H,W i m a e H ->
 (zb6/\∀D,H D=nO->Q oq jkj) \/
 (zf1/\∀x j,zf2 j->g x e j λc H2=>tt c H2 λb h=>if Md then te c h λv n=>uR/\∃d,d<m/\W (i+1) d (a++[v]) c n else∃d,d<m/\W (i+1) d a c h)
def Inv.track(I:ĳ d)(g:H D=nO)(h0:X.s₀.heap.objs.size<=D)(hL:X.env.locals≠D)(l:∀x c,Ax->c≠D)
  (j:∀p∈X.pn++d,p.1≠D) (ob:ObjOk X.prog X.w (Ą D o) s.heap D o):ŕ d σ (Ą D o) s where
 ok:=I.ok
 os:=I.os
 bare:=I.bare
 base:={
  keep:=I.base.keep
  slot:=I.base.slot
  free:=λb q e n nx=>by
   let:b≠D:=sz e h0;rw[Qu this];show I.base.free b q e n nx
  there:=I.base.there
  tups:=λb h e=>by
   let q:=I.base.tups b h e;show mE z q
  frzs:=λb q u e=>by
   let z:=I.base.frzs b q u e;show mE y z
  tbls:=λb i e=>by
   let#[more,q]:=I.base.tbls b i e
   show#[more,jX (λz=>zM0 q) q] }
 loc:=I.loc
 cell:=I.cell
 free:=by rw[Qu hL];show I.free
 freeC:=λx c e=>by rw[Qu (l x c e)];show jef e
 pin:=λp f=>by
  let#[a,b,c]:=I.pin p f;show#[a,jX (j p f) b,c]
 hok:=λa u e=>by
  show Ě z a D
  ·subst z;show(â Z9 e,ob)
  ·rw[Qu z]at e;refine(I.hok a u e).stay (zW8 q) (jf b q) (Ak b h q)
   ·show mE y q
   ·show mE y q
 len:=I.len
section
variable{X:Cx}{elt tg iter:Expr}{ifs:ā}{scope:Scope}{pos:Pos}{cl:CA}{Nb:Â}{cp:χ}{wi:TI}{g:TG}{tt:TT}{te:TE}
def Cx.Ok.blk(B:Cr)(I:ĳ d)(f:∀b∈l,Hz d H)(i:∀b∈l,nj)(j:qL6) :
  (blk X scope cl Nb s H C l p).Ok where
 mod:=I.ok.mod
 kind:=B.kind
 glob:=I.ok.glob
 blt:=I.ok.blt
 above:=j
 inj:=λx y c n m=>I.ok.inj x y c (B.sub x c n) (B.sub y c m)
 has:=λx h=>B.has x h
 cab:=λx c h=>Ai h Ç
 hd:=I.ok.hd
 frames:=I.ok.frames
 stk:=SH
 exf:=ŗ b a #[λz=>by let:=i b a;rw[z]at this;show ý j qZ3,qji f a]
 bs:=I.bs
 bsz:=qUj
 noex:=λb o e a=>by
  rcases(f b a).2.2.2.1 with z|z
  ·show I.ok.noex b o e z
  ·show sz e (Nh I.ok.bsz z) rfl
 exfs:=λb a z=>by
  let:=I.stkSub b z
  rcases NK.mp this with q|q
  ·show(f b a).2.1 q
  ·show(f b a).2.2.1 q
 funs:=I.stack
 frf:=λb a=>I.stkFree b a
def QeK{cp:χ}{σ:L2.St}{i:Nat}{v:V}(e:(Uz cp σ)[i]?=sO θ):∃j,qH1/\σ[j]?=sO θ:=by
 unfold Uz at e;rw[Nt]at e;show Az o b a e;cases o with
 |none=>cases a
 |some j=>
  show(Hq j b,zWb a)
  ·rename_i u hu;rw[hu,a]
  ·cases a
def Inv.blk{H:Hp}{C:Addr}{M:Κ}{tk:Nat}(B:Cr)(I:ĳ f)(P:∀b∈M,Hz f H)(E:∀b∈M,nj)
  (F:qL6) (A:h'.Ns C m) (hk:∀b o,yz):Inv (zv9 s H M (X.pn++f)) [] xn5 H { s with heap:=h',toks:=tk } where
 ok:=Cx.Ok.blk B I P E F
 os:=rfl
 bare:=I.bare
 base:=Un.kept hk
 loc:=by
  refine#[m,A,λi x v hN e hv=>?_];let#[j,Y,U]:=QeK e;let#[S,t,D,w]:=B.cap i j x Y hN;let#[m0,n0,lk]:=I.loc;let#[u,r,l]:=lk j x v S U t;show Hq u r
  rcases l with⟨h,_⟩|⟨_,c,Q,n⟩
  ·rcases D with z|z<;>rw[z]at h<;>cases h
  ·show jp9 (HA w);let#[Z,y]:=B.has x w;let:=B.sub x Z y;show Bq Q
   show#[c,y,by
    show uk o L J n #[o,hk _ _ L,J]]
 cell:=λx c e=>by
  let#[v,o,L,J]:=Hv I zE9;show#[v,o,hk _ _ L,J]
 free:=zj7 I F
 freeC:=λx c e=>jef zE9
 pin:=λp N=>by
  rw[EM]at N;let#[a,b,c,d,e]:=I.pin p N;refine#[hk _ _ a,b,è z,è z,e]
  ·let:=NN a;rw[z]at this;show ý F qZ3
  ·show CP (I.stkSub _ z) q
   ·show c q
   ·show d q
 hok:=I.hok.kept hk
 len:=by unfold Uz;rw[Nr];show B.len
abbrev QtA(X:Cx)(a:Û)(σ:L2.St)(use:Option (Value->Sem Unit))(Q:VK)(Q':Ñ):Prop:=
 ∀(D C:Addr) (d:Hp) (b:Shared) (m:Ĕ),ŕ a σ d b->b.heap.Ns C m->d C=nO->¬C=X.env.locals->X.s₀.heap.objs.size<=C->(∀x c,Ax->c≠C)->(∀p∈X.pn++a,p.1≠C)->Q oq d ->
  jU9 b
def Qa2(hc:ĥ)(B:Cr)(hi:re)(hg:∀S Y C ex pn,PG sV tg g)
  (ht:∀S Y C ex pn,∀(j:Û) (s:Shared) (τ:L2.St) (H:Hp) (Q:Bool->Ŧ),Inv sV j τ H s->tt τ H Q ->
   qv zv7 (TP sV j τ Q) jS)
  (he:∀S Y C ex pn,PE sV elt te) (hs:Bb)
  (I:Ż j σ) (h:Qiq wi cp g tt te σ H Q) (a5:QtA X j σ use Q Q') :
  ġ (comprehension (px zyb) scope X.env bo xc9 false zK6 use) Q' s:=by
 refine wpAny_comprehension_free (use:=use) rfl hs B.clos B.kind B.names (Ej (hi j s σ H _ I h) (λxv bn aa=>Ej aa (λbp f a2=>?_) (jv e)) (jv e));let#[it,fp,tn,J,H2,rfl,I2,T,as,f2,W,#[m0,w0],az]:=a2
 let av:∀b∈fp,b<f.heap.objs.size:=λb E=>by
  let#[o,e,_]:=T.obj _ _ as b E;show NN e
 refine EA (wpAny_newFunctionEnv B.cell (by intro y hy;simp at hy) (λaa N F=>?_) B.kind);dsimp only at N F ⊢;generalize aw:f.heap.push { cls:=Ę,dict:=nO,data:=.seq ([]:Ë).toArray }=G2 at N F ⊢;let am:G2.objs.size=f.heap.objs.size+1:=by rw[<-aw,DR]
 generalize bf:G2.objs.size=C at N F ⊢;rw[bf]at am;let ae:qL9:=SQ Ω xca
 let aj:f.heap.objs.size≠C:=by show NL (Nf Af xca)
 let old:∀b o,BM f b=sO o->aa.get? b=sO o:=λb o e=>F.extBut b o (sz e ae) (Np _ (aw▸Ŗ e));let ao:aa.get? f.heap.objs.size=sO { cls:=Ę,data:=.seq ([]:Ë).toArray }:=F.extBut _ _ aj (Np _ (aw▸ŭ));generalize hD:f.heap.objs.size=D at ao aj ae am ⊢;let m:f.heap.objs.size<=D:=Nv hD;let P:qL9:=Nh m ae;let I3:=Inv.blk (tk:=f.toks+([]:S4).length) B I2 f2 av (C:=C) (Nh (Nv hD) ae) N old;let ap:D∉fp:=λz=>Em _ (Nf (av D z) m);let a6:C∉fp:=λz=>Em _ (Nf (av C z) P)
 let ay:∀x c,zMj->c≠D:=λx c e z=>by
  let#[v,o,h3,_]:=Hv I2 zE9;show sz h3 m z
 let aq:∀p∈X.pn++j,p.1≠D:=qH2 m;let a8:∀p∈X.pn++j,p.1≠C:=qH2 P
 let bh:D∉zU7:=λz=>by
  show CP qZ4  q
  ·show zCc q D m
  ·show I2.nofs m q
 let ak:∀{t:Hp} {pl:Û},Rq->(∀p∈pl,p.1=D)->∀b∈fp,QcD Pj pl t b:=λ{t pl} hn bc b E=>
  #[hn b E,λ(z:b=C)=>a6 jd5,λz=>by
   show CP qZ4  q
   ·show(f2 b E).2.1 q
   ·show(f2 b E).2.2.1 q,Ý E,qji f2 E,λp U z=>by
   show γ U q
   ·show(f2 b E).2.2.2.2.2 p q z
   ·rw[bc p q]at z;show ap jd5]
 let bq:∀{t:Hp},Rq->∀b∈fp,Hz j t:=qAj E
 let fin:∀{τ:L2.St} {t:Hp} {M:Shared} {L:Ö} {l:Ë} {n:Nat} {mC:Ĕ},si τ t M->t D=nO->BM M D=sO { cls:=Ę,data:=.seq l.toArray n }->Vals L l->qO8->M.heap.Ns C mC ->
   (∀D,t D=nO->Q (ú D) (upd t D (Ï L)))->jU9 M:=by
  intro τ t M L l n mC Ib al ax r hz bd q;let Ie:ŕ j σ t M:=I2.call' (ch:=fp) (Ib.os) Ib.base Ib.hok Ib.bare λb E=>qed f2 E
  let a3:X.s₀.heap.objs.size<=f.heap.objs.size:=I2.sz
  let It:ŕ j σ (upd t D (Ï L)) M:=Inv.track Ie al (Nh a3 m) (λz=>zCc z D m) (λx c e z=>by
   let#[v,o,h3,_]:=Hv I2 e
   show sz h3 m z) aq #[hz,l,n,r,ax]
  show a5 D C _ M mC It bd (by rw[Qu (Eb aj)];show Ib.free) (λz=>zCc z C P) (Nh a3 P) (λx c e z=>by
   let#[v,o,h3,_]:=Hv I2 e
   show sz h3 P z) a8 (q D al)
 let an:∀ah:Shared,ah={ f with heap:=aa,toks:=f.toks+([]:S4).length } ->
   codeAny qq X.A (.compLoop (px zyb) 0 PH (ú D) jQc)
    (compPost qq X.A X.xe use Q' (ú D) C) ah:=by
  rintro ah rfl
  refine GM (λn M=>∃i τ t L l k,si τ t M/\M0 M/\Rq/\t D=nO/\BM M D=sO { cls:=Ę,data:=.seq (l:Ë).toArray k }/\Vals L l/\qO8/\W i n L τ t) ?_ m0
   #[0,Uz cp σ,H2,[],[],_,I3,T.keep _ _ _ as qB7,Sv E f2,zj7 I2 m,ao,.nil,NO _,w0]
  rintro n s3 ⟨i,τ,H3,L,l,k,Ib,a0,a7,al,ax,r3,au,w3⟩
  let a1:∀{Z:L2.St} {t:Hp} {M:Shared},si Z t M->t D=nO->BM M D=sO { cls:=Ę,data:=PZ } ->
    qa9:=λ{Z t M} I' hn ho=>I'.pins_of λp U=>by
   rw[ND]at U;show zzd U #[ho,hn,aj,bh,by intro v;simp]
  let a9:=a1 Ib al ax;let ab:∀p∈[(D,({ cls:=Ę,data:=PZ }:Obj))],p.1=D:=λp U=>by rw[ND]at U;subst U;rfl
  let ba:∀{Z:L2.St} {t:Hp} {M:Shared},qa9->BM M D=sO { cls:=Ę,data:=PZ }/\t D=nO:=λI'=>by
   let#[a,b,_]:=I'.pin (D,_) ja3;show B3 a b
  rcases az i n L τ H3 w3 with⟨stop,qn⟩|⟨go,step⟩
  ·refine Ej (T.done Pj rfl rfl rfl hc i _ s3 τ H3 jS a9 xn6 a0 stop) (Ak r s4 xt4) (S8 z);subst hr;let#[o4,n4]:=ba I4;let#[m4,bb,_]:=I4.loc;let bm:si τ H3 s4:=I4.pins_of λp U=>AS U
   show fin bm n4 o4 r3 au bb qn
  ·refine Ej (T.item Pj rfl rfl rfl hc i _ s3 τ H3 jS a9 xn6 a0 go) (Ak r s4 xg7) (S8 z);subst hr;refine Ej h4 (λ_ s5 z1=>?_) (S8 z);let#[x,H5,I5,r5,y5,ar,bg]:=z1;let bj:=I5.pinned (ak bg ab) (T.obj _ _ ar);refine Ej (hg f H2 C fp ka _ s5 τ H5 x u _ bj r5 qUe) (λ_ s6 z0=>?_) (S8 z);let#[af,H6,I6,q6]:=z0;refine Ej (ht f H2 C fp ka _ s6 af H6 _ I6 q6) (λok s7 #[H7,I7,q7]=>?_) (S8 z)
   let ai:∀{Z:L2.St} {t:Hp} {M:Shared},Inv Pj ([(D,{ cls:=Ę,data:=PZ })]++UQ fp s5.heap) Z t M->tn (i+1) M.heap/\Rq/\BM M D=sO { cls:=Ę,data:=PZ }/\t D=nO:=λ{Z t M} I'=>by
    refine#[T.keep _ _ _ ar λb E o e=>(I'.pin (b,o) (bK E)).1,Ô b E,?_]
    ·let#[o,e,d]:=T.obj _ _ ar b E;show(I'.pin (b,o) (bK E)).2.1
    ·let#[a,b,_]:=I'.pin (D,{ cls:=Ę,data:=PZ }) (NY _ (NU _ zCf));show B3 a b
   cases ok with
   |false=>
    rw[Ó N9]at q7 ⊢;let#[m',hm,w7]:=q7;let#[t7,f7,o7,n7]:=ai I7;show#[m',hm,i+1,af,H7,L,l,k,I7.pins_of (λp U=>AS U),t7,f7,n7,o7,r3,au,w7]
   | true=>
    rw[į]at q7 ⊢;refine Ej (he f H2 C fp ka _ s7 af H7 _ I7 q7) (Ak y s8 z1) (S8 z);let#[v8,H8,I8,r8,be,m',hm,w8]:=z1;let#[t8,f8,o8,n8]:=ai I8;show Ž a4 r3;refine Lg LU (Ϡ o8) Ybf xth (YbE D l.toArray k y (by rw[Nz];show Nh (İ a4) au)) (HA o8);let q:=YbR o8 (·.push y);let hf:l.toArray.push y=(l++[y]).toArray:=Å
    rw[hf]at q;let bi:Inv Pj [] af H8 s8:=I8.pins_of λp U=>AS U
    let I9:Inv Pj [] af H8 { s8 with heap:=s8.heap.update D (Obj.mapSeq (·.push y)),toks:=s8.toks }:=
     bi.turned (it:=D) (λb o E e=>(EJ s8.heap (Obj.mapSeq (·.push y)) (Eb E)).trans e) n8 aj (Ė m) (λx c e=>ay x c e) λp U=>by
      rw[EM]at U;show aq p U
    refine#[m',hm,i+1,af,H8,L++[v8],l++[y],_,I9,T.keep _ _ _ t8 (λb E o e=>(EJ s8.heap (Obj.mapSeq (·.push y)) (λ(z:D=b)=>ap jd5)).trans e),f8,n8,q,r3.append (du r8),by rw[NJ,Er];show be,w8]
 show codeAny_compStart_list xn7 (T.self _ 0 _ _ _ (T.keep _ _ _ as qB7) xn7)
def Qec(L:ĥ)(B:Cr)(hi:re)(F:∀a d C l j,PG gj tg g)
  (v:∀a d C l j,∀(f:Û) (s:Shared) (n:L2.St) (H:Hp) (Q:HZ),Inv gj f n H s->tt n H Q ->
   qv zv7 (TP gj f n Q) jS)
  (J:∀a d C l j,PE gj elt te) (y:Bb:=by intro _;rfl) :
  Ĺ lX qH3:=by
 show đ f Y Q;rw[eval_ListComp];refine Qa2 L B hi F v J y I h λD C U u m S p E hL N i z q=>#[m,p,Ô P t]
 show#[Ä D,U,S.turned (t':=u.toks) (it:=C) (λb o M e=>t.extBut b o M e) E hL (Ė N) i z,rfl,q]
def Qd9(hN:X.N.Nodup)(S:ώ)(hx:jV)(hf:jM)(L:swapsWith lX (sO zH0) u.line X.env=xD)
  (hc:ĥ) (B:Cr) (hi:re) (hg:∀d f C t p,PG lB tg g)
  (ht:∀d f C t p,∀(l:Û) (s:Shared) (F:L2.St) (H:Hp) (Q:HZ),Inv lB l F H s->tt F H Q ->
   qv zv7 (TP lB l F Q) jS)
  (he:∀d f C t p,PE lB elt te) (hs:Bb:=by intro _;rfl) :
  PS X (.Assign [TN j] lX u) (QqY qH3 zfh):=by
 show đ l σ D;rw[exec_Assign_Name_used _ _ _ _ L];show Æ (Ya7 aO);apply wpAny _ X.A (do let _ <-comprehension lX scope X.env _ xc9 false zK6 (sO qli)) _ _ s;show ı (Ej (Qa2 (use:=sO qli) (Q':=λ_ E=>SP X l D .next E) hc B hi hg ht he hs I h λU C H' E m I' M hn hL h0 n hp q=>?_) (λ_ E hq=>Nl (Nl hq)) gp);apply wpAny _ X.A (assign zH0 X.env (ú U)) _ _ E;refine wpAny_assign_Name (UM (v:=Ä U) I' hN S hx rfl (Ak Z I5 #[a,Y,y]) hf)
 let P:C≠a:=λz=>by
  show j6 y
  ·show hL (Ē z y)
  ·show n x a y z.symm
 show#[m,M.sameBut Y P,λaa J=>#[_,H',I5.turned (t':=Z.toks) (it:=C) (λb o hb e=>J.extBut b o hb e) hn hL (Ė h0) n hp,q]]
#print"-"
abbrev IterR(X:Cx)(c:Expr)(r:V->qtg):Prop:=
 ∀(a:Û) (s:Shared) (b:L2.St) (H:Hp) (x:V) (v:Value) (C:It->Ŧ),Ż a b->Ab->r x H C->ġ (TX v) (PIE X a b c C) s
section
variable{X:Cx}{tg:Expr}
def IterR.or(h:iY r)(h':iY d):iY (λx H C=>r x H C\/d x H C):=λa s b H x v C I c q=>by
 show j6 q
 ·show h a s b H x v C I c q
 ·show h' a s b H x v C I c q
def it_list:iY (λx H C=>∃a,Aw/\(∃xs,rQ)/\C (Itl X.K a) H):=by
 intro d c l H1 x v C I1 f g;show jG2 g f;let#[h,rv,p,n]:=zT i;refine FC p.isList ?_;refine#[c.heap.objs.size,fH c,_,_,H1,rfl,pZ c,Qer a _,yB,Ô b j,q];show jJb
def Qqk:iY (λx H C=>∃a,Aw/\(∃xs,rS)/\C (Itt X.K a) H):=by
 intro f c l H1 x v C I1 g h;show jG2 h g;let#[d,rv,p,n]:=I1.tuple i;refine IW (zyi c a d p) ?_;refine#[c.heap.objs.size,fH c,_,_,H1,rfl,pZ c,Qcg a _,yB,Ô b j,q];show jJb
abbrev Its(x:Str):It:=#[λi _=>zS4,λi H v a=>a=H/\∃c,jae=sO c/\v=Ù w9,λi _=>zQe]
abbrev Uo(x:Str):Ã:=x.cps.toList.map λc=>Ù w9
def Qgl{P:Program}{w:World}{K:Nj}{tg:Expr}(it:Addr)(x:Str)(ty:String)(t:Tok)(f:qCj\/qS3) :
  Turn P w K tg (Its x) [it] it (λi h=>i<=x.cps.size/\h.IsStrIter it ty x t i) where
 mem:=Å
 obj:=λi h st b j=>by
  show zjj
 keep:=λi h l st k=>#[st.1,let#[o,ho,r]:=st.2;#[o,k it Ç o ho,r]]
 item:=by
  intro X M hw N L i a s J H E I q st p;show(qH4,HH q);let g:zS4:=p;let m:jae=sO (x.cps[i]'g):=NR g
  let fin:∀l:Heap,l.IsStrIter it ty x t (i+1)->zK1 l->∃u,sO (Value.str qLj s.toks)=sO u/\wpAny qq X.A qj2 (λ_ U=>∃y S,ŕ a J S U/\ñ y/\(Its x).yld i H y S/\(i+1<=x.cps.size/\U.heap.IsStrIter it ty x t (i+1))/\∀b∈[it],S b=nO) E { s with heap:=l,toks:=A7 }:=λl n Z=>by
   let I1:Inv X a J H { s with heap:=l,toks:=A7 }:=I.turned (HW o j e Z) F f1 D C B;show fF n;refine#[_,rfl,Gk (s:={ s with heap:=l,toks:=A7 }) e c d (by rcases f with z|z<;>rw[z]<;>decide) #[Ù qLj,H,I1,þ,#[rfl,_,m,rfl],ĺ p n,Sv j q]]
  show AN f
  ·subst z;show wpAny_pyNext_ascii_item st m fin
  ·subst z;show wpAny_pyNext_wide_item st m fin
 done:=by
  intro X M hw N L i a s J H E I q st p;show(qH4,HH q);let m:jae=nO:=by let:zQe:=p;simp;show this
  show AN f
  ·subst z;show wpAny_pyNext_ascii_end ow st m (ŗ l Q #[rfl,I.turned (t':=s.toks) (eF j Q) F f1 D C B])
  ·subst z;show wpAny_pyNext_wide_end ow st m (ŗ l Q #[rfl,I.turned (t':=s.toks) (eF j Q) F f1 D C B])
 self:=λ_ _ _ _ _ st h=>by
  show AN f
  ·subst z;show wpAny_pyIter_striter_ascii st.2 h
  ·subst z;show wpAny_pyIter_striter_wide st.2 h
def QnN:iY (λx H C=>∃y,x=Ù y/\C (Its y) H):=by
 intro c a g H1 x v C I1 h i;show zk3 y i h
 let fin:∀ty,(qCj\/qS3)->PIE X c g tg C (xlf a) { a with heap:=a.heap.push { cls:=.type ty,data:=.fields #[.str y t,nB,] } }:=λty d=>by
  refine#[a.heap.objs.size,fH a,_,_,H1,rfl,pZ a,Qgl _ y ty t d,#[NO _,_,ŭ,rfl,rfl],Ô b j,q];show znc a j
 cases f:y.cps.all (·<128)
 ·show wpAny_pyIter_wide f (fin _ xh)
 ·show wpAny_pyIter_ascii f (fin _ AL)
#print"-"
set_option backward.eqns.nonrecursive false in
abbrev Vy(h:MH):W->Option (Ã×A8)
 |ŉ=>zXh
 |Ŀ=>zXh
 |AT=>zXh
 |Ù x=>sO (Uo x,nO)
 |Ä n=>match h[n]? with|qd=>sO (ws,sO zUi)|_=>nO
 |_=>nO
abbrev Qm(m:ME):MI:=λa h=>(m a h).bind λp=>(Vy p.2 p.1).map λq=>(q.1,q.2,p.2)
section
variable{K:Nj}{R:Rn}
def UD(d:t5)(r:ύ):ItOk K R xt2 ws nO where
 go:=λi w j h H x c _ e=>by
  show(jei g r,#[xs,v,jZ7,g])
 yld:=λi w j h H x s e c _ q l=>by
  show jE4;let:=m xs (Zf (zvc c e) d);show jrd
 stop:=λi j h H x c _ n=>#[xs,jZ7,uF r n]
def QgY(d:zP5)(r:ύ):ItOk K R xt3 ws nO where
 go:=λi w j h H x c _ e=>by
  show(jei g r,#[xs,v,jZ8,g])
 yld:=λi w j h H x s e c _ q l=>by
  show jE4;let:=m xs (Zr (zvc c e) d);show jrd
 stop:=λi j h H x c _ n=>#[xs,jZ8,uF r n]
def Qha(g:n<R.N):ItOk K R (Itl K Ŏ) ws (sO zUi) where
 go:=λi w o h H x b d e=>by
  show(zp9,jei m f);rw[x.ρ n g]at a;show#[c,v,yu a,m]
 yld:=λi w o h H x t e b d s p=>by
  show(BE q p,zp9,Ϥ v m r f s);rw[e.ρ n g]at a;let:=q c (SqL.of a);show(Bq m,#[o,CU,b,r])
 stop:=λi o h H x b d j=>by
  show zp9;rw[x.ρ n g]at a;show#[c,yu a,uF f j]
def Qhh:zS (Its x) (Uo x) where
 go:=λi w b h H _ _ _ e=>by
  let:=Ü e;apply zS4;simpa[Uo]using this
 yld:=λi w b h H v l e d _ a f=>by
  let#[rfl,c,j,rfl]:=f;unfold Uo at a;rw[Nt,NT,j]at a;show ì a #[b,CU,d,Rw.str _]
 stop:=λi b h H _ _ _ g=>by
  apply zQe;simpa[Uo]using g
def Y4{lo:Int}:zS xld ((List.range n).map qkb) where
 go:=λi w b h H _ _ _ e=>by
  let:=Ü e;apply i<n;show ϻ
 yld:=λi w b h H v m e d _ c f=>by
  show uX f;rw[Nt]at c;show(Az j a l c,jW2,ì l #[b,CU,d,jd2])
 stop:=λi b h H _ _ _ g=>by
  apply n<=i;show Aj g
#print"-"
section
variable{X:Cx}{tg a b c:Expr}{ma:ME}{ms:MA}{pos p:Pos}
def QmF(P:SD):MW a (Qm ma):=by
 intro i s B H C I q;let#[R,r,h,items,D,h',F,st,e,k]:=q;show ĵ w S e1 Z e;let#[#[M,sr],g,Y]:=ϗ Z;cases Y;refine thn (P i s B H _ I #[R,r,h,w,S,F,st,e1,CB v l d]) λv E #[x,H1,I1,J,L]=>((it_list.or Qqk).or QnN) i E B H1 x v C I1 J L;cases w with
 |tup u=>
  cases g;let#[ad,t,rfl,A,Q]:=d.tupAt rv;show zg5;let#[o,f,U,j,m]:=rv;cases U;show Ğ (Υ #[_,rfl,ĺ t A,BU l d (QgY j m)])
 |lst u=>
  show(qlj,Ğ (΢ #[_,rfl,#[f,SqL.of (d.sub _ _ j)],BU l d (UD (SqL.of j) m)]))
 |frz u=>
  show(qlj,Ğ (΢ #[_,rfl,#[f,Zf d.sub j],BU l d (UD j m)]))
 |str y=>
  cases g;rw[rv.str_eq];show Ć #[y,rfl,k R1 H1 _ l d Qhh]
 |ref n=>
  simp only[Vy]at g;split at g
  ·show SZ u N g;let#[z,rfl,t,A,Q]:=d.refAt rv N;show Ğ (΢ #[_,rfl,#[t,yu A],BU l d (Qha z)])
  ·cases g
 |_=>cases g
abbrev QE(lo:Int)(n:Nat):Ã:=(List.range n).map qkb
abbrev W9(ms:MA):MI:=λd h=>(ms d h).bind λp=>match p.1 with
 |[Á j]=>if ql5 then sO (QE 0 j.toNat,nO,p.2)else nO
 |_=>nO
abbrev QfR(ms:MA):MI:=λd h=>(ms d h).bind λp=>match p.1 with
 |q8=>if qYi/\jla then sO (QE i zUa,nO,p.2)else nO
 |_=>nO
def Qo1(y:iQ)(x:iG)(z:tZ)(w:ur:=by rfl):MW jM5 (W9 ms):=
 YY (QfG y x z w) λD H C n=>by
  let#[R,f,h,items,s,F,t,st,e,k]:=n;show yM q A B d e #[R,f,h,q,A,t,st,B,CB E o g];split at d
  ·show oB j l;split at d
   ·show(ſ m d,zDa r u i,jm i);rw[u.int_eq];show#[j,rfl,m.1,m.2,BU o g Y4]
   ·cases d
  ·cases d
def Qnu(D:iQ)(B:iG)(F:PMA X [a,b] ms)(A:jSh:=by rfl)(l:jzf:=by rfl):MW jM6 (QfR ms):=
 YY (QdV D B F A l) λL H C q=>by
  let#[R,f,h,items,w,P,x,st,e,k]:=q;show yM s I J d e #[R,f,h,s,I,x,st,J,CB M r g];split at d
  ·rename_i i j o;show PC o;split at d
   ·show(ſ E d,zDa u z n,϶ n N t y m,jm m);rw[z.int_eq,y.int_eq];show#[i,j,rfl,E,BU r g Y4]
   ·cases d
  ·cases d
#print"-"
abbrev QcA(cp:χ)(σ:MSt):MSt:=jp1
def Rst.cap{K:Nj}(s:Rst K R b σ)(cp:χ):Rst K R (QcA cp b) xn5:=by
 unfold QcA Uz;refine#[Å,Õ i w e];rw[Nt]at e ⊢;show Az o f a e;rw[f];cases o with
 |none=>cases a
 |some j=>
  show zWb a
  ·rename_i u hu;subst a;let#[v,d,c]:=s.2 j w hu;show#[v,ϩ d,c]
  ·cases a
open Classical in
set_option backward.eqns.deepRecursiveSplit false in
abbrev Zx(fin:ŷ)(items:Ã)(src:A8)(b:MG)(mt:MT)(me:ME):Ã->Ã->MSt->qj
 |[],a,_,h=>if Bo then fin a h else nO
 | w::r,a,d,h=>if Bo then(b w d h).bind λc=>(mt c h).bind λq=>match q.1 with
   |true=>(me c q.2).bind λv=>if uR then zS5 r (a++[v.1]) c v else nO
   |false=>zS5 r a c q
  else nO
abbrev QD(fin:ŷ)(mi:MI)(cp:χ)(b:MG)(mt:MT)(me:ME):ME:=λa h=>(mi a h).bind λp=>Zx fin p.1 p.2.1 b mt me p.1 [] (QcA cp a) p.2.2
abbrev Vw:MT:=λ_ h=>zaf
abbrev Zv(a:Ã)(h:MH):Ú:=sO (À a,h)
abbrev Qo5(a:Ã)(h:MH):Ú:=sO (ī,h++[À a])
abbrev YE(K:Nj)(fin:ŷ):Prop:=∀R h H b a w d D,ē->BZ b a->fin b h=Ċ w d->H D=nO->∃c,je c/\Rh K c d jkj/\ŵ c w oq
def QjO{K:Nj}:YE K Zv:=λR h H c a w d D b r e hD=>by
 cases e;show b.lstI hD r
def QmI{K:Nj}:YE K Qo5:=λR h H d a w f D c r e hD=>by
 cases e;show c.new hD (ŗ g b #[a,rfl,Tf b r])
section
variable{X:Cx}{elt tg iter c:Expr}{scope:Scope}{pos:Pos}{cl:CA}{Nb:Â}{cp:χ}{mi:MI}{b:MG}{mt:MT}{me:ME}{fin:ŷ}
def WR{K:Nj}(hf:YE K fin)(q:xQ zFc):Qiq xn2 cp xu9 (tIT K mt) (tI K me) σ H Q:=by
 let#[R,B,h,w,h',rh,s,e,k]:=q;show jBj E;refine#[R,B,h,items,E,h1,rh,s,e1,λR1 H1 J x1 aa it=>?_];refine#[λi n z τ H=>qV4/\∃R2 g o a,jaa/\Rh K R2 o H/\Rst K R2 g τ/\Rws K R2 a z/\Zx fin items E b mt me qV5 a g o=Ċ w h'/\iM R2 h',#[items.length,Å,R1,QcA cp B,h1,[],CU,aa,(s.mono x1).cap cp,Rws.nil,é e2,k.ext x1],?_]
 rintro i n z τ H2 ⟨af,R2,g,o,a,C,m,s2,N,f,k2⟩
 by_cases I:xc8
 ·obtain⟨y,P⟩:∃y,fh=sO y:=#[jd4,Nn I]
  let hd:eS=y::qV6:=by
   rw[EF I];rw[Nn I]at P;cases P;rfl
  show qD0
  ·rename_i S;show(Ĭ d e4 e5 f,ĵ t h3 e6 e7 e5);show jJ #[it.go i y R2 o H2 C m S P,λx H' ab=>?_];let#[R3,l,r,p]:=it.yld i y R2 o H2 x H' C m S P ab;refine#[R3,g,o,y,d,r,s2.mono l,p,e4,λR4 H4 ae A Z M=>?_];refine#[R4,d,o,t,h3,Z,M,e6,Ł R5 H5 j F];cases t with
   |true=>
    show(ĵ v h4 e8 U e7,uT U)
    ·rename_i hz;refine Qnk #[R5,d,h3,v,h4,F,M.mono j,e8,λR6 H6 u L Y rv=>#[by show(u6 N,hz),n-1,Í,Í,R6,d,h4,a++[v],C.trans zoa,Y,M.mono (Ē j L),?_,U,k2.ext zoa]];show Rws.append (Rws.mono zoa _ _ N) (Rws.cons rv Rws.nil)
    ·cases U
   |false=>
    show Qnj #[n-1,Í,Í,R5,d,h3,a,C.trans zqd,F,M.mono j,Tf zqd N,e7,k2.ext zqd]
  ·cases f
 ·let hd:eS=[]:=DL (jE I);show qD0
  ·rename_i S;show Cc #[it.stop i R2 o H2 C m S (jE I),λD hD=>?_];let#[R3,l,r,p]:=hf R2 o H2 a z w h' D m N f hD;show k2 R3 _ _ l r p
  ·cases f
def Qhn(p:xp)(u:ĥ)(B:Cr)(hi:fi)(o:∀a d C i f,zL (P6 i f))
  (r:∀a d C i f,gQ i f) (n:Bb:=by intro _;rfl) :
  ą zs7 qB8:=
 Q2 (Qec (g:=zd8) (te:=zd9) (tt:=tIT X.K Vw) u B hi o (λa d C i f j s v H Q I q=>wpAny_tests_nil (by
  let#[R,l,h,t,z,m,st,e,k]:=q;show ì e #[H,I,k R H Ε m])) r n) λ_ _ _ q=>WR p q
def Qhp(n:xp)(p:ĥ)(B:Cr)(hi:fi)(m:∀a d C f e,zL jm0)
  (j:∀a d C f e,PMT jm0 c mt)
  (o:∀a d C f e,gQ f e) (l:Bb:=by intro _;rfl) :
  ą zs8 zFc:=
 Q2 (Qec (g:=zd8) (te:=zd9) (tt:=tIT X.K mt) p B hi m (λa d C f e h s i H Q I q=>wpAny_tests_one (j a d C f e h s i H Q I q)) o l) λ_ _ _ q=>WR n q
#print"-"
open PySem.SeqAt
mutual
abbrev eqW:W->yj
 |.non,.non=>true
 |.bl a,.bl b=>a==b
 |.bl a,Á b=>qj5
 |Á a,.bl b=>qj6
 |Á a,Á b=>a==b
 |Ù a,Ù b=>a==b
 |Î a,Î b=>zi2
 |À a,À b=>zi2
 |_,_=>false
abbrev KG:Ã->zth
 |[],[]=>true
 |x::xs,y::a=>zh9&&KG xs a
 |_,_=>false
end
set_option backward.eqns.deepRecursiveSplit false in
abbrev Zu(f:b->Ū a):Ø b->zae a
 |[]=>sO []
 |x::xs=>(f x).bind λy=>(Zu f xs).map (y::·)
set_option backward.eqns.deepRecursiveSplit false in
abbrev drf(h:MH):Nat->W->Þ
 |0,_=>nO
 |n+1,w=>match w with
  |ŉ=>(Zu sw ws).map .tup
  |Ŀ=>zC2
  |AT=>zC2
  |Ä k=>match h[k]? with|qd=>zC2|_=>nO
  |.ty _=>nO
  |.non=>xO
  |.bl b=>sO yf
  |Á i=>ğ i
  |Ù x=>sO Μ
def QG:∀{xs:Ø r} {a:Ø p},Zu f xs=sO a->xs.length=a.length/\∀(i:Nat) x,xs6->∃y,a[i]?=sO y/\f x=sO y:=by
 intro xs
 induction xs with
 |nil=>
  intro a e;show ì e #[rfl,λi x h=>ϥ h]
 |cons x xs c=>
  intro a e;show qm y o n e s m j;subst j;let#[l,q]:=c m;refine#[ϩ l,Õ i z b];cases i with
  |zero=>show yG b #[y,Å,o]
  |succ i=>simp at b;let#[u,g,d]:=q i z b;show#[u,ϩ g,d]
def XA:∀{a b:Ã},a.length≠b.length->zi2=false
 |[],[],h=>CV h
 |[],_::_,_=>bC
 |_::_,[],_=>bC
 |x::xs,y::c,h=>by
  unfold KG;rw[XA (a:=xs) (b:=c) (λz=>h lU),Fb]
def XI:∀{a b:Ã},a.length=b.length->zi2=(List.range a.length).all λj=>match a[j]?,b[j]? with|ã x,sO y=>zh9|_,_=>false
 |[],[],_=>bC
 |x::xs,y::c,h=>by
  let d:=XI (a:=xs) (b:=c) pb;unfold KG;rw[d,NS,List.range_succ_eq_map,Yba,List.all_map];simp[Du]
inductive Kd(K:Nj)(R:Rn)(h:MH)(H:Hp)(n:Nat)(v:V):W->Prop where
 |flat {a:W} (f:Ql5 v=true) (e:jod):aE a
 |lst {ad:Addr} {xs:Ö} {ws as:Ã} (e:v=zgg) (q:SqL K H ad xs) (r:ύ) (m:zti):aE xu7
 |tup {ad:Addr} {xs:Ö} {ws as:Ã} (e:v=zgg) (q:SqT K H ad xs) (r:ύ) (m:zti):aE (.tup as)
def V7{K:Nj}{v:V}(g:ē)(r:õ w)(e:drf h (n+1) w=sO a):aE a:=by
 cases w with
 |non=>rw[r.non_eq];show tF (Ş ś)
 |bl b=>rw[r.bl_eq];show tF (Ė (Ş (zf4 b)))
 |int i=>rw[r.int_eq];show tF (Ė (jF (Ş (zf4 i))))
 |str x=>rw[r.str_eq];show tF (Ė (jF (c9 (zf4 x))))
 |tup l=>
  let#[ad,j,f,q,c]:=g.tupAt r;show(mK,.tup f q c m)
 |lst l=>
  let#[ad,j,f,q,c]:=zV g;show(mK,qsj)
 |frz l=>
  let#[ad,j,f,q,c]:=g.frzAt r;show(mK,.lst f q c m)
 |ref k=>
  simp only[drf]at e;split at e
  ·rename_i l hk;show mK;let#[_,f,j,q,c]:=g.refAt r hk;show qsj
  ·cases e
 |ty _=>cases e
section
variable{X:Cx}{pins:Û}{σ:L2.St}{H:Hp}{s:Shared}{R:Rn}{h:MH}
def Uk{K:Nj}(D:∀q p v a b,õ q->õ p->μ q=sO a->μ p=sO b->a=b) :
  ∀{d c:Ã} {xs:Ö} {a b:Ã},Tq d->Tq c->uQ d=sO a->uQ c=sO b->a=b:=by
 intro d
 induction d with
 |nil=>
  intro c xs a b f e i g;show jm f;cases c with
  |nil=>show AZ i g;rfl
  |cons w N=>show vi e;let#[_,_,z,_]:=e;cases z
 | cons w d E=>
  intro c xs a b f e i g;show ϶ f v u C B;cases c with
  |nil=>show xB e;cases e
  |cons x c=>
   show vi e;let#[_,_,z,A,q2]:=e;cases z;show(qm y L J i M I F,qm t o m g r l j);subst F j;rw[D w x v y t C A L o,E B q2 I l]
def Kk(I:ß)(q:rQ)(e:TF a l):False:=by
 let#[g,_,p,_]:=ϒ q;let#[d,_,f,_]:=Bp e;let#[o,n,j,i,_]:=p;let#[m,c,b,_]:=f;show â j c;rw[i]at b;show ý b Ç
def Qhw{v:V}{a b:W}(z:jod)(d:(Me/\b=.non)\/(zJ4 c b)\/(zo2 b)\/∃x,Pd/\b=Ù x):a=b:=by
 let k:∀{c:W},((Me/\c=.non)\/(zJ4 b c)\/(zo2 c)\/∃x,Pd/\c=Ù x)->c=match v with|.bl b=>.bl b|Á i=>Á i|Ù x=>Ù x|_=>.non:=by
  rintro c (⟨rfl,rfl⟩|⟨_,rfl,rfl⟩|⟨_,rfl,rfl⟩|⟨_,rfl,rfl⟩)<;>rfl
 show(k z).trans (k d).symm
def WD(I:ß)(g:Ϗ)(n:Nat):∀(j i:W) (v:V) (a b:W),Œ j v->Œ i v->μ j=sO a->μ i=sO b->a=b:=by
 induction n with
 |zero=>intro _ _ _ _ _ _ _ e _;cases e
 | succ n u=>
  intro j i v a b x l y t;cases V7 g x y with
  | flat f z=>
   cases V7 g l t with
   |flat A w=>
    show Qhw z w
   |lst e=>show AW e f
   |tup e=>show AW e f
  |lst e q r m=>
   subst e;cases V7 g l t with
   |flat f=>cases f
   |lst d c o p=>cases d;let:=I.list_inj q c;show xcb
   |tup d c=>cases d;show(Kk I q c).elim
  |tup e q r m=>
   subst e;cases V7 g l t with
   |flat f=>cases f
   |lst d c=>cases d;show(Kk I c q).elim
   |tup d c o p=>cases d;let:=I.tuple_inj q c;show xcb
def Qej(d:jw9):∀(ws as:Ã),zti->KG as as=true:=λws=>by
 induction ws with
 |nil=>intro as m;cases m;show rfl
 |cons w ws c=>
  intro as m;show qm y i g m b f e;subst e;apply(eqW y y&&KG b b)=true;rw[d w y i,c b f];rfl
def Qa4(n:Nat):jw9:=by
 induction n with
 |zero=>intro _ _ e;cases e
 | succ n f=>
  intro w a e
  let d:∀{c:Ã} {g:Ã->W},(∀as,eqW (g as) (g as)=KG as as)->(Zu sw c).map g=sO a->qEh:=λj e=>by
   let#[as,m,l]:=ϗ e;rw[<-l,j];show Qej f _ as m
  cases w with
  |non=>cases e;show rfl
  |bl b=>cases e;show vf b
  |int i=>cases e;show vf i
  |str x=>cases e;show vf x
  |tup c=>show bY
  |lst c=>show bY
  |frz c=>show bY
  | ref k=>
   simp only[drf]at e;cases hk:h[k]? with
   |none=>rw[hk]at e;cases e
   |some o=>
    rw[hk]at e;cases o with
    |lst c=>show bY
    |_=>cases e
  |ty _=>cases e
def VX(J:∀g f v1 i p o a b,Œ g v1->Œ f i->š v1 p->š i o->μ g=sO a->μ f=sO b->EqAt A s p o fB)
  (r:xf e) (q:SK d v) (v1:Sr) (i:Vals v c) (m1:zr4) (m2:zr5)
  (j:Nat) (h1:j<its.toArray.size) (h2:qV7):EqAt A s xcc xn8 (match as[j]?,bs[j]? with|ã x,sO y=>zh9|_,_=>false):=by
 show(Ph I r F v1,Ph E q D i);rw[Nz]at h1 h2;obtain⟨g,m⟩:∃w,e[j]?=sO w:=zo8 e j h1 F I
 obtain⟨f,l⟩:∃w,d[j]?=sO w:=zo8 d j h2 D E
 show(Ϥ x M B r m,Ϥ y L z q l);let#[u,hu,C]:=v1.get M;let#[t,N,rt]:=i.get L;let#[a,Q,U]:=(QG m1).2 j g m;let#[b,P,S]:=(QG m2).2 j f l;rw[Q,P]
 let Z:xcc=u:=by
  let:=hu;show zv1 h1
 let Y:xn8=t:=by
  let:=N;show zv1 h2
 rw[Z,Y];show J g f x y u t a b B z C rt U S
def Qbl(I:ß)(hu:Si)(y:∀i g v1 c m l a b,ji1)
  {ad v:Addr} (x:qZ5) (q2:Mf v w) (p:xf e) (o:SK d w) (m1:zr4) (m2:zr5):qr2 (ú v):=by
 show ji5
 ·rw[XI u];let:=RcAt.lists (A:=A) r.isList q.isList qJb hu (λj B z=>VX y p o v1 c m1 m2 j B z);show qh0
 ·rw[XA u];show RcAt.lists_lengths r.isList q.isList qz1 hu
def Qet(I:ß)(hu:Si)(y:∀m l v1 e p o a b,ji2)
  {ad i:Addr} (v:qZ6) (q2:TF i u) (r:xf g) (q:SK f u) (m1:uQ g=sO as) (m2:uQ f=sO bs):qr2 (ú i):=by
 show(jki,jic);let:=RcAt.tuples (A:=A) (ml d x) jHa hu (λj B z=>VX y r q v1 e m1 m2 j B z);show jPa
 show jVc
def Qdp(I:ß)(C:Ϗ):∀(n:Nat) (A:Around),vc->∀(E l:W) (v1 M:V) (P N:Value) (a b:W),Œ E v1->Œ l M->š v1 P->š M N->μ E=sO a->μ l=sO b->EqAt A s P N fB:=by
 intro n
 induction n with
 |zero=>intro _ _ _ _ _ _ _ _ _ _ _ _ _ _ e _;cases e
 | succ n aa=>
  intro A hu E l v1 M P N a b Q F i g e1 w;let c:Si:=zDb
  let ih:=aa A.in1 k3
  let v:∀{ad:Addr} {L:Ö},qZ7 L->∃d:Ķ,qD1 d:=λq=>by
   show zo3 d
  let u:∀{ad:Addr} {L:Ö},qZ8 L->∃d:Ķ,qz2 d:=λq=>by
   show zo4 d
  cases V7 C Q e1 with
  | flat f z=>
   cases V7 C F w with
   |flat f' D=>
    let:=QoU (A:=A) (s:=s) i g f f'
    rcases z with⟨rfl,rfl⟩|⟨_,rfl,rfl⟩|⟨_,rfl,rfl⟩|⟨_,rfl,rfl⟩<;>rcases D with⟨rfl,rfl⟩|⟨_,rfl,rfl⟩|⟨_,rfl,rfl⟩|⟨_,rfl,rfl⟩<;>show this
   |lst e q=>
    show HP g d v
    ·cases i;show EqAt.none_list p c
    ·cases i;show EqAt.bool_list _ p c
    ·show(á i,EqAt.int_list _ t p c)
    ·show(á i,EqAt.str_list _ t p c)
   |tup e q=>
    show HP g d u
    ·cases i;show EqAt.none_tuple p c
    ·cases i;show EqAt.bool_tuple _ p c
    ·show(á i,EqAt.int_tuple _ t p c)
    ·show(á i,EqAt.str_tuple _ t p c)
  | @lst B _ _ _ e q r m=>
   show qu e i d p v q;let Z:=V7 C F w;cases Z with
   |flat f' D=>
    show qr D
    ·cases g;show EqAt.list_none p c
    ·cases g;show EqAt.list_bool _ p c
    ·show(á g,EqAt.list_int _ t p c)
    ·show(á g,EqAt.list_str _ t p c)
   |@lst y _ _ _ x o S Y=>
    show jA1
    ·subst j;let:=WD I C (n+1) E l _ _ _ Q F e1 w;show qq6
    ·show EqAt.of_refs j (Qbl I c ih q o r S m Y)
   |tup x o=>
    show(qu x g J U u o,EqAt.list_tuple p U c)
  | @tup B _ _ _ e q r m=>
   show qu e i d p u q;let Z:=V7 C F w;cases Z with
   |flat f' D=>
    show qr D
    ·cases g;show EqAt.tuple_none p c
    ·cases g;show EqAt.tuple_bool _ p c
    ·show(á g,EqAt.tuple_int _ t p c)
    ·show(á g,EqAt.tuple_str _ t p c)
   |lst x o=>
    show(qu x g J U v o,EqAt.tuple_list p U c)
   |@tup y _ _ _ x o S Y=>
    show jA1
    ·subst j;let:=WD I C (n+1) E l _ _ _ Q F e1 w;show qq6
    ·show EqAt.of_refs j (Qet I c ih q o r S m Y)
#print"-"
#print"-Mi"
namespace Mi
open L2 PySem.SeqAt
section
variable{X:Cx}{pins:Û}{σ:L2.St}{H:Hp}{s:Shared}{R:Rn}{h:MH}
def Qbq(I:ß)(hu:Si)(y:∀i g v1 c m l a b,ji1)
  {ad v:Addr} (x:qZ5) (q2:Mf v w) (p:xf e) (o:SK d w) (m1:zr4) (m2:zr5):qna (ú v):=by
 show ji5
 ·rw[XI u];let:=RcNeAt.lists (A:=A) r.isList q.isList qJb hu (λj B z=>VX y p o v1 c m1 m2 j B z);show qh0
 ·rw[XA u];show RcNeAt.lists_lengths r.isList q.isList qz1 hu
def QeE(I:ß)(hu:Si)(y:∀m l v1 e p o a b,ji2)
  {ad i:Addr} (v:qZ6) (q2:TF i u) (r:xf g) (q:SK f u) (m1:uQ g=sO as) (m2:uQ f=sO bs):qna (ú i):=by
 show(jki,jic);let:=RcNeAt.tuples (A:=A) (ml d x) jHa hu (λj B z=>VX y r q v1 e m1 m2 j B z);show jPa
 show jVc
def QnT(I:ß)(x:Ϗ)(n:Nat)(A:Around)(hu:vc)(P N:W)(v1 Q:V)(U S:Value)(a b:W)(r1:Œ P v1)(C:Œ N Q)(j:š v1 U)(c:š Q S)(e1:μ P=sO a)(L:μ N=sO b):RcAt A s U S fB:=by
 cases n with
 |zero=>cases e1
 | succ n=>
  let d:Si:=zDb
  let Y:=Qdp I x n A.in1 k3
  let u:jr8:=λq=>by
   show zo3 i
  let o:jr9:=λq=>by
   show zo4 i
  cases V7 x r1 e1 with
  | flat f z=>
   cases V7 x C L with
   | flat Z w=>
    show jPd
    ·show ě
     show RcAt.none_none
    ·show ě
     show RcAt.none_bool _
    ·show ě
     show RcAt.none_int _ _
    ·show ě
     show RcAt.none_str _ _
    ·show ě
     show RcAt.bool_none _
    ·show ě
     show RcAt.bool_bool _ _
    ·show ě
     show RcAt.bool_int _ _ _
    ·show ě
     show RcAt.bool_str _ _ _
    ·show ě
     show RcAt.int_none _ _
    ·show ě
     show RcAt.int_bool _ _ _
    ·show ě
     show RcAt.int_int _ _ _ _
    ·show ě
     show RcAt.int_str _ _ _ _
    ·show ě
     show RcAt.str_none _ _
    ·show ě
     show RcAt.str_bool _ _ _
    ·show ě
     show RcAt.str_int _ _ _ _
    ·show ě
     show RcAt.str_str _ _ _ _
   |lst e q=>
    show HP c i u
    ·cases j;show RcAt.none_list p d
    ·cases j;show RcAt.bool_list _ p d
    ·show(á j,RcAt.int_list _ t p d)
    ·show(á j,RcAt.str_list _ t p d)
   |tup e q=>
    show HP c i o
    ·cases j;show RcAt.none_tuple p d
    ·cases j;show RcAt.bool_tuple _ p d
    ·show(á j,RcAt.int_tuple _ t p d)
    ·show(á j,RcAt.str_tuple _ t p d)
  | @lst M _ _ _ e q r m=>
   show gK u;cases J with
   |flat Z w=>
    show qr w
    ·cases c;show RcAt.list_none p d
    ·cases c;show RcAt.list_bool _ p d
    ·show(á c,RcAt.list_int _ t p d)
    ·show(á c,RcAt.list_str _ t p d)
   |tup v l=>
    show(gk o,RcAt.list_tuple p E d)
   |lst v l D F=>
    show(l9,Qbl I d Y q l r D m F)
  | @tup M _ _ _ e q r m=>
   show gK o;cases J with
   |flat Z w=>
    show qr w
    ·cases c;show RcAt.tuple_none p d
    ·cases c;show RcAt.tuple_bool _ p d
    ·show(á c,RcAt.tuple_int _ t p d)
    ·show(á c,RcAt.tuple_str _ t p d)
   |lst v l=>
    show(gk u,RcAt.tuple_list p E d)
   |tup v l D F=>
    show(l9,Qet I d Y q l r D m F)
def Qgw(I:ß)(x:Ϗ)(n:Nat)(A:Around)(hu:vc)(P N:W)(v1 Q:V)(U S:Value)(a b:W)(r1:Œ P v1)(C:Œ N Q)(j:š v1 U)(c:š Q S)(e1:μ P=sO a)(L:μ N=sO b):RcNeAt A s U S (!eqW a b):=by
 cases n with
 |zero=>cases e1
 | succ n=>
  let d:Si:=zDb
  let Y:=Qdp I x n A.in1 jug
  let u:jr8:=λq=>by
   show zo3 i
  let o:jr9:=λq=>by
   show zo4 i
  cases V7 x r1 e1 with
  | flat f z=>
   cases V7 x C L with
   | flat Z w=>
    show jPd
    ·show ě
     show RcNeAt.none_none
    ·show ě
     show RcNeAt.none_bool _
    ·show ě
     show RcNeAt.none_int _ _
    ·show ě
     show RcNeAt.none_str _ _
    ·show ě
     show RcNeAt.bool_none _
    ·show ě
     show RcNeAt.bool_bool _ _
    ·show ě
     show RcNeAt.bool_int _ _ _
    ·show ě
     show RcNeAt.bool_str _ _ _
    ·show ě
     show RcNeAt.int_none _ _
    ·show ě
     show RcNeAt.int_bool _ _ _
    ·show ě
     show RcNeAt.int_int _ _ _ _
    ·show ě
     show RcNeAt.int_str _ _ _ _
    ·show ě
     show RcNeAt.str_none _ _
    ·show ě
     show RcNeAt.str_bool _ _ _
    ·show ě
     show RcNeAt.str_int _ _ _ _
    ·show ě
     show RcNeAt.str_str _ _ _ _
   |lst e q=>
    show HP c i u
    ·cases j;show RcNeAt.none_list p d
    ·cases j;show RcNeAt.bool_list _ p d
    ·show(á j,RcNeAt.int_list _ t p d)
    ·show(á j,RcNeAt.str_list _ t p d)
   |tup e q=>
    show HP c i o
    ·cases j;show RcNeAt.none_tuple p d
    ·cases j;show RcNeAt.bool_tuple _ p d
    ·show(á j,RcNeAt.int_tuple _ t p d)
    ·show(á j,RcNeAt.str_tuple _ t p d)
  | @lst M _ _ _ e q r m=>
   show gK u;cases J with
   |flat Z w=>
    show qr w
    ·cases c;show RcNeAt.list_none p d
    ·cases c;show RcNeAt.list_bool _ p d
    ·show(á c,RcNeAt.list_int _ t p d)
    ·show(á c,RcNeAt.list_str _ t p d)
   |tup v l=>
    show(gk o,RcNeAt.list_tuple p E d)
   |lst v l D F=>
    show(l9,Qbq I d Y q l r D m F)
  | @tup M _ _ _ e q r m=>
   show gK o;cases J with
   |flat Z w=>
    show qr w
    ·cases c;show RcNeAt.tuple_none p d
    ·cases c;show RcNeAt.tuple_bool _ p d
    ·show(á c,RcNeAt.tuple_int _ t p d)
    ·show(á c,RcNeAt.tuple_str _ t p d)
   |lst v l=>
    show(gk u,RcNeAt.tuple_list p E d)
   |tup v l D F=>
    show(l9,QeE I d Y q l r D m F)
#print"-"
abbrev wEq(a b:W)(h:MH):Ú:=qH5 (ă (eqW x y),h)
abbrev wNe(a b:W)(h:MH):Ú:=qH5 (ă (! zh9),h)
def QaA{K:Nj}:OpM K (F2 K f) f:=λ_ _ _ _ q=>q
section
variable{X:Cx}
def QoF(hu:ļ):æ (compareOp .Eq) (F2 X.K wEq):=by
 intro d s t H x y v u Q I g f q;let#[R,h,a,b,w,z,c,j,i,e,k]:=q;show(jk4,QnT I c 40 X.A yU a b x y v u r p j i g f o m _ _ _ _ jm2)
def QoB(hu:ļ):æ (compareOp .NotEq) (F2 X.K wNe):=by
 intro d s t H x y v u Q I g f q;let#[R,h,a,b,w,z,c,j,i,e,k]:=q;show(jk4,Qgw I c 40 X.A yU a b x y v u r p j i g f o m _ _ _ _ jm2)
abbrev inW(x:W)(xs:Ã):Bool:=xs.any xna
abbrev wIn(neg:Bool)(a b:W)(h:MH):Ú:=match b with
 |Î d=>jR1
 |b=>(lsW h b).bind λd=>jR1
open Classical in
abbrev QfD(K:Nj)(R:Rn)(h:MH)(x:W)(u:Value):Bool:=decide (∃w v a,õ w/\ñ v/\zM w=sO a/\zgf=true)
open Classical in
def GT(I:ĳ c)(i:Ϗ)(r:Œ w v)(t:ñ v)(e:zM w=sO a):QfD X.K R h x u=zgf:=by
 by_cases q:zgf=true
 ·rw[q];show decide_eq_true #[w,v,a,r,t,e,q]
 ·let b:zgf=false:=é q
  rw[b];refine decide_eq_false (è d);let#[f,n,m,j,g,l,z]:=d;let:=t.inj g;subst this;rw[WD I i 40 w f v a m r j e l,z]at b;cases b
def QdJ(I:ĳ a)(f:Ϗ):∀{ws as:Ã} {xs:Ö} {us:Ë},rp->Ι->qs9->us.any (QfD X.K R h x)=inW x as:=by
 intro ws
 induction ws with
 |nil=>
  intro _ _ _ r t m;show(jm r,AZ t m);rfl
 | cons w ws j=>
  intro _ _ _ r t m;show ϶ r v c i g;cases t with
  |cons e d=>
   show qm y p o m q n l;subst l;let b:=j g d n;unfold inW at b ⊢;rw[D4,D4,GT I f i e p,b]
def XM(I:ĳ g)(f:Ϗ)(hu:A.units+40<cLine)(p:Œ a v)(o:ñ v)(D:zM a=sO x) 
  (r:rp) (t:Ι) (m:qs9):∀y∈us,EqAt A s y u (QfD X.K R h x y):=by
 intro y B;let#[i,j,e]:=DZ.mp B;show Ph z r q t;obtain⟨w,hw⟩:∃w,xu1:=#[ws[i]'(Nf (Nf j (İ q)) (İ z)),Nn _]
 let#[n,C,rv]:=r.get hw;show Ϥ E c d t C;rw[Nn j,e]at c;cases c;let#[b,F,l]:=(QG m).2 i w hw;rw[GT I f rv d l];show Qdp I f 40 A hu w a n v y u b x rv p d o l D
def Qnv(hu:ļ):æ bL (F2 X.K zM3):=by
 intro p s Y H x y v u Q I P N q;let#[R,h,a,b,w,M,l,U,S,e,k]:=q;let B:zG6:=jxe
 let main:∀g,((drf h 40 a).bind λx=>(Zu kq g).map λc=>((W.bl (if false then ! Mj else Mj),h):W×MH))=Ċ w M->∃d c,rj/\tw g=sO c/\w=ă xub/\M=h:=λg e=>by
  show jjg
 let fin:∀{d:W} {c E:Ã} {m:Ö} {f:Ë},SK E m->Vals m f->rj->tw E=sO c->w=ă xub->M=h->MJ p Y (yv (f.toArray.any iE)):=λ{d c E m f} r t ea em C D=>by
  show jS3
 show xh1
 ·show ji7;show in_tupleAt iE (ml f J) (λz L=>XM I l B U P j o n i z pc) RV
 ·show(yD g e0,jif);show in_listAt iE J.isList (λz L=>XM I l B U P j o n i z pc) RV
def Qdl(hu:ļ):æ zJ5 (F2 X.K qnb):=by
 intro p s Y H x y v u Q I P N q;let#[R,h,a,b,w,M,l,U,S,e,k]:=q;let B:zG6:=by apply kK+40<cLine;omega
 let main:∀g,((drf h 40 a).bind λx=>(Zu kq g).map λc=>((W.bl (if true then ! Mj else Mj),h):W×MH))=Ċ w M->∃d c,rj/\tw g=sO c/\w=ă xnb/\M=h:=λg e=>by
  show jjg
 let fin:∀{d:W} {c E:Ã} {m:Ö} {f:Ë},SK E m->Vals m f->rj->tw E=sO c->w=ă xnb->M=h->MJ p Y (yv (!f.toArray.any iE)):=λ{d c E m f} r t ea em C D=>by
  show jS3
 show xh1
 ·show ji7;show notIn_tupleAt iE (ml f J) (λz L=>XM I l B U P j o n i z pc) RV
 ·show(yD g e0,jif);show notIn_listAt iE J.isList (λz L=>XM I l B U P j o n i z pc) RV
#print"-"
abbrev ZX(a b:W)(h:MH):Ú:=match a,b with
 |Á i,Á j=>gM
 |Ù x,Ù y=>mm x y jMe
 |Î d,Î c=>mm d c (Î jg2,h)
 |a,b=>(loW h a).bind λd=>(loW h b).bind λc=>mm d c (À jg2,h)
abbrev Qck(a b:W)(h:MH):Ú:=match a,b with|Á i,Á j=>jG4|_,_=>nO
abbrev Qn2(a b:W)(h:MH):Ú:=match a,b with|Á i,Á j=>if zA4 then jHj else nO|_,_=>nO
abbrev Qkl(a b:W)(h:MH):Ú:=match a,b with|Á i,Á j=>if zl0 then sO (Á (i/j),h)else nO|_,_=>nO
abbrev QdP(a b:W)(h:MH):Ú:=match a,b with|Á i,Á j=>if 0<j then sO (Á (i%j),h)else nO|_,_=>nO
abbrev Qme(a b:W)(h:MH):Ú:=match a,b with|Á i,Á j=>if zBi then sO (Á zM1,h)else nO|_,_=>nO
abbrev wLt(a b:W)(h:MH):Ú:=match a,b with|Á i,Á j=>l4 i j|Ù x,Ù y=>sO (ă (jFh x y),h)|_,_=>nO
abbrev wGt(a b:W)(h:MH):Ú:=match a,b with|Á i,Á j=>l4 j i|_,_=>nO
abbrev wGe(a b:W)(h:MH):Ú:=match a,b with|Á i,Á j=>sO (zqc,h)|_,_=>nO
abbrev XS:yj
 |.non=>true
 |_=>false
abbrev wIs(a b:W)(h:MH):Ú:=match b with
 |.non=>jE5
 |.bl y=>match a with|.bl x=>jE6|_=>nO
 |_=>nO
abbrev Jw(a b:W)(h:MH):Ú:=match b with
 |.non=>jD1
 |_=>nO
def Qjh{K:Nj}(r:õ a):decide (v=.non)=XS a:=by
 cases a with
 |non=>rw[r.non_eq];rfl
 |bl _=>rw[r.bl_eq];rfl
 |int _=>rw[r.int_eq];rfl
 |str _=>rw[r.str_eq];rfl
 |ty _=>show decide_eq_false r.ty_ne
 |tup _=>show zs9
 |lst _=>show zs9
 |frz _=>show zs9
 |ref _=>show(Š r,qJc r);rfl
section
variable{X:Cx}
abbrev Qsn(K:Nj):R2:=λx y H Q=>∃a b c d,Aw/\y=Ä b/\MQ a c/\MQ b d/\c.length+d.length<=sizeLine /\
 (c=[]->Q Ci H)/\(c≠[]->d=[]->zN6)/\(c≠[]->d≠[]->∀p,T6 (Ą p (Ĩ (c++d))))
def op_catA:æ iD (Qsn X.K):=by
 intro c s A H x y v u Q I p o h;let#[a,b,m,B,rfl,rfl,w,t,P,F,E,q2]:=h
 by_cases i:m=[]
 ·show AW i p;cases o;show(ub N D L w,ub d S J t);cases D;show zIf C q r L;let#[#[z,l,data2,j],e,g,M,f]:=id J;show zQ1 r g f
  show Ybo (Ϡ q) p7 O1 Ya8 LA Lj ja8
   (tuple_addW0 a b #[] d.toArray n M dd l C j Ç) #[q,e,#[Ä b,H,I,rfl,F rfl]]
 ·show QkQ c s A H _ _ v u Q I p o #[a,b,m,B,rfl,rfl,w,t,i,P,E i,q2 i]
def Qqd:æ zMe (λx y H Q=>∃i j,x=.bl i/\y=.bl j/\Q (.bl zhc) H):=by
 intro a s d H x y v u Q I c b h;show(nR,AZ c b,is_bool #[.bl _,H,I,rfl,q])
def QkN:æ iD (F2 X.K ZX):=by
 intro m s P H x y v u Q I U S q;refine(op_add.or (op_add_str.or (op_catA.or Qpa))) m s P H x y v u Q I U S ?_;let#[R,h,a,b,w,Y,c,i,g,e,k]:=q;unfold ZX at e;split at e
 ·cases e;show HM (zo9 i g c)
 ·split at e
  ·show(ſ D e,Ć (΢ #[_,_,i.str_eq,g.str_eq,D,Ļ c zag]))
  ·cases e
 ·split at e
  ·rename_i L J D;cases e;let#[ad,t,o,B,l]:=c.tupAt i;let#[E,r,n,q2,j]:=c.tupAt g;show jm1;show jJ (Υ (΢ #[ad,E,t,r,o,n,B,q2,Í,è z,λ_ z=>?_,λ_ _ p C=>?_]))
   ·subst z;let:L=[]:=EC.mp N;subst this;show Ļ c (n▸g)
   ·subst z;let:J=[]:=EC.mp M;subst this;rw[EM]at k;show Ļ c (o▸i)
   ·let#[F,A,f,d]:=c.tup C qOj;show ϭ F A f d
  ·cases e
 ·show(yD L o,yD J n);split at e
  ·show ſ D e;let#[ad,t,f1,B,l]:=c.loAt i o;let#[E,r,f2,q2,j]:=c.loAt g n;show(jm1,jJ (Υ (jF #[ad,E,t,r,f1,f2,B,q2,ć,Ô p C])));let#[F,A,f,d]:=c.lstI C qOj;show ϭ F A f d
  ·cases e
def Qlk:æ qRe (F2 X.K Qck):=by
 intro c s d H x y v u Q I g f q;refine QnC c s d H x y v u Q I g f ?_;let#[R,h,a,b,w,m,i,l,j,e,k]:=q;unfold Qck at e;show zlb (zo9 l j i)
 ·cases e
def QmO:æ bv (F2 X.K Qn2):=by
 intro c s d H x y v u Q I g f q;refine Qnx c s d H x y v u Q I g f ?_;let#[R,h,a,b,w,n,i,l,j,e,k]:=q;unfold Qn2 at e;split at e
 ·show gi
 ·cases e
def Qkh:æ qE9 (F2 X.K Qkl):=by
 intro c s d H x y v u Q I g f q;refine QmQ c s d H x y v u Q I g f ?_;let#[R,h,a,b,w,n,i,l,j,e,k]:=q;unfold Qkl at e;split at e
 ·show gi
 ·cases e
def QlA:æ qRf (F2 X.K QdP):=by
 intro c s d H x y v u Q I g f q;refine QnS c s d H x y v u Q I g f ?_;let#[R,h,a,b,w,n,i,l,j,e,k]:=q;unfold QdP at e;split at e
 ·show gi
 ·cases e
def QkS:æ qRg (F2 X.K Qme):=by
 intro c s d H x y v u Q I g f q;refine Qp2 c s d H x y v u Q I g f ?_;let#[R,h,a,b,w,n,i,l,j,e,k]:=q;unfold Qme at e;split at e
 ·show gi
 ·cases e
def QqI:æ zMd (F2 X.K wLt):=by
 intro c s i H x y v u Q I l j q;refine(op_lt.or Qfm) c s i H x y v u Q I l j ?_;let#[R,h,a,b,w,m,d,g,f,e,k]:=q;unfold wLt at e;split at e
 ·cases e;show Ğ #[_,_,g.int_eq,f.int_eq,oh]
 ·cases e;show Ć #[_,_,g.str_eq,f.str_eq,oh]
 ·cases e
def Qpy:æ qRh (F2 X.K wGt):=by
 intro c s d H x y v u Q I g f q;refine Qsd c s d H x y v u Q I g f ?_;let#[R,h,a,b,w,m,i,l,j,e,k]:=q;unfold wGt at e;show jk0
 ·cases e
def Qo0:æ qOd (F2 X.K wGe):=by
 intro c s d H x y v u Q I g f q;refine Qss c s d H x y v u Q I g f ?_;let#[R,h,a,b,w,m,i,l,j,e,k]:=q;unfold wGe at e;show jk0
 ·cases e
def QnI:æ zMe (F2 X.K wIs):=by
 intro c s i H x y v u Q I l j q;refine(op_isN.or Qqd) c s i H x y v u Q I l j ?_;let#[R,h,a,b,w,m,d,g,f,e,k]:=q;unfold wIs at e;split at e
 ·cases e;show HM (jE7 f g d)
 ·split at e
  ·cases e;show Ć #[_,_,g.bl_eq,f.bl_eq,oh]
  ·cases e
 ·cases e
def Qdx:æ qIi (F2 X.K Jw):=by
 intro c s d H x y v u Q I g f q;refine QkY c s d H x y v u Q I g f ?_;let#[R,h,a,b,w,m,i,l,j,e,k]:=q;unfold Jw at e;show zlb (jE7 j l i)
 ·cases e
abbrev Yy(a:W)(h:MH):Ú:=match a with|Á i=>jI0|_=>nO
def Qnz(f:ą a d):ą (.UnaryOp .USub a pos) (mUn Yy d):=Q2 (Qta QoG f) λg H Q q=>Ju (un1 q) <|by
 rintro x H1 ⟨R,h,a,w,i,b,c,e,k⟩
 unfold Yy at e;split at e
 ·show ì e #[_,c.int_eq,k R H1 _ Ε b qN]
 ·cases e
abbrev wIx(a b:W)(h:MH):Ú:=match b with
 |Á i=>match a with
  |Î d=>qug
  |Ù x=>if zB3 then(atI x.cps.toList i).map (AY c (Ù w9,h))else nO
  |a=>(lsW h a).bind λd=>qug
 |_=>nO
def Qdu{K:Nj}(r:ύ)(e:atI ws i=sO w):∃v,xgd/\õ w:=by
 unfold atI at e ⊢;show(u6 r,Ĭ j d c e,Ϥ v b a r c,#[v,BD d b,a])
def QkF:TW (F2 X.K wIx):=by
 intro value slice f s z H x y v u Q I D C q E;refine Qqc value slice f s z H x y v u Q I D C ?_ E;let#[R,h,a,b,w,L,d,n,m,e,k]:=q;unfold wIx at e;split at e
 ·show xN i e
  ·show(pi A B j g,bM l r p d n,xcd,Ć (΢ #[ad,l,i,v1,rfl,m.int_eq,r,t,Ļ d o]))
  ·split at e
   ·show(pi F c j g,Ć (Υ #[_,i,c,n.str_eq,m.int_eq,F,j,Ļ d zag]))
   ·cases e
  ·show(yD A J,ū B j g e,AB l r p d n J,xcd,Ğ #[ad,l,i,v1,rfl,m.int_eq,r,t,Ļ d o])
 ·cases e
def QsR(h:ą a e)(g:ą b d)(f:WJ b:=by intro _ _;rfl):ą lH (Ŵ e d):=
 Q2 (Qsf QkF h g f) λ_ _ _ q=>Ju zh λ_ _ c=>Ju c (jv q2)
abbrev JO(ws:Ã)(h:MH):Ú:=match ws with
 |[Ù x]=>zp8 (aD x,h)
 |[ŉ]=>sO im
 |[a]=>fO im
 |_=>nO
def Qbb{K:Nj}:QkG K (Fs K f) f:=xl8
def KA{K:Nj}(r:Tq [a]):∃v,xs=[v]/\õ a:=by
 show(϶ r v d c b,jm b,#[v,rfl,c])
def Qhf{K:Nj}(r:Tq [a,b]):∃v u,xs=[v,u]/\õ a/\ŵ R b u:=by
 show(϶ r v f e d,CL u c d,#[v,u,rfl,e,c])
def Qdo:ŀ zL8 (Fs X.K JO):=by
 intro d s i H a j Q I r q;refine(call_len_seq.or Uy) d s i H a j Q I r ?_;let#[R,h,p,w,t,b,rw,e,k]:=q;unfold JO at e;split at e
 ·split at e
  ·show(ſ l e,iA c);show Ć #[_,by rw[c.str_eq],l,Ļ b qN]
  ·cases e
 ·show(sE c a g f b,Ğ #[ad,a,rfl,ê g,jvj])
 ·show(ū o n m e,iA c,AB a g f b c n,Ğ #[ad,a,rfl,.inl g,jvj])
 ·cases e
abbrev XF(ws:Ã)(h:MH):Ú:=match ws with
 |[ŉ]=>sO ph
 |[a]=>fO ph
 |_=>nO
abbrev QkO(ws:Ã)(h:MH):Ú:=match ws with
 |[ŉ]=>sO (Ŀ,h)
 |[a]=>fO (Ŀ,h)
 |_=>nO
def GQ:ŀ zM9 (Fs X.K XF):=by
 intro b s l H a n Q I r q;refine WY b s l H a n Q I r ?_;let#[R,h,z,w,A,c,rw,e,k]:=q;unfold XF at e;split at e
 ·show(sE d a i j c,#[ad,a,rfl,ê #[i,Ļ c d]])
 ·show(ū y u t e,iA d,AB a i j c d u);refine#[ad,a,rfl,Ý #[i,Ô p o]];let#[x,m,g,f]:=c.tup o j;show ϭ x m g f
 ·cases e
def QbY:ŀ i7 (Fs X.K QkO):=by
 intro d s o H c t Q I r q;refine Ks d s o H c t Q I r ?_;let#[R,h,z,w,A,f,rw,e,k]:=q;unfold QkO at e;split at e
 ·show sE j c l i f;refine#[ad,c,rfl,ê l,Ô p m];show jMf
 ·show(ū y x u e,iA j,AB c l i f j x);refine#[ad,c,rfl,Ý l,Ô p m];show jMf
 ·cases e
#print"-"
section
variable{prog:Program}{w:World}{A:Around}{E:Ñ}{s:Shared}
def Xr{lo hi:Į}(a:qJ2)(g:nK f i)(pl:eK)(j:zh6 i)
  (hw:zBc=0/\qbh=items.size) (h:Q p4 s):ä (getItem p4 qg):=by
 show jp3 b d l g e f
 show Æ (qw6 a)
 refine Na (EU (name:=qxd) a.typeIs EV
  (jXa a))
 show(jrh a e,Æ (HT.sliceApplied_gen g pl j ?_))
 let c:(jPf=true):=by
  rw[hw.1,hw.2];simp
 apply ń (BF jPf);rw[Ò c];refine Na (m:=Builtin.Tuple.tupleIsExact _) ?_;show(Æ (DK a.typeIs ζ),qx,Na (Dy (CG xI1)))
#print"-"
abbrev QbL(xs:Ø a)(lo hi:Į):Ø a:=jQ0
abbrev wSl(a:W)(lo hi:Į)(h:MH):Ú:=match a with
 |Î b=>sO (Î qZ9,h)
 |Ù x=>zp8 (Ù (zTg x),h)
 |a=>(lsW h a).map λb=>(À qZ9,h)
def Qe7{K:Nj}{ws:Ã}(r:ύ)(lo hi:Į):BZ zNj qV8:=by
 unfold QbL QgA;rw[r.length];show(r.drop _).take _
def Qb8{xs:Ø a}{lo hi:Į}(h:sZ=0/\zoi):QbL xs lo hi=xs:=by
 unfold QbL;rw[h.1,h.2];simp
noncomputable abbrev MOp:=jc8 (Į×MH)
abbrev tIO(K:Nj)(m:MOp):TO:=λe H Q=>∃R a h o b,ē/\Tz e/\m a h=Ċ o b/\∀c d,je c->Rh K c b d->Q o d
abbrev PMO(X:Cx)(e:x0)(m:MOp):Prop:=PO X e (tIO X.K m)
abbrev Gi:MOp:=zja (nO,h)
abbrev Yu(m:ME):MOp:=λa h=>(m a h).bind λp=>match p.1 with|Á i=>xh2|_=>nO
abbrev mSl(d:ME)(b c:MOp):ME:=λa h=>(d a h).bind λp=>(b a p.2).bind λq=>(c a q.2).bind λr=>qM0
section
variable{X:Cx}
def sl_tupA:SlR X (λx lo hi H Q=>∃a xs,Aw/\rS/\(jkd->zN6) /\
  (¬jkd->∀p,T6 (Ą p (Ĩ qV8)))):=by
 intro b s m H x v vl n lo hi o Q I e l g f h;let#[a,xs,rfl,i,q,q2]:=h
 by_cases hw:sZ=0/\zoi
 ·cases e;show qp d r j t i;let c:d.toArray.size=xs.length:=qth
  refine qo4;show Xr j l g f qGf #[Ä a,H,I,rfl,q hw]
 ·show QoI b s m H Ġ v vl n lo hi o Q I e l g f #[a,xs,rfl,i,hw,q2 hw]
def Qns:HD (λx lo hi H Q=>∃z,x=Ù z/\zK5/\Q (Ad (zTg z)) H):=by
 intro a s m H x v vl p lo hi r Q I n c o g h;let#[z,rfl,b,q]:=h;show á n;refine#["str",_,PySem.F.slot_str_getitem.lookup,typeIs_str _ _ _,?_];let fin:∀(e:Tok) (k:Nat),EP X a m Q (.str (zTg z) e) { s with toks:=k }:=ŗ e k #[BY,H,ų,zK e,q]
 cases o with
 |none=>
  cases g with
  |none=>show FV (l:=nO) (u:=nO) (st:=nO) c rfl sQ
  |int j d=>show FV (l:=nO) (u:=Ċ j d) (st:=nO) c rfl sQ
 |int i f=>
  cases g with
  |none=>show FV (l:=Ċ i f) (u:=nO) (st:=nO) c rfl sQ
  |int j d=>show FV (l:=Ċ i f) (u:=Ċ j d) (st:=nO) c rfl sQ
def Qgz:PMO X nO Gi:=λa s c H Q I d=>by
 let#[R,b,h,o,g,f,st,e,k]:=d;cases e;show Qk6 a s c H Q I (k R H Ε f)
def Qgt(l:yL):PMO X zf0 (Yu m):=λa s f H Q I g=>by
 let#[R,b,h,o,r,j,st,q,k]:=g;refine QlJ l a s f H Q I ?_;show yM w n p d q #[R,b,h,w,n,j,st,p,CB v i c];cases w<;>simp only at d<;>first|(show ì d #[_,rv.int_eq,k R1 H1 i c])|cases d
def Qf8{lo hi:x0}{pos L:Pos}(Z:ą a P)(U:PMO X lo M)(Y:PMO X hi N):ą (mq a (.Slice lo hi nO L)) (mSl P M N):=
 Q2 (Qhl (sl_list.or (sl_tupA.or Qns)) Z U Y) λσ H Q F=>by
  let#[R,f,h,w,h',J,st,e,k]:=F;let#[#[a,C],ea,e2]:=ģ e;let#[#[l,B],el,e3]:=ģ e2;let#[#[u,h3],eu,d]:=ģ e3;refine#[R,f,h,a,C,J,st,ea,T3 r t I #[R1,f,C,l,B,t,yn r,el,λR2 H2 q s=>#[R2,f,B,u,h3,s,st.mono (Ē r q),eu,Ł D E A b]]];let c:=Su (Ē q A) I;let j:=k.ext (uE r q A);show gc d;unfold wSl at d;split at d
  ·cases d;show bM n v m b c;show jJ (΢ #[ad,n,rfl,v,λhw=>?_,λ_ p y=>?_])
   ·rw[Qb8 (by rw[m.length];show hw)]at j;show j D E _ Ε b c
   ·let#[z,o,i,g]:=b.tup y xh3;show xgh
  ·split at d
   ·show(ſ S d,Ć (Υ #[_,c.str_eq,S,j D E _ Ε b zag]))
   ·cases d
  ·let#[ys,e5,e6]:=ϗ d;cases e6;show(AB n v m b c e5,Cc #[ad,n,rfl,v,Ô p y]);let#[z,o,i,g]:=b.lstI y xh3;show xgh
#print"-"
abbrev QbA(X:Cx)(id:String)(f:cf):Prop:=
 MtR X id (λx d H Q=>∃R h a b w c,Ϗ/\Œ a x/\SK b d/\jHi/\After X.K R w c Q)
set_option backward.eqns.nonrecursive false in
abbrev tyW(h:MH)(T:String):yj
 |BY=>T=="str"
 |yp=>T=="int"
 |jd7=>zda
 |zN=>zda
 |Ä n=>match h[n]? with|oa=>zda|xh4=>zdb|xh5=>zdb|_=>false
 |_=>false
abbrev mMt(T:String)(f:cf)(mo:ME)(b:MA):ME:=λa h=>(mo a h).bind λp=>if qP0 then jz3 else nO
def QiC{K:Nj}{x:V}(c:ē)(r:lL)(e:tyW h T a=true):tyV K T x H:=by
 cases a with
 |str _=>rw[r.str_eq];show Fl e
 |int _=>rw[r.int_eq];show Fl e
 |lst _=>
  let#[ad,b,rfl,q,_]:=zV c;show Ğ #[Fl e,b,yu q]
 |frz _=>
  let#[ad,b,rfl,q,_]:=c.frzAt r;show Ğ #[Fl e,b,q]
 |ref n=>
  simp only[tyW]at e;split at e
  ·rename_i j d;let#[_,rfl,b,f,_]:=c.refAt r d;show Ğ #[Fl e,b,yu f]
  ·show(jqh,Ć (Υ (΢ #[Fl e,Ý (ĺ g f)])))
  ·show(jqh,Ć (Υ (΢ #[Fl e,.inr (ĺ g f)])))
  ·cases e
 |_=>cases e
section
variable{X:Cx}{o e:Expr}{es:ā}{mo:ME}{ms:MA}{name:Str}{apos cpos:Pos}{T id:String}{f:cf}
def Qpo{X:Cx}{e:Expr}{es:ā}{cpos:Pos}(a:pV)(c:Ϧ)(b:ju) :
  (jP7
   && decide jRe)=true:=by
 rw[QgD (by unfold ZS at b ⊢;rw[Yba,c,b];rfl)];show a
def Qsk(B:db)(slot:rZ)(p:pB)(E:zXi)(D:Tt)(F:qZ)
  (d:sk:=by rfl) (j:pV:=by rfl)
  (c:mr:=by rfl) (u:Ϧ:=by rfl) (b:ju:=by rfl) :
  ą jWh (mMt T f mo ms):=
 Q2 (Qtg B slot p E D F d (Qpo j u b) c (Za u) (Z4 b)) λM H Q z=>by
  let#[R,g,h,w,I,A,st,e,k]:=z;show(ĵ a y J l e,uT l)
  ·rename_i C;let#[#[s,v],es,L]:=ģ l;show#[R,g,h,a,y,A,st,J,T3 r i t #[QiC i t C,R1,g,y,s,v,i,yn r,es,λR2 H2 N q n m=>#[R2,v,a,s,w,I,n,Su q t,m,L,k.ext (Ē r q)]]]
  ·cases l
def Qp4(r:db)(slot:rZ)(j:pB)(u:zXi)(t:Tt)
  (c:sk:=by rfl) (b:mr:=by rfl):ą jZ6 (mMt T f mo Qc):=
 Q2 (Qon r slot j u t c b) λA H Q n=>by
  let#[R,i,h,w,v,q,st,e,k]:=n;show(ĵ a m y g e,uT g)
  ·rename_i s;let#[#[B,C],es,z]:=ģ g;cases es;show#[R,i,h,a,m,q,st,y,T3 p d l #[QiC d l s,R1,m,a,[],w,v,d,l,Rws.nil,z,k.ext p]]
  ·cases g
#print"-"
set_option backward.eqns.nonrecursive false in
abbrev Qp(a:W)(ws:Ã)(h:MH):Ú:=match a,ws with
 |Ä n,[w]=>match h[n]? with|qc b=>if zL9 then sO (.non,Ű (Ï (b++[w])))else nO|_=>nO
 |_,_=>nO
abbrev Xo(a:W)(ws:Ã)(h:MH):Ú:=match a,ws with
 |Ä n,[w]=>match h[n]? with|qc c=>(loW h w).bind λb=>jUi|_=>nO
 |_,_=>nO
abbrev QeB(a:W)(ws:Ã)(h:MH):Ú:=match a,ws with
 |Ä n,[]=>match h[n]? with|qc b=>(b[b.length-1]?).map λw=>(w,Ű (.lst b.dropLast))|_=>nO
 |_,_=>nO
section
variable{X:Cx}
def Rws.dropLast{K:Nj}(r:ϡ):Rws K R ws.dropLast vs.dropLast:=by
 rw[YaH,YaH,r.length];show r.take _
def QbI:QbA X "list.append" Qp:=by
 intro b s i H x l v m Q I p rv q;refine Qez b s i H x l v m Q I p rv ?_;let#[R,h,a,B,w,D,f,r,c,e,k]:=q;unfold Qp at e;split at e
 ·show Tx n C e
  ·show Tx A t e
   ·show(ſ u e,zdc d j z g f r t,CL y o c);refine#[_,j,y,rfl,rfl,z,uF g u,?_];show k R _ _ Ε (f.put d #[_,rfl,Rws.append g (Rws.cons o Rws.nil)]) Rw.non
   ·cases e
  ·cases e
 ·cases e
def Qcf:QbA X "list.extend" Xo:=by
 intro b s j H x o v p Q I t rv q;refine QdI b s j H x o v p Q I t rv ?_;let#[R,h,a,L,w,N,d,u,c,e,k]:=q;unfold Xo at e;split at e
 ·show Tx n M e
  ·rename_i J z;show yD F D;split at e
   ·show jj5;let#[E,l,rfl,B,g]:=d.loAt r D;show jw0 E
   ·cases e
  ·cases e
 ·cases e
def Qmp:QbA X "list.pop" QeB:=by
 intro c s i H x l v m Q I p rv q;refine QoQ c s i H x l v m Q I p rv ?_;let#[R,h,a,D,w,F,g,r,b,e,k]:=q;unfold QeB at e;split at e
 ·show xN n e
  ·rename_i C t;show(ū E B A e,zdc f j u d g r t,jm b,Ϥ y z o d B);refine#[_,j,y,rfl,rfl,u,uF d z,?_];show ϭ R Ε (g.put f #[_,rfl,d.dropLast]) o
  ·cases e
 ·cases e
#print"-"
structure Cal(P:Program)(w:World)(K:Nj)(mg:Ĕ)(base:Heap)(k:Nat)(x:Str)(ps:Â)(g:FM):Prop where
 ex:∃(f:Addr) (fd:FuncData),jYd/\qD2/\i6/\iy/\∃(oc:Value) (od:BC) (osl:kJ),Ac f=qw7
structure DefAt(K:Nj)(mg:Ĕ)(x:Str)(st:Stmt)(ps:Â):Prop where
 ex:∃(f:Addr) (fd:FuncData),Fun K x x st f fd/\qD2/\iy
def Qa7{K:Nj}{h:Heap}{x:Str}{st:Stmt}{f:Addr}{i:Value}{kV d pm cd ct:Value}(X:TQ)(G:S9 j)
  (a:mF=sO ű) (l:Ac f=sO #[i,n,.func (DJ x x xi BL jr .none kV d pm g cd ct),m]) (c:Lf K cd x=true) (k:i6)
  (b:∀(kV d pm:Value) (g:BC) (e ct:Value) (us:Ë),zA8 (DJ x x xi BL jr .none kV d pm g e ct)):DefAt K j x st ps:=
 #[f,_,Qa8 l c k,xR,qM1]
structure Glob(K:Nj)(mg:Ĕ)(x:Str)(w:W):Prop where
 ex:∃(v:V) (u:Value),mg x=sO u/\ñ v/\∀R,õ w
def Qrj{K:Nj}(X:TQ)(G:S9 b)(a:mF=sO (sO fC)):Glob K b x Ō:=
 #[Á i,_,xR,Sd,λ_=>Rw.int i]
abbrev Qp6:Â->Ã:=List.map W.str
def Qgi{K:Nj}:∀(a:Â),BZ (Qp6 a) oC:=by
 intro a
 induction a with
 |nil=>
  show xn
 |cons y a b=>
  show TR (Rw.str y) (b)
def QcN{its:Ë}{a:Â}(h:StrsAre its a):Vals oC its:=by
 induction h with
 |nil=>show .nil
 |cons _ t _ i=>show ĉ Sd i
def Qn6{K:Nj}{h:Heap}{x:Str}{c:Addr}{n:Nat}(X:TQ)(G:S9 d)(a:zsa)
  (l:jwa) (hz:kU) (e:StrsAre its.toList b):Glob K d x (Ĩ (Qp6 b)):=
 #[Ä c,_,xR,rfl,λR=>by
  show#[c,_,rfl,ê #[_,its,n,l,rfl,rfl,hz,QcN e],Qgi b]]
section
variable{X:Cx}{k n:Nat}{g:FM}{x:Str}{ps:Â}{p pos:Pos}{e:Expr}{es:ā}{ms:MA}
def QfV(C:ql6)(c:Tj)(i:Ϭ)(m:qZ)(d:aX:=by rfl)
  (b:ω:=by decide) (j:Ϧ:=by rfl) (a:ju:=by rfl) :
  ą oQ xgj:=by
 let#[f,fd,F,h,hk,l,_]:=C.ex;subst d;show Qm9 F c i h hk l Qhy m b j a
def QcR(C:ql6)(b:Tj)(h:Ϭ)(c:aX:=by rfl)(a:ω:=by decide):ą m7 (Qf n g Qc):=by
 let#[f,fd,F,d,hk,i,_]:=C.ex;subst c;show Qhd F b h d hk i Qhy a
#print"-"
section
variable{P:Program}{w:World}{K:Nj}{mg:Ĕ}{base:Heap}
def Qol{st:Stmt}(d:DefAt K mg x st ps)(S:kB)(hN:zFb)
  (c:∀(f:Addr) (b:Value) (A:Around) (a:ϓ) (s:Shared) (H:Hp) (E:XK),pH k x b->Qcz (QfS CX0 P w K mg base N x jr f b A a s H E).nox BL m) :
  zZ4 (k+1) zS3:=by
 show zd1 l o d;let#[i,h,kV,p,pm,q,b,ct,g,e,lk,n]:=F.ex;show#[f,fd,Qpv F S hN (λb A a s H E j=>c f b A a s H E j),l,F.kp,o,i,h,g,lk]
def Cal.imp(C:zZ4 k g)(h:∀vs H Q E,qZa g'->qZa g):zZ4 k g':=by
 let#[f,fd,F,r]:=C.ex;show#[f,fd,F.imp h,r]
#print"-"
def Qan{K:Nj}:∀(ns:Ũ),BZ (zA7 W) P9:=by
 intro ns
 induction ns with
 |nil=>
  show xn
 |cons n ns a=>
  show TR (Rw.int n) (a)
abbrev QcM(a:Scope):Bool:=a.names.all λy=>y.2 != .cell&&(y.2 != .local ||a.names.lookup y.1==CQ)
abbrev Qoh(N:Â)(xs a:Scope)(cp:χ)(Nb:Â):Bool:=(cp.zip Nb).all λp=>match p.1 with
 |none=>true
 |ã j=>N[j]?==u5&&(qM2==j8 ||qM2==A9)&&a.names.lookup p.2==A9
abbrev Qiz(a:Scope)(ks:Â):Bool:=a.names.all λy=>xnc ||ks.contains y.1
def Xj{env:Env}:∀{a:zI8} {x:Str},a.lookup x=A9 ->
  zv8=j8 \/
  zv8=A9:=by
 intro a
 induction a with
 |nil=>
  intro _ h;simp at h
 | cons e r f=>
  show Đ n k e;intro x h;let d:=@f x;rw[NB];dsimp only;cases b:x==n with
  |true=>
   show aI;cases h
   by_cases c:(NameKind.free==NameKind.free&&qz3&&wP n==j8)=true
   ·rw[Ò c];show Ý qS4
   ·rw[Ó c];show ê qS4
  |false=>
   show aI
   by_cases c:jE2
   ·rw[Ò c];show(zg6,d h)
   ·rw[Ó c];show(zg6,d h)
def V9{env:Env}:∀{a:zI8} {x:Str} {k':NameKind},(∀y∈a,zV0)->(k'=.cell\/k'=.free) ->
  zv8=sO k'->qS5∈a:=by
 intro a
 induction a with
 |nil=>
  intro _ _ _ _ h;simp at h
 | cons e r g=>
  show Đ n k e;intro x k' d hk h;rw[NB]at h;show gc h;let f:=@g x k' (ky y i d) hk;cases c:x==n with
  | true=>
   let:x=n:=Fl c;subst this
   by_cases b:(zvb x)=true
   ·let:k=.free:=by
     simp only[Eh,beq_iff_eq]at b;show b.1.1
    subst this;show NA
   ·rw[Ó b]at h;simp[ET]at h;subst h
    rcases hk with z|z
    ·show ý z (d (x,k) NA)
    ·subst z;show NA
  |false=>
   refine C6 (f ?_)
   by_cases b:jE2
   ·rw[Ò b]at h;simpa only[ET,c]using h
   ·rw[Ó b]at h;simpa only[ET,c]using h
def Qce{d:CA}(h:qYf):(x,c)∈d:=by
 induction d with
 |nil=>simp at h
 | cons p r e=>
  show Đ n a p;cases b:x==n with
  |true=>
   show aI;cases h;rw[Fl b];show NA
  |false=>
   show(aI,C6 (e h))
def WL{d:CA}(h:x∈d.map (·.1)):∃c,qYf:=by
 induction d with
 |nil=>simp at h
 | cons p r e=>
  show Đ n a p;cases b:x==n with
  |true=>show#[a,by show zg6]
  |false=>
   show CP h z
   ·show gc z;rw[z,beq_self_eq_true]at b;cases b
   ·let#[c,f]:=e z;show#[c,by show(zg6,f)]
def Qqg(g:closureFor d X.env=pure o)(kind:d.kind=.function)(r:QcM d=true)(hk:o.map (·.1)=ks)(n:Qiz d ks=true)
  (f:∀p∈o,X.env.cells.lookup p.1=u5) (hN:X.N=N) (q:X.env.scope=xs) (m:zJ3) (u:Qoh N xs d cp Nb=true):dZ d o:=by
 let e:∀y∈d.names,zV0:=λy l=>by
  let:=xuc;simp only[Eh,bne_iff_ne]at this;show this.1
 refine#[g,e,kind,Õ y l m,λx c h=>f _ (Qce h),Γ h,m,λi j x w v=>?_]
 ·let:=xuc;simp only[Eh,F3,bne_iff_ne,beq_iff_eq]at this
  rcases this.2 with z|z
  ·show ý m z
  ·show z
 ·let t:qS5∈d.names:=by
   show j6 h
   ·show V9 e AL h
   ·show V9 e xh h
  let:=D9.mp n _ t;simp only[F3,bne_iff_ne,ne_eq,not_true_eq_false,false_or,YaI]at this;show WL (by rw[hk];show this)
 ·let s:(cp.zip Nb)[i]?=sO (sO j,x):=by rw[OT];show B3 w v
  let:=D9.mp u _ (EI s);simp only[Eh,F3,beq_iff_eq]at this;let#[#[a,b],c]:=this;refine#[by rw[hN];show a,?_,?_,Xj c]
  ·rw[q]
   show j6 b
   ·show Ć (Ş b)
   ·show Ć (Ė b)
  ·unfold Env.kindOf;show Β q b
def QC(items:Ã)(h:MH):live nO items h:=λ_ z=>AS z
def YV{mt:MT}{me:ME}{h:MH}:∀(rest a:Ã) (o:Þ),
  (∀w∈rest,qha)->(∀w∈rest,jJc)->zq1 ->
  Zx fin items nO η mt me rest a xud h=qD4 p:=by
 intro rest
 induction rest with
 |nil=>
  show zWc o;rw[Bu];simp
 | cons w rest g=>
  intro a o d e j;unfold Zx;rw[Bu];let l:QZ 0 w xud h=sO qe1:=rfl;rw[l,Nk,d w NA,Nk];let i:zzi:=é j
  cases c:p w with
  |true=>
   show yw c;rw[e w NA c,Nk,if_pos É];show jZf qB1 Px
  |false=>
   show(yw c,jZf a É)
def Yj(c:qQ)(a:Sj=yE):k6 (w::r)=Zp items nO b body r σ2 h2:=by
 rw[Zp,Bu,c,Nk,a,Nk]
def KF:Zp items nO b body [] σ h=cV:=by
 rw[Zp,Bu]
section
variable{σ σ1:MSt}{h h1 h2 h3:MH}{a b c w:W}{ws:Ã}{ma mb mc:ME}{ms:MA}{mt mu:MT}{s1 s2:SM}{f f':yC}{g:ŷ}{z:MF}
def QrL:qEi:=rfl
def Qdk(e:ma σ h=Ċ a h1)(d:ms σ h1=sO (ws,h2)):Qa ma ms σ h=sO (a::ws,h2):=by unfold Qa;rw[e,Nk,d];rfl
#print"-"
def Qd8(c:zA4):Qn2 Ō ϲ h=jHj:=by unfold Qn2;show Ò c
def Qla(c:zl0):jZa:=by unfold Qkl;show Ò c
def Qj9(c:0<j):jZb:=by unfold QdP;show Ò c
def Qmn(c:zBi):jWe:=by unfold Qme;show Ò c
def Qj7(a:zB3)(e:atI x.cps.toList i=sO d):CJ Μ=sO (Ù #[#[d,]],h):=by
 unfold wIx;simp only;rw[Ò a,e];rfl
abbrev Qdr(mo mi mv:ME):SM:=λa h=>(mv a h).bind λv=>(mo a v.2).bind λo=>(mi a o.2).bind λi=>match o.1,i.1 with
 |Ä n,Á k=>match i.2[n]? with
  |qc b=>(ixN b.length k).map λj=>.nx a (i.2.set n (Ï (b.set j v.1)))
  |_=>nO
 |_,_=>nO
section
variable{X:Cx}{o i e:Expr}{mo mi mv:ME}{pos pos':Pos}
def Qo7{K:Nj}(q:xL qV9):QqY xue (Qu6 xuf xug QnL) D σ H:=by
 let#[R,a,h,r,F,s,e,k]:=q;show(ĵ v w e1 Z e,zn7 u Y U Z M S b);refine#[R,a,h,v,w,F,s,e1,T3 g m E #[R1,a,w,ob,u,m,HB g,Y,λR2 H2 y f l C=>#[R2,a,u,ix,M,l,s.mono (Ē g f),S,ϰ R3 H3 z d c B]]];show uT b
 ·show Tx n I b
  ·rename_i xs J;show ū j Q P b;let#[p,N,A,L,t]:=c.refAt (Tc d C) J;refine#[_,A,I,j,N,B.int_eq,L,uF t Q,?_];show k R3 _ σ jMb (c.put p #[_,rfl,t.set j (Tc (Ē f d) E)]) (s.mono jMb)
  ·cases b
 ·cases b
def QjU(d:Tt)(hi:zdd)(f:zde)
  (g:∀v,assign xG5 X.env v=(do
   let a <-jBh
   let b <-jl8 a
   standAt pos'
   qUc a b
   release [v,a,b] []):=by intro _;rfl)
  (c:Tk:=by rfl) (hw:qs2 zya=SO:=by rfl):sy qV9:=
 JH (Qi5 f (Qnn d hi set_list g) jya hw rfl) λ_ _ _=>Qo7
#print"-"
abbrev Qfe(a b:W)(h:MH):Ú:=match a,b with|Á i,Á j=>gM|_,_=>nO
section
variable{X:Cx}{o i e:Expr}{mo mi mv:ME}{pos pos':Pos}
def Qhu:æ qOc (F2 X.K Qfe):=by
 intro c s d H x y v u Q I g f q;refine Qlm c s d H x y v u Q I g f ?_;let#[R,h,a,b,w,n,j,m,l,e,k]:=q;unfold Qfe at e;show zlb (zo9 m l j)
 ·cases e
#print"-"
abbrev Ko(a:W)(ws:Ã)(h:MH):Ú:=match ws with
 |[w]=>(lsW h a).bind λc=>(drf h 40 w).bind λx=>(Zu kq c).bind λb=>(b.findIdx? xna).map λj=>(xnd,h)
 |_=>nO
def Qd2(hu:ļ):QbA X "list.index" Ko:=by
 intro aa s σ H x xs v us Q I rx rv q;let#[R,h,a,ws,w,h',p,ra,C,e,k]:=q;unfold Ko at e;split at e
 ·rename_i w1;show(yD Z e1,yD r e2,yD Y U,ū j e4 e5 e);let#[y,rfl,ry]:=KA C;let#[u,rfl,ru]:=Xm rv;let#[ad,xv,rfl,q1,J]:=p.lsAt ra e1;cases rx;let#[c,B,p1,hz]:=ϒ q1;let P:zG6:=jxe
  show Ph l1 J l2 B;let l3:=(QG U).1;let#[hj,l,d]:=Dn.mp e4
  let o:∀m (f:m<c.toArray.size),QfD X.K R h r xn9=eqW (Y[m]'(by rw[Nz]at f;lia)) r:=by
   intro m f;rw[Nz]at f;obtain⟨t,g⟩:∃t,Z[m]?=sO t:=zo8 Z m f l2 l1
   show(Ϥ v2 M D J g,Ϥ u2 N E B M);let#[b,hb,eb]:=(QG U).2 m t g;let eu:xn9=u2:=by let:=N;show zv1 f
   let ez:Y[m]' ċ=b:=by let:=hb;rw[Nn ċ]at this;show ϻ
   rw[eu,ez];show GT I p D E eb
  let#[ob,n,ho,hc,ae,hd]:=p1;let#[cls,dd,data,sl]:=ob;simp only at hc hd;subst hc hd;let i:qV7:=xh7
  refine Lg Yai #[_,ho,rfl] PySem.F.entry_list_index (PySem.F.args_list_index_2 _ _)
   (list_indexAt ad c.toArray n dd sl u (QfD X.K R h r) j i ?_ ?_ ?_) #[ho,λz L=>XM I p P ry ru e2 J B U z pc,?_]
  ·let:xbj<2^62:=ÿ
   let ab:j<2^62:=Í
   lia
  ·rw[o j i];show l
  ·intro m f S;rw[o m f];simpa using d m S
  show č #[Á j,H,ų,þ,Ļ p qN]
 ·cases e
inductive TabIs:zP6->zO0->Prop where
 |nil:TabIs [] []
 |cons {e:DictEntry} {x:Str} {i:Int} {t t':Tok} {es:zP6} {tab:zO0} (hk:e.key=.str x t) (hv:e.val=.int i t') (r:zS7):TabIs uw ((x,i)::tab)
structure GTab(w:World)(K:Nj)(mg:Ĕ)(x:Str)(tab:zO0):Prop where
 ex:∃(a:Addr) (es:zP6) (n:Nat),mg x=sO Ġ/\Ac a=jyb/\qZb/\kj/\zS7
def Qtd{K:Nj}{x:Str}{c:Addr}{n:Nat}(X:TQ)(G:S9 b)(a:zsa)
  (l:Ac c=jyb) (k:qZb) (s:(sD c)=false) (t:zS7):GTab w K b x tab:=
 #[c,es,n,xR,l,k,s,t]
def Qlp(a b:Int)(h:MH):wEq (ĭ a) (ĭ b) h=jMh:=rfl
def QmZ(a b:Int)(h:MH):wNe (ĭ a) (ĭ b) h=sO (ă (! zn),h):=rfl
def Qfd(a b:Str)(h:MH):wEq (Ad a) (Ad b) h=jMh:=rfl
def YJ(P:MSt->jd8):∀(r:Ã) (σ:MSt) (h:MH),ė P->(∀w∈r,∀σ h,ė P->∃σ1 σ2 h2,qQ/\Sj=yE/\P σ2 h2)->∃a h',zq2/\P a h':=by
 intro r
 induction r with
 |nil=>
  intro σ h c _;show zOe
 |cons w r g=>
  intro σ h c d;let#[σ1,σ2,h2,m,l,f]:=d w NA σ h c;let#[a,h',j,e]:=g σ2 h2 f (Η x i d);show#[a,h',by rw[Yj m l];show j,e]
def Xl(e:qm0)(a:Zp items src b body items σ h1=r):ZR mi b body σ h=r:=by
 unfold ZR;show Β e a
def Y7(lo:Int)(n:Nat):(QE lo n).length=n:=by unfold QE;simp
abbrev Qq0(lo c:Int)(n:Nat):It:=#[λi _=>i<n,λi H x a=>a=H/\x=jm3,zU9]
def Qdc{K:Nj}(it:Addr)(lo c:Int)(n:Nat):Turn P w K L xce [it] it (λi h=>IsRangeIter h it (lo+Ho*c) (ũ-Ho) c) where
 mem:=Å
 obj:=λi h st b d=>by
  show HV d
  subst e
  show#[_,st,λv z=>by
   show qw2 C]
 keep:=qqj j
 item:=by
  intro X p hw q m i a s A H E I g st l;show jje;let W:=Walks.range (prog:=X.prog) (w:=X.w) (ye m) it lo c n;refine W.item i s _ _ l st λv j tk F f D=>?_;show á F;let I1:qAi A j:=I.turned (λb o d e=>An D zkj) y f1 x u r;show#[_,rfl,qhi j f #[jm3,H,I1,Sd,ś,f,Sv d g]]
 done:=by
  intro X p hw q m i a s A H E I g st l;show jje;show Yao (ye m) st (by let:n<=i:=l;lia) (ŗ j J #[rfl,I.turned (t':=s.toks) (eF d J) y f1 x u r])
 self:=qxa
def UG(d:c≠0):0<=Builtin.Range.rangeSize a b c:=by
 show qS6;split
 ·show qi3 (b-a-1) c
  ·show Yaw _
 ·show qi3 (a-b-1) (-c)
  ·show Yaw _
section
variable{X:Cx}{tg:Expr}
def Qkn{σ:L2.St}{H:Hp}{lo hi c:Int}{tk:Nat}(I:ĳ d)(f:c≠0)(h1:Builtin.Range.small lo hi c=true)
  (q:R (Qq0 lo c zxi) H):wpAny qq X.A (TX ϴ) (PIE X d σ tg R) E { s with heap:=jsj,toks:=tk }:=by
 refine qxb h1;let I1:Inv X d σ H { s with heap:=jsj,toks:=tk }:=I.kept kP
 refine#[zw3,[zw3],_,_,H,rfl,
  jAf,Qdc _ lo c zxi,?_,Ô b g,q]
 ·let i:lo+CK*c=lo:=Å
  let h:jI1-CK=Builtin.Range.rangeSize lo hi c:=by
   let:=UG (a:=lo) (b:=hi) f;lia
  apply IsRangeIter _ _ (lo+CK*c) (jI1-CK) c;rw[i,h];show ŭ
 ·let e:b=zw3:=é g
  show oN
abbrev Qsv(d:TA):TI:=λa H R=>d a H λb H1=>∃i j c:Int,b=jE8/\(c≠0/\qf2)/\R (Qq0 i c qmh) H1
def QeR(B:iQ)(A:iG)(C:PA X wQ v)(z:js2:=by rfl)(l:jzg:=by rfl) :
  PI X tg (sA wQ) (Qsv v):=by
 show đ g o R;refine Call_ (Xc I B A boot_range (Ey (ņ (vh C g o) E J u) (by rw[z,l]) (jhf l)));show ς D x m u;let#[i,j,c,e,#[m,q2,q3],q]:=m;subst e;cases x with
 | cons r f=>
  cases f with
  | cons y f=>
   cases f with
   |cons n f=>
    cases f;show(jL t r F y,Ĵ w n,call_range_3 m (Qkn I1 m q3 q) (Ş (Yaq q2)))
#print"-"
abbrev Jj(lo c:Int)(n:Nat):Ã:=(List.range n).map λ Ho=>W.int (lo+A5*c)
section
variable{K:Nj}{R:Rn}
def QdX{lo c:Int}:zS xce (Jj lo c n) where
 go:=λi w d h H _ _ _ e=>by
  let:=Ü e;apply i<n;simpa[Jj]using this
 yld:=λi w d h H v o e f _ b g=>by
  show uX g;unfold Jj at b;rw[Nt]at b;show(Az j a m b,jW2,ì m #[d,CU,f,jd2])
 stop:=λi d h H _ _ _ l=>by
  apply n<=i;simpa[Jj]using l
#print"-"
abbrev Qge(b:MA):MI:=λa h=>(b a h).bind λp=>match p.1 with
 |jE8=>if c≠0/\qf2 then sO (Jj i c qmh,nO,p.2)else nO
 |_=>nO
section
variable{X:Cx}{tg a b d:Expr}{ms:MA}{p pos:Pos}
def QpQ(J:iQ)(I:iG)(M:PMA X wQ ms)(F:js2:=by rfl)(m:jzg:=by rfl):MW (sA wQ) (Qge ms):=
 YY (QeR J I M F m) λQ H C s=>by
  let#[R,g,h,items,z,Z,A,st,e,k]:=s;show yM u N P f e #[R,g,h,u,N,A,st,P,CB S t l];split at f
  ·rename_i i j c r;show PC r;split at f
   ·show(ſ L f,zDa y E q,϶ q Y x D o,϶ o U w B n,jm n);rw[E.int_eq,D.int_eq,B.int_eq];show#[i,j,c,rfl,L,k R1 H1 _ t l QdX]
   ·cases f
  ·cases f
#print"-"
abbrev Xu(a:ü W)(k:Key):Þ:=(a.find? l5).map (·.2)
abbrev U4(a:ü W)(k:Key)(v:W):ü W:=
 jQ8
set_option backward.eqns.nonrecursive false in
abbrev K9:W->Option Key
 |Á i=>sO zkc
 |Ù x=>sO zkd
 |_=>nO
section
variable{K:Nj}{R:Rn}
noncomputable abbrev DicR(K:Nj)(R:Rn):ü W->ü V->Prop:=Paired λp q=>zRa
def Vf(r:õ w)(e:K9 w=sO k):v=kV k:=by
 cases w with
 |int i=>cases e;show r.int_eq
 |str x=>cases e;show r.str_eq
 |_=>cases e
def X6{a:ü W}{kx:ü V}(d:fP):(Xu a k=nO/\U7 kx k=nO)\/∃w v,Xu a k=sO w/\U7 kx k=sO v/\õ w:=by
 induction d with
 |nil=>show Ý ś
 |@cons p q f c h t b=>
  show Pf
  ·show Ć #[p.2,q.2,by simp[Xu,NV,e],by simp[U7,NV,<-h.1,e],h.2]
  ·simpa[Xu,U7,NV,e,<-h.1]using b
def QkI{a:ü W}{kx:ü V}(d:fP):jw7=kx.any l5:=by
 induction d with
 |nil=>rfl
 |cons h t c=>rw[D4,D4,c,h.1]
def Qav(r:õ w):∀{d:ü W} {kx:ü V},DicR K R d kx->DicR K R (d.map (λc=>qB c w)) (kx.map (λc=>qB c v))
 |_,_,.nil=>.nil
 |_,_,zFd=>by
  show rg (Qav r t)
  show Pf
  ·rw[Ò e,if_pos xu3];show#[h.1,r]
  ·rw[Ó e,if_neg xu3];show h
def Qaa(d:fP)(r:õ w):DicR K R (U4 a k w) (Ua kx k v):=by
 unfold U4 Ua;rw[QkI d];split
 ·show Qav r d
 ·show Yau d (ϔ r)
def Rh.dicAt(q:ē)(r:õ Φ)(e:h[n]?=sO lI) :
  n<R.N/\og/\∃kx,H Ŏ=xu2/\fP:=by
 show jr2
#print"-"
abbrev GH:ME:=zja (ī,qJ3)
abbrev Kz(h:MH):W->Option qB6
 |Ä n=>match h[n]? with|zka=>sO a|_=>nO
 |_=>nO
def VZ(e:Kz h a=sO b):∃n,a=Ä n/\h[n]?=sO (AU b):=by
 cases a with
 |ref n=>
  simp only[Kz]at e;show ju2
  ·cases e
 |_=>cases e
abbrev QbK(a b:W)(h:MH):Ú:=(Kz h a).bind λc=>(K9 b).bind λk=>(Xu c k).map λv=>(v,h)
abbrev U9(neg:Bool)(b a:W)(h:MH):Ú:=zp6 (ă (if neg then ! xh8 else xh8),h)
abbrev Ga(mo mi mv:ME):SM:=λb h=>(mv b h).bind λv=>(mo b v.2).bind λo=>(mi b o.2).bind λi=>(K9 i.1).bind λk=>match o.1 with
 |Ä n=>match i.2[n]? with
  |zka=>if uR then sO (ô b (i.2.set n (AU (U4 a k v.1))))else nO
  |_=>nO
 |_=>nO
section
variable{X:Cx}{o i e a b:Expr}{mo mi mv ma mb:ME}{pos pos':Pos}
def Qm6:PM X RU GH:=Q2 QgO λn H Q q=>by
 let#[R,f,h,w,s,j,st,e,k]:=q;cases e;intro p l;let#[m,g,d,c]:=j.new (mo:=wA) (o:=.dK []) l qB9
 show ϭ m g d c
def Qof(hu:ļ)(F:SD)(E:xC)(C:WJ b:=by intro _ _;rfl):ą lH (Qe QbK ma mb):=
 Q2 (QjP yU F E C) λY H Q q=>Ju zh λx H1 s=>Ju s λy H2 l=>by
  let#[R,h,a,b,w,h',d,r,p,e,k]:=l;unfold QbK at e;show(Ĭ t S P e,Ĭ u N M P,ū v c L M,zQ2 D S);let#[_,I,kx,B,U]:=d.dicAt r D;let J:=Vf p N;subst J
  rcases MU u U with z|⟨Z,m,j,g,f⟩
  ·rw[z.1]at c;cases c
  ·rw[j]at c;show ì c #[_,m,I,by rw[<-g];show DGet.k B,qH0 d f]
def Qk9(hu:ļ):æ bL (F2 X.K xng):=by
 intro g s U H x y v u Q I r q p;let#[R,h,a,b,w,h',f,B,t,e,k]:=p;unfold U9 at e;show jk1;refine QwX yU I qM3 r (ŗ s' S #[.bl rF,H,S,rfl,?_])
 let:xh9=rF:=by
  rcases MU c P with z|⟨Z,v',m,l,Y⟩
  show jJd
 show jm4
def QbQ(hu:ļ):æ zJ5 (F2 X.K zca):=by
 intro g s U H x y v u Q I r q p;let#[R,h,a,b,w,h',f,B,t,e,k]:=p;unfold U9 at e;show jk1;refine Qmi yU I qM3 r (ŗ s' S #[ă (! rF),H,S,rfl,?_])
 let:xh9=rF:=by
  rcases MU c P with z|⟨Z,v',m,l,Y⟩
  show jJd
 show jm4
def QkK{K:Nj}(q:xL qZc):Qog xuf xug xue D σ H:=by
 let#[R,d,h,r,I,s,e,k]:=q;show(ĵ v B e1 e2 e,zn7 A e3 Z e2 N Y U);let#[kk,S,c]:=ģ U;refine#[R,d,h,v,B,I,s,e1,T3 m t F #[R1,d,B,ob,A,t,HB m,e3,λR2 H2 y l p E=>#[R2,d,A,ix,N,p,jG3,Y,ϰ R3 H3 z j f C]]];show uT c
 ·show xN n c
  ·show Tx J L c
   ·show ſ g c;let#[u,Q,kx,M,w]:=f.dicAt (Tc j E) L;let P:=Vf C S;show HC P #[_,_,Q,DPut.k M (by rw[<-Ec w];show g),?_];show k R3 _ σ jMc (f.put u #[_,rfl,Qaa w (Tc (Ē l j) F)]) (s.mono jMc)
   ·cases c
  ·cases c
 ·cases c
def Qg3(hu:ļ)(d:Tt)(hi:zdd)(f:zde)(c:Tk:=by rfl):sy qZc:=
 JH (Qkj yU d hi f jya) λ_ _ _=>QkK
#print"-"
def QfZ(c:qQ)(a:Sj=AO h2):k6 (w::r)=AO h2:=by
 rw[Zp,Bu,c,Nk,a,Nk]
def Qau(P:io)(Q:W->jd8):∀(r:Ã) (n:Nat) (σ:MSt) (h:MH),AV n ->
  (∀(j:Nat) (w:W),r[j]?=sO w->∀σ h,AV (n+j)->∃σ1,qQ/\((∃σ2 h2,Sj=yE/\qt0)\/∃v h2,Sj=AO h2/\Q v h2)) ->
  (∃a h',zq2/\zD1)\/∃v h',k6 r=AO h'/\Q v h':=by
 intro r
 induction r with
 |nil=>
  intro n σ h c _;show Ý zOe
 | cons w r i=>
  show xl6;obtain⟨σ1,f,⟨σ2,h2,d,g⟩|⟨v,h2,d,q⟩⟩:=zM4 e
  ·let:=i (n+1) σ2 h2 g λj x l σ h c=>by
    show(jRg,sn)
   rw[Yj f d,NS,jI2];show this
  ·show Ć #[v,h2,QfZ f d,q]
def Qao(xs:Ø a)(x:a):atI xg1 (-1)=sO x:=by
 unfold atI ixN;rw[if_neg Ð,if_pos Px,Nk];let:((-1:Int)+((xs++[x]).length:Nat)).toNat=xs.length:=zV2
 rw[this];simp
def QnB(d:zlc)(e:qq7)(ei:mi σ h1=Ċ i h1)(hk:K9 i=sO k)(b:h1[n]?=sO lI)(c:uR):Ga mo mi mv σ h=sO (ô σ (h1.set n jA0)):=by
 unfold Ga;rw[d,Nk];simp only;rw[e,Nk];simp only;rw[ei,Nk];simp only;rw[hk,Nk];show yw b;rw[Ò c]
def QhL{k:Nat}(hk:k<1000000):Builtin.Range.small Pb (-1) (-1)=true/\(Builtin.Range.rangeSize Pb (-1) (-1)).toNat=k:=by
 let e:Builtin.Range.rangeSize Pb (-1) (-1)=k:=by
  show(qS6,zK4)
  by_cases z:k=0
  ·subst z;rfl
  ·show Ŕ É;simp
 refine#[?_,CS e];unfold Builtin.Range.small;rw[e];simp only[Builtin.Range.rangeFitsLong,Eh,F3,decide_eq_true_eq,beq_iff_eq];show#[Í,ê Ð]
def Qtp{c b a:ME}{k:Nat}(e:ė c=sO (Á Pb,h))(i:ė b=jI3)(g:ė a=jI3)(hk:k<1000000):Qge (Qa c (Qa b (à a))) σ h=sO (zD2,nO,h):=by
 unfold Qge;rw[Qdk e (Qdk i (Qdk g QrL)),Nk];let#[f,d]:=QhL hk;apply zC3;rw[if_pos #[ÿ,ÿ,f],d]
set_option backward.eqns.deepRecursiveSplit false in
mutual
abbrev pur:yj
 |ŉ=>Ze ws
 |Ŀ=>Ze ws
 |AT=>Ze ws
 |Hx=>false
 |_=>true
abbrev Ze:zth
 |[]=>true
 |w::ws=>pur w&&Ze ws
end
abbrev K3:MO->Bool
 |Ŀ=>Ze ws
 |ϯ a=>Ze (a.map (·.2))
 |Ο a=>Ze (a.map (·.2))
 |jd9=>false
set_option backward.eqns.deepRecursiveSplit false in
mutual
abbrev th(f:qe):W->Þ
 |ŉ=>(ths f ws).map .tup
 |Ŀ=>zQ3 f
 |AT=>(ths f ws).map .frz
 |Ä j=>f j
 |w=>sO w
abbrev ths(f:qe):Ã->zae W
 |[]=>sO []
 |w::ws=>(th f w).bind λx=>(ths f ws).map (x::·)
end
abbrev thO(f:qe):MO->Option MO
 |Ŀ=>zQ3 f
 |ϯ a=>(ths f (a.map (·.2))).map λvs=>.dic ((a.map (·.1)).zip vs)
 |Ο a=>(ths f (a.map (·.2))).map λvs=>.dct ((a.map (·.1)).zip vs)
 |jd9=>nO
set_option backward.eqns.deepRecursiveSplit false in
abbrev res(kp:zld)(g:MH):Nat->qe
 |0,j=>(kp j).map .ref
 | d+1,j=>match kp j with
  |ã n=>υ n
  |none=>match g[j]? with
   |qd=>zQ3 (res kp g d)
   |_=>nO
abbrev JV(ns a:Ê)(N j:Nat):A4:=match ns[j]? with
 |ã n=>sO n
 |none=>(a.findIdx? (·==j)).map (N+·)
set_option backward.eqns.deepRecursiveSplit false in
abbrev V1:Nat->Ã->Option (Ã×Ê)
 |_,[]=>qP2
 |k,Ä n::ws=>(V1 (k+1) ws).map λp=>(Ä k::p.1,n::p.2)
 |k,w::ws=>if pur w then zB1 else nO
set_option backward.eqns.deepRecursiveSplit false in
abbrev Qz:Ê->ST->MH->MH
 |n::ns,o::os,h=>qt2
 |_,_,h=>h
abbrev QbW(h:MH)(n:Nat):Option MO:=match h[n]? with|ã o=>if K3 o then sO o else nO|none=>nO
abbrev QfF(a:W->Ê)(m:FM)(as:Ã)(ns:Ê)(h:MH):Ú:=
 if ns.Nodup then(Zu jda ns).bind λc=>(m as c).bind λp=>
  if(a p.1).Nodup/\(∀j∈a p.1,xm9)then
   (th xF8 p.1).bind λw=>
   (Zu jT0 zFe).bind λos=>
   (Zu jT0 qM4).map λb=>
   (w,Qz ns os h++b)
  else nO
 else nO
abbrev box(c:W->Ê)(m:FM):FM:=λb h=>(V1 0 b).bind λa=>QfF c m a.1 a.2 h
section
variable{K:Nj}{R R':Rn}
mutual
def Rw.pur_mono(b:qw):∀(w:W) (v:V),A6->jFj
 |.non,_,_,h=>Ca
 |.bl _,_,_,h=>Ca
 |yp,_,_,h=>Ca
 |BY,_,_,h=>Ca
 |.ty _,_,_,h=>Ca
 |ŉ,_,p,h=>by
  show Py e d c #[a,xs,e,Zr b d,zwg]
 |Ŀ,_,p,h=>by
  show Py e d c #[a,xs,e,b a _ d,zwg]
 |AT,_,p,h=>by
  show Py e d c #[a,xs,e,Zf b d,zwg]
 |Ä n,_,p,h=>qxg
def Rws.pur_mono(c:qw):∀(ws:Ã) (vs:Ö),Sz->ϡ->xc4
 |[],_,_,h=>jBi
 |w::ws,_,p,h=>by
  show(bZ,ŏ v b f e d h,ig p,#[v,b,f,Rw.pur_mono c w v p.1 e,Rws.pur_mono c ws b p.2 d])
end
mutual
def Rw.th_ok(c:qw)(l:zn9):∀(w:W) (v:V) (w':W),th f w=sO w'->õ w->ŵ R' w' v
 |.non,_,_,e,h=>cq
 |.bl _,_,_,e,h=>cq
 |yp,_,_,e,h=>cq
 |BY,_,_,e,h=>cq
 |.ty _,_,_,e,h=>cq
 |ŉ,_,_,e,h=>by
  show(zo6,#[a,b,i,Zr c g,zE0])
 |Ŀ,_,_,e,h=>by
  show(zo6,#[a,b,i,c a _ g,zE0])
 |AT,_,_,e,h=>by
  show(zo6,#[a,b,i,Zf c g,zE0])
 |Ä n,v,w',e,h=>by unfold th at e;show l n v w' h e
def Rws.th_ok(g:qw)(d:zn9):∀(ws:Ã) (vs:Ö) (b:Ã),ths f ws=sO b->ϡ->Rws K R' b vs
 |[],_,_,e,h=>by unfold ths at e;cases e;show(bZ,h)
 |w::ws,_,_,e,h=>by
  unfold ths at e;show qm x h1 h2 e i m l;subst l;unfold Rws at h;show ŏ v c q p n h;subst q;show TR (Rw.th_ok g d w v x h1 p) (Rws.th_ok g d ws c i m n)
end
def DicR.vals:∀{a:ü W} {kx:ü V},jXe->Rws K R (a.map (·.2)) (kx.map (·.2))/\a.map (·.1)=kx.map (·.1):=by
 intro a kx p
 induction p with
 |nil=>show#[Rws.nil,rfl]
 |cons h t b=>show#[Rws.cons h.2 b.1,by rw[NB,NB,b.2,h.1]]
def DicR.zip{ks:List Key}{kx:ü V}{us:Ã}(e:ks=kx.map (·.1))(h:Rws K R us (kx.map (·.2))):Paired zx4 xhb kx:=by
 subst e
 induction kx generalizing us with
 |nil=>show .nil
 | cons q kx a=>
  rw[NB]at h;cases us with
  |nil=>show xB h;cases h
  |cons u us=>
   show(jx2,ĉ (ϔ c) (a b))
def Qio:∀(n:Nat) (w:W) (k:Tr),xuh->A6:=by
 intro n
 induction n with
 |zero=>
  intro _ _ e;show MD
 | succ n g=>
  intro w k e;cases w with
  | tup a=>
   show we;let#[ks,c,hk]:=ϗ e;unfold pur;clear e hk
   induction a generalizing ks with
   |nil=>rfl
   |cons x a f=>
    rw[Dm]at c;show Ĭ d i l c;let#[b,h,_]:=ģ l;unfold Ze;rw[g x d i,f b h];rfl
  |lst a=>show MD
  |frz a=>show MD
  |ref j=>show MD
  |_=>rfl
def Qc7(e:zbb):A6:=by
 cases w with
 |tup a=>show Qio 8 _ k e
 |_=>cases e
def DctR.vals:∀{a:ε} {kx:Ś},zA9 a->Rws K R (a.map (·.2)) (kx.map (·.2.2))/\Paired qcg (a.map (·.1)) kx:=by
 intro a kx p
 induction p with
 |nil=>show#[Rws.nil,.nil]
 |cons h t b=>show#[Rws.cons h.2.2 b.1,.cons #[h.1,h.2.1] b.2]
def DctR.zip{ks:Ã}{kx:Ś}{us:Ã}(p:Paired qcg ks kx)(h:Rws K R us (kx.map (·.2.2))):zA9 xhb:=by
 induction p generalizing us with
 |nil=>show .nil
 | cons e t a=>
  rw[NB]at h;cases us with
  |nil=>show xB h;cases h
  |cons u us=>
   show(jx2,ĉ #[e.1,e.2,c] (a b))
def Qaj(m:qw)(s:zn9)(e:thO f o=sO y)(h:zb9):Ro K R' y u:=by
 cases o with
 |lst x=>
  show(jpf,uk t l i h #[t,l,Rws.th_ok m s x t c g i])
 |dic r=>
  show jm5;let#[a,b]:=DicR.vals i;show#[n,l,DicR.zip b qw8]
 |dct r=>
  show jm5;let#[a,b]:=DctR.vals i;show#[n,l,DctR.zip (Paired.mapP b λp q z=>#[Rw.pur_mono m _ _ (Qc7 z.2) z.1,z.2]) qw8]
 |ins C fs=>cases e
def Gv(f:qw)(p:Tu)(h:zb9):Ro K R' o u:=by
 cases o with
 |lst l=>
  show uk j d e h #[j,d,Rws.pur_mono f l j p e]
 | dic c=>
  show jm6
  induction e with
  |nil=>show λ_=>.nil
  |cons h t i=>
   show(jG5,ĉ #[h.1,Rw.pur_mono f _ _ b.1 h.2] (i b.2))
 | dct c=>
  show jm6
  induction e with
  |nil=>show λ_=>.nil
  |cons h t i=>
   show(jG5,ĉ #[Rw.pur_mono f _ _ (Qc7 h.2.1) h.1,h.2.1,Rw.pur_mono f _ _ b.1 h.2.2] (i b.2))
 |ins C fs=>cases p
def QaN{w:W}{ws as:Ã}{ns:Ê}{k:Nat}(e:V1 k zf=vI) :
  (∃n a b,w=Ä n/\V1 (k+1) ws=Ċ a b/\as=Ä k::a/\ns=n::b)\/jMj:=by
 let go:∀{w:W},(if A6 then zB1 else nO)=vI->jMj:=λ{w} e=>by
  by_cases c:A6
  ·rw[Ò c]at e;show(vm a b f d e,ì d #[a,c,f,rfl])
  show oA c e
 cases w with
 |ref n=>
  show vm a b f d (show(V1 (k+1) ws).map (λp=>(W.ref k::p.1,n::p.2))=vI from e);cases d;show Ğ #[n,a,b,rfl,f,rfl,rfl]
 |_=>show ê (go e)
def Qmu(t:∀a o,zXe->R0.F a=sO o)(d:∀(i n:Nat),all[i]?=sO n->i<R0.N/\R0.ρ i=SU):∀{ws:Ã} {vs:Ö} {pre:Ê} {as:Ã} {ns:Ê},V1 pre.length ws=vI->all=pre++ns->ϡ->Rws K R0 as vs:=λ{ws}=>by
 induction ws with
 |nil=>
  show xui;cases jA6;show ztf
 |cons w ws l=>
  show(xui,϶ h v r f m)
  show qP3 j c g s
  ·refine Rws.cons ?_ (l (pre:=pre++[n]) (ns:=c) (by rw[NJ];show g) (yZ b) m);let#[q,p]:=d pre.length n (yZ b);show xP f;show#[q,by rw[p];show f.2]
  ·show TR (Rw.pur_mono t w v s f) (l g b m)
def Z1:∀(ns:Ê) (os:ST) (h:MH),(Qz ns os h).length=h.length
 |[],_,h=>fj
 |_::_,[],h=>fj
 |n::ns,o::os,h=>by unfold Qz;rw[Z1 ns os,Es]
def Xg:∀(ns:Ê) (os:ST) (h:MH) (n:Nat),n∉ns->qVa=h[n]?
 |[],_,h,n,_=>fj
 |_::_,[],h,n,_=>fj
 |m::ns,o::os,h,n,a=>by
  unfold Qz;rw[Xg ns os _ n (λz=>a (C0 z)),EW (λz=>zJ6 a z)]
def Y8:∀(ns:Ê) (os:ST) (h:MH) (i n:Nat),ns.Nodup->ns.length=os.length->ns[i]?=sO n->n<h.length->qVa=os[i]?
 |[],_,h,i,n,_,_,e,_=>ϥ e
 |m::ns,[],h,i,n,_,a,_,_=>ϥ a
 |m::ns,o::os,h,0,n,hd,a,e,b=>by
  show jo e;unfold Qz;rw[Xg ns os _ m (Eo.mp hd).1,Dh b];rfl
 |m::ns,o::os,h,i+1,n,hd,a,e,b=>by
  unfold Qz;rw[Y8 ns os (h.set m o) i n (Eo.mp hd).2 (Ģ a) ox (by rw[Es];show b)];simp
#print"-"
#print"-Mi"
namespace Mi
open L2
def Qhm:∀{ws:Ã} {k:Nat} {as:Ã} {ns:Ê},zgh=vI->as.length=ws.length:=λ{ws}=>by
 induction ws with
 |nil=>intro k as ns e;cases jA6;rfl
 |cons w ws c=>
  intro k as ns e
  show qP3 b d a f
  show qz4
  show qz4
def UY{a:Ê}(e:a.findIdx? (·==j)=sO i):a[i]?=sO j:=by
 rw[Dn]at e;let#[h,b,_]:=e;rw[Nn h];simp at b;rw[b]
def UP{js:Ê}(e:js.findIdx? (·==j)=nO):zi4:=by
 rw[IP]at e;intro z;let:=e j z;show jb
def QcH(e:xnh):Sy/\Tu:=by
 unfold QbW at e;split at e
 ·show Tx c b e
  ·rename_i a;show ì e #[b,a]
  ·cases e
 ·cases e
def UI{a:Ê}(h:a.Nodup){i b j:Nat}(e:a[i]?=sO j)(c:a[b]?=sO j):i=b:=
 (OM (Ü e) h).mp (Hd e c)
section
variable{K:Nj}
open Classical in
def Qnq(q:spM K n (box fr m) vs H Q E):spM K n m vs H Q E:=by
 let#[R,ws,h,wx,h2,hl,L,az,e,k]:=q;unfold box at e;let#[#[as,A],e1,e2]:=ģ e;unfold QfF at e2;split at e2
 case isFalse=>cases e2
 rename_i hd;show(Ĭ h0 e3 e4 e2,ĵ w g e5 e6 e4,uT e6)
 case isFalse=>cases e6
 rename_i hj;let#[a6,a5]:=hj;let#[wy,e7,e8]:=ģ e6;let#[os,e9,ba]:=ģ e8;let#[us,ao,a9]:=Ng.mp ba;cases a9;generalize bb:fr w=js at *
 let Z:∀(i x:Nat),w5->x<R.N/\∃o,h[x]?=sO o/\h0[i]?=sO o/\Tu:=λi x l=>by
  let#[o,D,t]:=(QG e3).2 i x l;let#[z3,z4]:=QcH t;show#[zIg L z3,o,z3,D,z4]
 let ai:∀x,x∈A->∃i:Nat,w5:=λx l=>NH.mp l
 letI R0:Rn:={ ρ:=λi=>qS9,N:=A.length,F:=R.F,G:=λa=>if∃x,x<R.N/\x∉A/\Hy=a then H a else R.G a }
 let X:∀(i x:Nat),w5->i<R0.N/\R0.ρ i=Hy:=λi x l=>by
  refine#[Ü l,?_];apply qS9=_;rw[EB,l];rfl
 let aj:∀i:Nat,i<A.length->∃x,w5:=ŗ i P #[A[i],Nn P]
 let an:∀x,x<R.N->x∉A->R0.G wR=H wR:=λx l hn=>if_pos #[x,l,hn,rfl]
 let am:∀a o,zXf->R0.G a=sO o:=λa o z=>by
  apply jTi=sO o;split
  ·show L.gsub a o z
  ·show z
 let a0:Rh K R0 h0 H:=by
  refine#[(QG e3).1,L.sub,Ô i P,λi j P hj ee=>?_,Õ i o P,dc,Ô i P,dc]
  ·show aY P;rw[aZ];show L.sep x za0
  ·show aY P;let#[y,Y]:=aj j hj;rw[aZ,(X j y Y).2]at ee;let:=L.inj x y za0 (Z j y Y).1 ee;subst this;show UI hd l Y
  ·let a8:i<A.length:=by rw[(QG e3).1];show zU P
   show aY a8;let#[_,o',D,t,z3]:=Z i x l;show â P t;rw[aZ];show Gv (R:=R) (R':=R0) (wZ z) z3 (L.obj x o D)
  ·show jSd
   ·show J
   ·show L.gsub a o J
  ·show aY P;rw[aZ];apply(if∃y,y<R.N/\y∉A/\R.ρ y=Hy then H wR else R.G wR)=nO;rw[if_neg]
   ·show L.gsep x za0
   ·rintro⟨y,Y,a1,ey⟩
    let:=L.inj y x Y za0 ey;subst this;show a1 (j4 i l)
  ·show jSd
   ·rename_i l;let#[x,l,_,rfl]:=l;show L.sep x l
   ·show L.gf a o J
 refine#[R0,as,h0,w,g,(Qhm e1).trans hl,a0,Qmu (R:=R) (R0:=R0) (pre:=[]) (wZ z) X e1 rfl az,e5,CB v x1 s];let af:R1.G=R0.G:=x1.g
 let ae:∀(i x:Nat),w5->i<R1.N/\R1.ρ i=Hy:=λi x l=>by
  let#[D,t]:=X i x l;show#[Nf D x1.n,(x1.ρ i D).trans t]
 let aa:∀(i j:Nat),zV3->aL/\zO/\∃o u,xs8/\g[j]?=sO o/\thO (res qJe g 3) o=sO u:=λi j p=>by
  let#[u,D,t]:=(QG ao).2 i j p;show(Ĭ o z3 z4 t,#[a5 j (j4 i p),zIg s z3,o,u,D,z3,z4])
 let S:∀x,x<R.N->∀j,aL->zO->zx≠Hy:=λx l j hj au ee=>by
  show jdb
  ·show zzj;let:=s.inj j i au D (ee.trans t.symm);let:=Ü P;lia
  ·let z:=s.gsep j au;rw[af,ee,an x l hm]at z;show qP4;rw[hu]at z;cases z
 letI R2:Rn:={ ρ:=λn=>if n<R.N then SU else R1.ρ (js.getD (n-R.N) 0),N:=zQf,F:=λa=>match zi1 with|ã o=>sO o|none=>if zzf then H1 a else nO,G:=R.G }
 let C:∀x,x<R.N->R2.ρ x=Hy:=λx l=>Ò l
 let I:∀(i j:Nat),zV3->R2.ρ (R.N+i)=zx:=λi j p=>by
  apply(if R.N+i<R.N then R.ρ (R.N+i)else R1.ρ (js.getD (R.N+i-R.N) 0))=_;rw[if_neg (N6.mpr Ω),Ll,EB,p];rfl
 let f1:∀a o,zi1=sO o->R2.F a=sO o:=λa o z=>by
  apply zw1=sO o;rw[z]
 let ab:∀a,zi1=nO->(¬zzf)->R2.F a=nO:=λa D t=>by
  apply zw1=nO;rw[D];show Ó t
 let av:∀j,aL->zO->zi4->R2.F xH=H1 xH:=λj a b c=>by
  apply(match R1.F xH with|ã o=>sO o|none=>if∃j',A.length<=j'/\j'<R1.N/\j'∉js/\R1.ρ j'=zx then H1 xH else nO)=_;rw[s.sep j b];show if_pos #[j,a,b,c,rfl]
 let al:je R2:=#[Sw,λx l=>C x l,λa o z=>f1 a o (x1.f a o z),rfl]
 let B:∀x,x<R2.N->x<R.N\/∃i j:Nat,x=R.N+i/\zV3:=λx l=>by
  let ak:x<zQf:=l
  by_cases z:x<R.N
  ·show Ý z
  ·show Ć #[x-R.N,js[x-R.N]' qxi,Í,Nn qxi]
 let hr:∀d j v w,jm7->res qJe g d j=sO w->ŵ R2 w v:=by
  let ah:∀j v x,jm7->JV A js h.length j=sO x->ŵ R2 ϱ v:=λj v x r z=>by
   show xP r;unfold JV at z;split at z
   ·show SZ y Y (z);let#[D,t]:=ae j x Y;let ap:=(Z j x Y).1;show#[Nf ap al.n,by rw[C x ap,<-t];show r.2]
   ·show Az i D t z;let p:=UY D;subst t;rw[<-L.len,I i j p];show#[NW (Ü p) _,r.2]
  intro d
  induction d with
  |zero=>
   show(qP5,Az x D t z);subst t;show ah j v x r D
  | succ d ih=>
   show qP5;split at z
   ·show(SZ x l z,ah j v x r l)
   ·show xN M z
    ·rename_i ax hg;let#[ay,D,t]:=ϗ z;subst t;let#[xs,o1,o2]:=s.obj j _ hg;let aq:zO/\v=Ä xH:=cm
     unfold JV at M;show d7 M
     ·rename_i a4;let ar:zi4:=UP (Ģ M);refine#[zx,xs,aq.2,?_,Rws.th_ok f1 ih ax xs ay D o2];rw[av j (OU.mp a4) aq.1 ar];show o1
    ·cases z
 refine k R2 H1 v al #[?_,dc,Γ l,λx y l Y ee=>?_,Õ x o l,dc,Γ l,dc] (Rw.th_ok f1 jg8 w v _ e7 rv)
 ·apply zQf=_;rw[NJ,Z1,<-(QG ao).1,L.len]
 ·let J:zw1=sO o:=ha;split at J
  ·show(SZ o' a3 J,s.sub a _ a3)
  ·split at J
   ·show J
   ·cases J
 ·show qEj
  ·rw[C x l];refine ab _ ?_ (λ#[j,a,b,_,c]=>S x l j a b c)
   show jdb
   ·show zzj;rw[<-t];show s.sep i D
   ·show qP4;show s.gf _ u (by rw[af,an x l hm];show hu)
  ·let#[D,t,_]:=wU;rw[I i j p];refine ab _ (s.sep j t) (TV z0);show ŏ j' a b c d z0;let:=s.inj j' j b t d;subst this;show c (j4 i p)
 ·rcases B x l with l|⟨i,j,rfl,p⟩<;>rcases B y Y with Y|⟨i',j',rfl,U⟩
  ·rw[C x l,C y Y]at ee;show L.inj x y l Y ee
  ·rw[C x l,I i' j' U]at ee;let#[D,t,_]:=aa i' j' U;show absurd ee.symm (S x l j' D t)
  ·rw[C y Y,I i j p]at ee;let#[D,t,_]:=wU;show absurd ee (S y Y j D t)
  ·rw[I i j p,I i' j' U]at ee;let#[_,t,_]:=wU;let#[_,aw,_]:=aa i' j' U;let:=s.inj j j' t aw ee;subst this;rw[UI a6 p U]
 ·let ak:x<R2.N:=by
   let:=Ü l;rw[NJ,Z1,<-(QG ao).1,<-L.len]at this;show this
  rcases B x ak with hn|⟨i,j,rfl,p⟩
  ·rw[NF (by rw[Z1,<-L.len];show hn)]at l;rw[C x hn]
   show jdb
   ·show zzj;let a7:=Ü P;rw[Y8 A os h i x hd (by rw[<-(QG e9).1,FE]) P (by rw[<-L.len];show hn)]at l;let#[u,y1,y2]:=(QG e9).2 i i (by rw[Di a7]);show(â l y1,Ĭ o' y3 y4 y2);rw[<-t];show Qaj f1 jg8 y4 (s.obj i o' y3)
   ·rw[Xg A os h x hm]at l;let#[_,u,_,hu]:=L.there hn;let a2:H1 wR=sO u:=s.gsub _ u (by rw[af,an x hn hm];show hu);let:=L.obj x o l;rw[hu]at this;rw[a2];show this.mono al
  ·let#[D,t,o',u,y1,y2,y3]:=wU;rw[ES (by rw[Z1,<-L.len];show Sw),Z1,<-L.len,Ll,y1]at l;cases l;rw[I i j p];show Qaj f1 jg8 y3 (s.obj j o' y2)
 ·show s.gsub a o (by rw[af];show am a o ha)
 ·show qEj
  ·rw[C x l];show L.gsep x l
  ·rw[I i j p];let#[_,t,_]:=wU;cases z:R2.G xH with
   |none=>rfl
   |some u=>
    let z3:=s.gsep j t;rw[af,am _ u z]at z3;cases z3
 ·let hg:R1.G a=sO o:=by rw[af];show am a o ha
  refine ab a (s.gf a o hg) (TV z0);let#[j,_,b,_,d]:=z0;let z3:=s.gsep j b;rw[d,hg]at z3;cases z3
def Cal.box(b:W->Ê)(C:qVb g):qVb (Mi.box b g):=
 C.imp λ_ _ _ _ q=>Qnq q
#print"-"
abbrev frN:W->Ê:=λ_=>[]
set_option backward.eqns.nonrecursive false in
abbrev frR:W->Ê
 |Ä j=>[j]
 |_=>[]
set_option backward.eqns.deepRecursiveSplit false in
abbrev Uv:Ê->Ã->MSt->Option MSt
 |[],[],σ=>sO σ
 |i::is,w::ws,σ=>Uv is ws jG1
 |_,_,_=>nO
set_option backward.eqns.nonrecursive false in
abbrev QL(is:Ê):MG:=λw a _=>match w with|Î b=>Uv is b a|_=>nO
abbrev Qae:Ê->TGs
 |[]=>Quz
 |i::is=>Qpk zfh qF0
def Qhb:PGs X [] (Qae []):=Ql9
def Qeb(hN:X.N.Nodup)(hi:ώ)(a:jV)(h:zHg)(b:jM)
  : PGs X (.Name x pos::es) (Qae (i::is)):=Qin (QfO hN hi a b) h
def QaX{K:Nj}:∀{is:Ê} {ws:Ã} {xs:Ö} {a σ1:MSt} {σ:L2.St},Uv is ws a=zi3->ύ->Tz σ->(∀b,Rst K R σ1 b->C b H)->Qae is xs σ H C
 |[],[],xs,a,σ1,σ,e,r,s,k=>by
  cases e;show(xB r,#[r,k σ s])
 |i::is,w::ws,xs,a,σ1,σ,e,r,s,k=>by
  show vi r;let#[v,vs,rfl,d,c]:=r;show#[v,vs,rfl,QaX (is:=is) e c (s.set d) k]
 |[],_::_,_,_,_,_,e,_,_,_=>AS e
 |_::_,[],_,_,_,_,e,_,_,_=>AS e
def UW:∀{is:Ê} {ws:Ã} {σ σ1:MSt},Uv is ws σ=zi3->ws.length=is.length
 |[],[],_,_,_=>rfl
 |i::is,w::ws,σ,σ1,e=>by
  let:=UW (is:=is) (ws:=ws) e;simp[this]
 |[],_::_,_,_,e=>AS e
 |_::_,[],_,_,e=>AS e
def Qgs{is:Ê}(o:ĥ)(h:zHg)(n:jJe)(m:(assignEach es X.env).findIdx? (·.1)=nO):PMG X (zad k) (QL is):=
 QiQ (QpV o h n m) λv p H C g=>by
  let#[R,d,h,w,f,b,st,rw,e,q]:=g;unfold QL at e;split at e
  ·rename_i r;let#[ad,i,rfl,l,c]:=b.tupAt rw;show#[ad,i,rfl,l,by show(u6 c,UW e),QaX e c st λa j=>q R H a Ε b j]
  ·cases e
abbrev Qq6(g:MG)(m:ME):SM:=λb h=>(m b h).bind λp=>(g p.1 b p.2).map λa=>zj6 a
def QjT(t:yL)(q:PMG X b g)(p:qn6=CW)(hw:jM3)(h1:(assignEach [b] X.env).map (·.2)=qUd) :
  Am jM4 (Qq6 g m):=JH (Qi5 t q p hw h1) <|by
 rintro D C H ⟨R,a,h,r,o,s,e,k⟩
 show(ĵ w h1 z y e,ū c x u y);show#[R,a,h,w,h1,o,s,z,λR1 H1 v j f rv=>#[R1,a,h1,w,c,f,HB j,rv,x,λA B d l i n=>k A B d (Ē j l) i n]]
abbrev QqE(ws:Ã)(h:MH):Ú:=match ws with
 |q8=>jJf
 |_=>nO
abbrev Qpc(ws:Ã)(h:MH):Ú:=match ws with
 |q8=>jJg
 |_=>nO
section
variable{X:Cx}
def Qd6(j:ĥ):ŀ zL7 (Fs X.K QqE):=by
 intro a s b H c d Q I r q;refine Qes j a s b H c d Q I r ?_;let#[R,h,l,w,m,f,rw,e,k]:=q;unfold QqE at e;show jP9
 ·cases e
def QcT(j:ĥ):ŀ qOe (Fs X.K Qpc):=by
 intro a s b H c d Q I r q;refine Qc8 j a s b H c d Q I r ?_;let#[R,h,l,w,m,f,rw,e,k]:=q;unfold Qpc at e;show jP9
 ·cases e
abbrev rep(x:Str)(n:Int):Str:=#[((List.replicate n.toNat x.cps.toList).flatten).toArray]
def Qem:∀(l:List (Array Nat)) (a:jah),l.foldl (·++·) a=(a.toList++(l.map Array.toList).flatten).toArray:=by
 intro l
 induction l with
 |nil=>
  intro a;simp
 |cons b l c=>
  intro a;rw[LY,c];simp
def QjF(x:Str)(n:Int):(#[(List.replicate n.toNat x.cps).foldl (·++·) #[]]:Str)=zlf:=by
 unfold rep;rw[Qem];simp
def Qih(x:Str)(h:n<1):Str.empty=zlf:=by
 unfold rep;rw[show n.toNat=0 by lia];rfl
def QmW(x:Str):x=rep x 1:=by
 unfold rep;simp
def QlH(n:Int)(h:(x.length==0)=true):x=zlf:=by
 unfold rep
 let:x.cps=#[]:=by
  let:x.cps.size=0:=by simpa[Str.length]using h
  show Array.eq_empty_of_size_eq_zero this
 let#[c]:=x;show jb;subst this;simp
abbrev XN(a b:W)(h:MH):Ú:=match a,b with
 |Ù x,Á n=>if n<1000/\-1000<n/\xhc then sO (Ù (rep x n),h)else nO
 |a,b=>Qn2 a b h
def Qmr:æ bv (λx y H Q=>∃z n,x=Ù z/\y=Á n/\(n<1000/\-1000<n/\z.length<1000)/\Q (Ad (rep z n)) H):=by
  intro b s e H x y v u Q I i h g;obtain⟨z,n,p,o,⟨C,B,A⟩,q⟩:=g;subst p o;show jL t i w h
  have j:qVc<1000000:=by
    calc qVc<=999*999:=Lh É É
      _<1000000:=ÿ
  refine PySem.P.mul_str (by rw[gG,gG];rfl) xhd xhd ?_
  · have:(2^63-1)/n >= 1000:=by
      rw[ge_iff_le,Int.le_ediv_iff_mul_le É];lia
    lia
  · unfold Builtin.Str.tooLong
    exact decide_eq_false (by apply¬_;have:zL6:=ÿ
                              lia)
  · have done:∀(y:Str) (tk:Tok) (d:Shared),y=rep z n->ŕ b e H d->EP X b e Q (.str y tk) d:=λy tk d m r=>⟨Ù y,H,r,þ,BD m q⟩
    show zr6 f ⟨ÿ,xhe (Qih z f)⟩
    · split
      · rename_i f c;rw[F3]at c;refine done _ _ _ ?_ I
        show j6 c
        · have:n=1:=é c
          subst this;exact QmW z
        · exact QlH n c
      · refine⟨?_,xhe (QjF z n)⟩;rw[QjF]
        have l:(rep z n).length=n.toNat*z.length:=by
          show xhf
        rw[l,Nat.mul_comm];have:zL6:=ÿ
        exact Nq (Nf (kG j) rE)
def QhY:æ bv (F2 X.K XN):=by
 intro c s d H x y v u Q I g f q;let#[R,h,a,b,w,n,i,l,j,e,k]:=q;unfold XN at e;split at e
 ·split at e
  ·show(ſ m e,Qmr c s d H x y v u Q I g f #[_,_,l.str_eq,j.int_eq,m,Ļ i zag])
  ·cases e
 ·show QmO c s d H x y v u Q I g f #[R,h,a,b,w,n,i,l,j,e,k]
#print"-"
section
variable{X:Cx}{elt tg iter c:Expr}{scope:Scope}{pos pos' spos:Pos}{cl:CA}{Nb:Â}{cp:χ}{mi:MI}{b:MG}{mt:MT}{me m:ME}{fin:ŷ}{i:Nat}{x:Str}{e:Expr}
def Gq{K:Nj}(q:xL jad):tI K m σ H λv H1=>Qc9 i v σ H1 D.nx:=by
 let#[R,a,h,r,g,s,e,k]:=q;show(vm w j n l e,ì l #[R,a,h,w,j,g,s,n,jZ1])
def Qf4(hN:X.N.Nodup)(hi:ώ)(a:jV)(g:yL)(d:swapsWith e xKi pos.line X.env=CW)(f:jM) :
  Am (tq zP7) jad:=JH (QjA hN hi a g d f) λ_ _ _ q=>Gq q
def Qfk(hN:X.N.Nodup)(n:ώ)(v:jV)(o:jM)(z:xp)(D:ĥ)(B:Cr)(hi:fi)(y:∀a d C j f,zL (P6 j f))
  (A:∀a d C j f,gQ j f) (w:Bb) (l:qD5 zs7=xD) :
  Am (.Assign zP7 zs7 spos) (QA i qB8):=
 JH (Qd9 (g:=zd8) (te:=zd9) (tt:=tIT X.K Vw) hN n v o l D B hi y (λa d C j f p s E H Q I q=>wpAny_tests_nil (by
  let#[R,r,h,t,L,u,st,e,k]:=q;show ì e #[H,I,k R H Ε u])) A w) (xch z)
def Qda(hN:X.N.Nodup)(n:ώ)(r:jV)(o:jM)(w:xp)(z:ĥ)(B:Cr)(hi:fi)(v:∀a d C h f,zL jlj)
  (t:∀a d C h f,PMT jlj c mt)
  (y:∀a d C h f,gQ h f) (u:Bb) (l:qD5 zs8=xD) :
  Am (.Assign zP7 zs8 spos) (QA i zFc):=
 JH (Qd9 (g:=zd8) (te:=zd9) (tt:=tIT X.K mt) hN n r o l z B hi v (λa d C h f j s p H Q I q=>wpAny_tests_one (t a d C h f j s p H Q I q)) y u) (xch w)
#print"-"
set_option checkBinderAnnotations false in
abbrev ob[f:b->Ū a](x:Ū b):Ū a:=x.bind f
set_option checkBinderAnnotations false in
abbrev om[f:b->a](x:Ū b):Ū a:=x.map f
@[simp]def Qj5:ķ f jfa=f a:=rfl
@[simp]def Qr4:ů f jfa=sO (f a):=rfl
abbrev QsO(b:SM):MF->SC
 |gb h=>ė b
 |r=>sO r
section
variable{σ σ':MSt}{h h':MH}{a b:SM}{m ma mb mc:ME}{t u:MT}{ms:MA}{w x y:W}{ws:Ã}
@[simp]def Qtv:QsO b (ô σ h)=ė b:=rfl
@[simp]def Qs0:QsO b zc9=sO zc9:=rfl
@[simp]def QvL:zV4=ķ (QsO b) (a σ h):=by
 refine congrArg (λc=>ķ c (a σ h)) (funext (è r));show Hu r
@[simp]def Quv:QP σ h=cV:=rfl
@[simp]def Qvz:Q6 m σ h=ů (λp=>xu5) Aa:=rfl
abbrev onB(a b:SM)(σ:MSt)(p:zf6):SC:=if zf7 then a σ p.2 else b σ p.2
@[simp]def Qto(c:Bool):onB a b σ (c,h)=if BX then ė a else ė b:=rfl
@[simp]def Qv2:zQg=ķ (onB a b σ) iO:=by
 show oM
@[simp]def Qu5:QQ m σ h=ů (λp=>zj6 σ) Aa:=rfl
@[simp 500]def QwA:xuj=ů (λp=>Rf σ p) Aa:=rfl
@[simp]def Qwv:QmB i f m σ h=ķ (λx=>@ob _ _ (λp=>ů (λq=>Rf σ q) (f x.1 p.1 p.2)) Aa) (Qb i σ h):=by
 unfold QmB Qb
 rcases σ[i]? with _|_|x<;>rfl
@[simp 1100]def Qwm{v0 v1 x:Þ}{r:MSt}:List.set (v0::v1::r) 1 x=v0::x::r:=rfl
@[simp 1100]def QvG{v0 v1 c x:Þ}{r:MSt}:List.set (v0::v1::c::r) 2 x=v0::v1::x::r:=rfl
@[simp 1100]def QvK{v0 v1 c d x:Þ}{r:MSt}:List.set (v0::v1::c::d::r) 3 x=v0::v1::zy:=rfl
@[simp 1100]def QwI{v0 v1 d c v4 x:Þ}{r:MSt}:List.set (v0::v1::d::c::v4::r) 4 x=v0::v1::d::zy:=rfl
@[simp 1100]def QvZ{v0 v1 d c v4 e x:Þ}{r:MSt}:List.set (v0::v1::d::c::v4::e::r) 5 x=v0::v1::d::c::v4::x::r:=rfl
@[simp 1100]def QvU{v0 v1 e d v4 c v6 x:Þ}{r:MSt}:List.set (v0::v1::e::d::v4::c::v6::r) 6 x=v0::v1::e::d::v4::zy:=rfl
@[simp 1100]def QvE{v0 v1 e d v4 c v6 f x:Þ}{r:MSt}:List.set (v0::v1::e::d::v4::c::v6::f::r) 7 x=v0::v1::e::d::v4::c::v6::x::r:=rfl
@[simp 1100]def Qvw{v0 v1 f e v4 d v6 c g x:Þ}{r:MSt}:List.set (v0::v1::f::e::v4::d::v6::c::g::r) 8 x=v0::v1::f::e::v4::d::v6::zy:=rfl
@[simp 1100]def QvP{v0 v1 g f v4 e v6 d c i x:Þ}{r:MSt}:List.set (v0::v1::g::f::v4::e::v6::d::c::i::r) 9 x=v0::v1::g::f::v4::e::v6::d::zy:=rfl
@[simp]def Qvp:Qq6 g m σ h=ķ (λp=>ů (λσ1=>zj6 σ1) (g p.1 σ p.2)) Aa:=rfl
@[simp]def QoS:Qb 0 (sO o::r) h=Ck:=rfl
@[simp]def Qt1:Qb 1 (v0::SX) h=Ck:=rfl
@[simp]def Qu9:Qb 2 (v0::v1::SX) h=Ck:=rfl
@[simp]def Qve:Qb 3 (v0::v1::c::SX) h=Ck:=rfl
@[simp]def Qun:Qb 4 (v0::v1::d::c::SX) h=Ck:=rfl
@[simp]def Qt2:Qb 5 (v0::v1::d::c::v4::SX) h=Ck:=rfl
@[simp]def QtX:Qb 6 (v0::v1::e::d::v4::c::SX) h=Ck:=rfl
@[simp]def QuH:Qb 7 (v0::v1::e::d::v4::c::v6::SX) h=Ck:=rfl
@[simp]def Qul:Qb 8 (v0::v1::f::e::v4::d::v6::c::SX) h=Ck:=rfl
@[simp]def QuE:Qb 9 (v0::v1::g::f::v4::e::v6::d::c::SX) h=Ck:=rfl
@[simp 400]def Qua:Qb (i+1) (o::r) h=Qb i r h:=by
 unfold Qb;rw[Lm]
@[simp]def s_c:mC w σ h=uj:=rfl
@[simp 500]def QvC:Qe f ma mb σ h=ķ (λp=>qsa (mb σ p.2)) zY0:=rfl
@[simp]def Qxd:mUn f ma σ h=ķ qP6 zY0:=rfl
@[simp]def Qwk:mFn f ms σ h=ķ qP6 zY1:=rfl
@[simp]def Qvl:Qf n g ms σ h=ķ (λp=>if p.1.length=n then g p.1 p.2 else nO) zY1:=rfl
@[simp]def Qsq:qEi:=rfl
@[simp 600]def Qu4:Qe f ma zG σ h=ķ (λp=>f p.1 w p.2) zY0:=rfl
@[simp 600]def Qsy:Qa zG ms σ h=ķ (λq=>sO (w::q.1,q.2)) zY1:=rfl
@[simp 610]def QsW:xni=ķ (λp=>sO ([p.1],p.2)) Aa:=rfl
@[simp 620]def QqT:Qa zG Qc σ h=sO ([w],h):=rfl
@[simp 600]def Qt8:QA i zG σ h=sO (ô jG1 h):=rfl
@[simp 500]def QqO:Qa m ms σ h=ķ (λp=>@ob _ _ (λq=>qS2) xnj) Aa:=rfl
abbrev asB(p:W×MH):ir:=match p.1 with|.bl b=>sO zge|_=>nO
@[simp]def Qt6(c:Bool):asB (.bl c,h)=Ċ c h:=rfl
@[simp 500]def QtZ:Qk m σ h=@ob _ _ asB Aa:=rfl
@[simp]def QuW:Qb1 t σ h=ů (λp=>(!p.1,p.2)) iO:=by
 unfold Qb1
 first|rfl|(cases ė t<;>rfl)
abbrev Qp7(u:MT)(σ:MSt)(p:zf6):ir:=if zf7 then u σ p.2 else xc6
abbrev Quk(u:MT)(σ:MSt)(p:zf6):ir:=if zf7 then xmh else u σ p.2
@[simp]def QnA(c:Bool):Qp7 u σ (c,h)=if BX then ė u else zS8:=rfl
@[simp]def Qq4(c:Bool):Quk u σ (c,h)=if BX then zaf else ė u:=rfl
@[simp 500]def QaL:Jc t u σ h=ķ (Qp7 u σ) iO:=by
 show oM
@[simp 500]def Qwd:QeG t u σ h=ķ (Quk u σ) iO:=by
 show oM
abbrev Que(ma mb:ME)(σ:MSt)(p:zf6):Ú:=if zf7 then ma σ p.2 else mb σ p.2
@[simp]def Qq1(c:Bool):Que ma mb σ (c,h)=if BX then ma σ h else mb σ h:=rfl
@[simp]def Qw2:mIf t ma mb σ h=ķ (Que ma mb σ) iO:=by
 show oM
@[simp]def QwZ:Kx m σ h=ķ (λp=>ů (λb=>zge) (GV p.2 p.1)) Aa:=by
 rfl
@[simp]def Qw4:mMt T f m ms σ h=ķ (λp=>if qP0 then qsa xnj  else nO) Aa:=rfl
#print"-"
section
variable{h:MH}{i j:Int}{x y:Str}{ws us:Ã}{w:W}
@[simp]def Qwe:ZX Ō ϲ h=gM:=rfl
@[simp]def Qvv:Qck Ō ϲ h=jG4:=rfl
@[simp]def Qxb:wLt Ō ϲ h=l4 i j:=rfl
@[simp]def Qw8:wGt Ō ϲ h=l4 j i:=rfl
@[simp]def Qw9:wGe Ō ϲ h=sO (zqc,h):=rfl
@[simp]def QwK:Yy Ō h=jI0:=rfl
@[simp]def Qvf:Qfe Ō ϲ h=gM:=rfl
@[simp]def QvQ(c:0<j):jZb:=Qj9 c
@[simp]def QwU(c:0<j)(a:zG5):jZa:=Qla zrj
@[simp]def QtW(c:zH3<j)(a:j<18446744073709551616):jZg:=Qd8 (Ė zrj)
@[simp]def QuT(c:zH3<i)(a:i<18446744073709551616):jZg:=Qd8 (Ş zrj)
@[simp]def Qwb(c:0<=j)(b:zX4)(a:i.natAbs<18446744073709551616):jWe:=Qmn (Ŷ c b a)
def Qdq(c:j<1000/\-1000<j/\xhc):XN Μ ϲ h=sO (Ù (rep x j),h):=Ò c
@[simp]def QsU:QqE q8 h=jJf:=rfl
@[simp]def QsD:Qpc q8 h=jJg:=rfl
@[simp]def QwW:Q3 ws h=jt7:=rfl
@[simp]def QwG:J9 ws h=jt8:=rfl
@[simp]def QvR:Xk ws h=jt9:=rfl
@[simp]def QwD:CJ y0=lQ:=rfl
@[simp]def QvF:CJ Cz=lQ:=rfl
@[simp]def Qvs:CJ zXg=lQ:=rfl
@[simp]def Qwq:CJ Φ=ķ (λ(ws:Ã)=>lQ) zy8:=rfl
@[simp]def QuY:JO [ŉ] h=sO im:=rfl
@[simp]def Quq:JO [Ŀ] h=sO im:=rfl
@[simp]def QnR:JO [AT] h=sO im:=rfl
@[simp]def QuC:JO [Ä n] h=ů (λ(ws:Ã)=>im) zy8:=rfl
def QT{xs:Ø a}{n:Nat}:atI xs ũ=xs[n]?:=by
 cases e:xs[n]? with
 |some x=>show Qmc e
 |none=>
  unfold atI ixN;let:xs.length<=n:=OU.mp e;show Ŕ É;rw[if_neg É];rfl
@[simp]def Qvn:atI xs 0=xs[0]?:=QT (n:=0)
@[simp]def Qxc:atI xs 1=xs[1]?:=QT (n:=1)
@[simp]def Qu0{a:Type}{xs:Ø a}{y:a}:atI (xs++[y]) (-1)=sO y:=Qao xs y
@[simp]def QwR:ixN (n+1) 0=sO 0:=zwh
@[simp]def QvT:ixN (n+2) 1=sO 1:=zwh
@[simp]def Qv6:ixN (n+3) 2=sO 2:=zwh
def QjQ(hk:k<n):ixN n Ň=sO k:=by show qec
@[simp]def Qvb:ixN (n+1) (-1)=sO n:=by unfold ixN;rw[if_neg Ð,if_pos É];congr 1;lia
abbrev putAt(o i v:W)(σ:MSt)(h:MH):SC:=match o,i with
 |Ä n,Á k=>match h[n]? with
  |qc a=>ů (λj=>gb (Hg (zt5 a))) (ixN a.length k)
  |_=>nO
 |_,_=>nO
@[simp]def Qvo:Qdr mo mi mv σ h=ķ (λv=>@ob _ _ (λo=>@ob _ _ (λi=>putAt o.1 i.1 v.1 σ i.2) xhg) xhh) xv0:=rfl
@[simp]def Qtb:putAt Φ Ō v σ h=match h[n]? with
  |cW=>ů (λj=>gb (Hg (Ï (xs.set j v)))) (ixN xs.length i)
  |_=>nO:=rfl
@[simp]def Qt9{w:W}:QjJ (sO zc9)=uj:=rfl
@[simp]def Quj:QjJ (sO (ô σ h))=M5 h:=rfl
@[simp]def QqX{n:Nat}{w:W}:xv1 [w]=match h[n]? with|cW=>if xs.length<sizeLine then sO (.non,Ű (Ï (xs++[w])))else nO|_=>nO:=rfl
@[simp]def QqV{n:Nat}{w:W}:Xo Φ [w] h=match h[n]? with|cW=>ķ (λa=>jTa) (loW h w)|_=>nO:=rfl
@[simp]def Qwg:loW h Cz=sO ws:=rfl
@[simp]def Qwf:QeB Φ [] h=match h[n]? with|cW=>ů (λw=>(w,Ű (.lst xs.dropLast))) (xs[xs.length-1]?)|_=>nO:=rfl
@[simp]def QwE:tyW h T Φ=match h[n]? with|oa=>zda|xh4=>zdb|xh5=>zdb|_=>false:=rfl
@[simp]def QvY:tyW h T Cz=(T=="list"):=rfl
@[simp]def QtY:GV h Φ=match h[n]? with|qd=>iz|zka=>zZ3 a|_=>nO:=rfl
@[simp]def QuR:GV h yf=sO b:=rfl
@[simp]def Qu2:GV h y0=iz:=rfl
@[simp]def Qri:XF [Ŀ] h=sO ph:=rfl
@[simp]def Qrb:XF [Ä n] h=ů (λ(ws:Ã)=>ph) zy8:=rfl
@[simp]def Qw7:mSl c a b σ h=ķ (λp=>@ob _ _ (λq=>@ob _ _ (λr=>qM0) (b σ q.2)) (a σ p.2)) (c σ h):=rfl
@[simp]def Qw5:Gi σ h=sO (nO,h):=rfl
abbrev asI(p:W×MH):Option (Į×MH):=match p.1 with|Á i=>xh2|_=>nO
@[simp]def QrC:asI (Á i,h)=sO (sO i,h):=rfl
@[simp]def Qw6:Yu m σ h=@ob _ _ asI Aa:=rfl
@[simp]def Qwr{lo hi:Į}:wSl y0 lo hi h=sO (Î zNj,h):=rfl
@[simp]def QvO{lo hi:Į}:wSl Cz lo hi h=sO (À zNj,h):=rfl
@[simp]def Qui:ZX y0 xv2 h=if ws.length+us.length<=sizeLine then sO (Î jab,h)else nO:=rfl
@[simp]def Qva:ZX Μ P8 h=if qw4 then sO jMe else nO:=rfl
@[simp]def QwP:wIs a .non h=jE5:=rfl
@[simp]def QsG:Jw a .non h=jD1:=rfl
@[simp]def Qrf:XS .non=true:=rfl
@[simp]def Qra:XS Ō=false:=rfl
#print"-"
set_option backward.eqns.deepRecursiveSplit false in
mutual
abbrev pln:yj
 |ŉ=>KD ws
 |Ŀ=>KD ws
 |zN=>false
 |Hx=>false
 |.ty _=>false
 |_=>true
abbrev KD:zth
 |[]=>true
 |w::ws=>pln w&&KD ws
end
set_option backward.eqns.deepRecursiveSplit false in
mutual
abbrev dep:W->Nat
 |ŉ=>zi5+1
 |Ŀ=>zi5+1
 |_=>1
abbrev QcE:Ã->Nat
 |[]=>0
 |w::ws=>max (dep w) (QcE ws)
end
mutual
def X5(h:MH):∀(w:W) (n:Nat),zbc->dep w<=n->μ w=sO w
 |.non,n+1,_,_=>rfl
 |.bl _,n+1,_,_=>rfl
 |yp,n+1,_,_=>rfl
 |BY,n+1,_,_=>rfl
 |ŉ,n+1,p,d=>by
  show(wg,zbd);apply(Zu sw ws).map W.tup=_;rw[Vk h ws n p É];rfl
 |Ŀ,n+1,p,d=>by
  show(wg,zbd);apply(Zu sw ws).map W.lst=_;rw[Vk h ws n p ċ];rfl
 |zN,_,p,_=>yV
 |Hx,_,p,_=>yV
 |.ty _,_,p,_=>yV
 |.non,0,_,d=>jI4
 |.bl _,0,_,d=>n5
 |yp,0,_,d=>n5
 |BY,0,_,d=>n5
 |.tup _,0,_,d=>jI4
 |jd7,0,_,d=>n5
def Vk(h:MH):∀(ws:Ã) (n:Nat),zbe->zi5<=n->qfc=sO ws
 |[],_,_,_=>rfl
 |w::ws,n,p,d=>by
  unfold KD at p;unfold QcE at d;rw[Eh]at p;rw[Zu,X5 h w n p.1 (Nh (Nat.le_max_left _ _) d),Nk,Vk h ws n p.2 (Nh (Nat.le_max_right _ _) d)];rfl
end
def Qr3{ws us:Ã}:eqW y0 xv2=KG ws us:=rfl
def Qro{i j:Int}:eqW Ō ϲ=zhc:=rfl
def Qtr{x y:Str}:eqW Μ P8=(x==y):=rfl
def Qwp{a b:Bool}:eqW (.bl a) yf=zn:=rfl
def QsZ:eqW .non .non=true:=rfl
def Qp8{a b:W}{ws us:Ã}:KG (a::ws) (b::us)=(eqW a b&&KG ws us):=rfl
def Qti:KG [] []=true:=rfl
mutual
def QgP:∀(w:W),zbc->eqW w w=true
 |.non,_=>rfl
 |.bl b,_=>vf b
 |Á i,_=>vf i
 |Ù x,_=>vf x
 |ŉ,p=>jx3
 |Ŀ,p=>jx3
 |zN,p=>yV
 |Hx,p=>yV
 |.ty _,p=>yV
def Yg:∀(ws:Ã),zbe->KG ws ws=true
 |[],_=>bC
 |w::ws,p=>by
  show xo0;unfold KG;rw[QgP w p.1,Yg ws p.2];rfl
end
def QtU(d:pln a=true)(c:pln b=true)(f:dep a<=40)(e:dep b<=40):wEq a b h=sO (ă fB,h):=by
 unfold wEq;rw[xhi,X5 h b 40 c e];rfl
@[simp]def Qsz:wEq Ō ϲ h=sO (ă zhc,h):=Qlp i j h
@[simp]def Qtz:wEq Μ P8 h=jE6:=Qfd x y h
@[simp]def QwM:wNe Ō ϲ h=sO (ă (! zhc),h):=QmZ i j h
mutual
def Yi:∀(w:W),zbc->A6
 |.non,_=>rfl
 |.bl _,_=>rfl
 |yp,_=>rfl
 |BY,_=>rfl
 |ŉ,p=>qif
 |Ŀ,p=>qif
 |zN,p=>yV
 |Hx,p=>yV
 |.ty _,p=>yV
def ZC:∀(ws:Ã),zbe->Sz
 |[],_=>rfl
 |w::ws,p=>by
  show xo0;unfold Ze;rw[Yi w p.1,ZC ws p.2];rfl
end
mutual
def Qc1(f:qe):∀(w:W),A6->th f w=sO w
 |.non,_=>rfl
 |.bl _,_=>rfl
 |yp,_=>rfl
 |BY,_=>rfl
 |.ty _,_=>rfl
 |ŉ,p=>zz5
 |Ŀ,p=>zz5
 |AT,p=>zz5
 |Hx,p=>qxg
def Zi(f:qe):∀(ws:Ã),Sz->ths f ws=sO ws
 |[],_=>rfl
 |w::ws,p=>by
  show ig p;unfold ths;rw[Qc1 f w p.1,Zi f ws p.2];rfl
end
def Qv(b:Sz)(e:m ws []=Ċ w g)(hw:A6):xci=uj:=by
 let d:V1 0 ws=zbf:=by
  generalize 0=k;clear e
  induction ws with
  |nil=>rfl
  |cons a r c=>
   show ig b;let:=c b.2;show zwa
 unfold box;rw[d,Nk];show fb;simp only[Zu,Nk,e,frN,IM,List.range_zero];show qkc;simp[Qz]
def VB(b:Sz)(s:Sy)(q:Tu)(e:jI5=sO (w,j::g))(hw:A6)(i:∃us,j=zZ5/\ej):qo7=sO (w,Ű j):=by
 let#[us,rfl,c]:=i
 let p:∀k,zgh=zbf:=by
  clear e
  induction ws with
  |nil=>intro k;rfl
  |cons a r l=>
   intro k;show ig b;let:=l b.2 k;show zwa
 unfold box
 let d:qb1:=by
  unfold V1;rw[p];rfl
 show(jE9 d f s q,qkc);simp[Qz,IR,Zu,thO,Zi _ us c]
def VG{os os':ST}(q:V1 0 args=vI)(hd:ns.Nodup)(s:Zu jda ns=sO os)(e:m as os=sO (w,os'++g))(t:os'.length=ns.length)
  (c:∀o∈os',jG6) (hw:th jP0 w=sO w'):zN0=sO (w',Qz ns os' h):=by
 unfold box;rw[q,Nk];unfold QfF;rw[if_pos hd,s];simp only[Nk,e];show Ŕ (show(frN w).Nodup/\∀j∈frN w,xm9 from#[EN,λj u=>by simp[frN]at u]);apply(th jP0 w).bind _=_;rw[hw,Nk];apply(Zu oP zFe).bind (λos=>(Zu oP []).map λus=>(w',Qz ns os h++us))=_
 let:Zu oP zFe=sO os':=by
  rw[<-t]
  let key:∀(k:Nat) (a:ST),(∀i o,a[i]?=sO o->(os'++g)[k+i]?=sO o)->(∀o∈a,jG6)->Zu oP (List.range' k a.length)=sO a:=by
   intro k a
   induction a generalizing k with
   |nil=>intro _ _;rfl
   |cons x a n=>
    intro f d;let#[us,hu,r]:=d x NA;rw[NS,YbT];unfold Zu;let l:=f 0 x rfl;rw[O5]at l;rw[l,Nk,n (k+1) (λi o b=>by let:=f (i+1) o p9;rw[show k+1+i=k+(i+1) by show zf5];show this) (Η o p d),hu];apply((ths _ us).map MO.lst).bind _=_;rw[Zi _ us r];rfl
  rw[List.range_eq_range'];show key 0 os' (λi o b=>by rw[NQ,NF (Ü b)];show b) c
 rw[this];simp[Zu]
@[simp]def QmH{os:ST}:Qz [] os h=h:=fj
@[simp]def Qjr{os:ST}:Qz (n::ns) (o::os) h=qt2:=by rw[Qz]
def KM(e:h[n]?=zS9)(a:ej):QbW h n=zS9:=by unfold QbW;rw[e];simp[K3,a]
def Jy(f:W->W)(hi:zCd)(a:qF1)(c:∀w∈items,jY9)(b:nC) :
  xv3 η=qs8:=by
 show qm1;rw[YV (p:=xA) (f:=f) items [] o iN (λw hw _=>c w hw) p9,D8.mpr iN];rfl
def U3{mt:MT}{me:ME}{h:MH}(f:W->W)(p:yj)(hi:zCd)(a:qF1)(b:∀w∈items,qha)(d:∀w∈items,jJc)(c:nC) :
  zLb η=qH6 p:=by
 show qm1;rw[YV (p:=p) (f:=f) items [] o b d p8];simp
def Zd(P:io):∀(r:Ã) (n:Nat) (σ:MSt) (h:MH),AV n ->
  jj2 ->
  ∃a h',zq2/\zD1:=by
 intro r
 induction r with
 |nil=>show λn σ h c _=>zOe
 | cons w r i=>
  show jG7 o d
  let#[a,h',m,f]:=i (n+1) σ2 h2 g λj x l σ h c=>by
   show(jRg,sn)
  show ju3 f;rw[Zp,Bu,o,Nk]
  rcases d with d|d<;>rw[d]<;>show m
def Qdi(P:io):∀(n f:Nat) (σ:MSt) (h:MH),n<f->AV n ->
  (∀n σ h,AV n->(ė t=zS8/\n=0)\/(ė t=zaf/\∃m σ2 h2,m<n/\(jaf=yE\/jaf=zGf)/\P m σ2 h2)) ->
  ∃a h',zr f σ h=jT a h'/\P 0 a h':=by
 intro n f
 induction f generalizing n with
 |zero=>show λ_ _ o _ _=>Í
 | succ f j=>
  intro σ h o d c
  rcases c n σ h d with⟨e,l⟩|⟨e,m,σ2,h2,q,b,i⟩
  ·show Ao l #[σ,h,qZd,d]
  ·let#[a,h',p,g]:=j m σ2 h2 É i c;refine#[a,h',?_,g];rw[Qs,e]
   rcases b with b|b<;>simp only[Nk,b]<;>show p
abbrev eqS(y:Str)(p:W×MH):ir:=@ob _ _ asB (wEq p.1 P8 p.2)
abbrev eqN(j:Int)(p:W×MH):ir:=@ob _ _ asB (wEq p.1 ϲ p.2)
@[simp 650]def Qu7:Qk (Ă a (mC P8)) σ h=ķ (eqS y) (a σ h):=by
 unfold Qk Qe mC eqS ob;cases ė a<;>rfl
@[simp 650]def Qt4:Qk (Ă a (mC ϲ)) σ h=ķ (eqN j) (a σ h):=by
 unfold Qk Qe mC eqN ob;cases ė a<;>rfl
@[simp]def QsM:eqS y ztj=sO (x==y,h):=by unfold eqS;rw[Qtz];rfl
@[simp]def QrO:eqN j (Á i,h)=sO (i==j,h):=by unfold eqN;rw[Qsz];rfl
#print"-Mi"
namespace Mi
open L2
abbrev QfK(ws:Ã)(h:MH):Ú:=match ws with
 |[ŉ]=>sO ztg
 |[a]=>fO ztg
 |_=>nO
abbrev QwB(a:W)(ws:Ã)(h:MH):Ú:=match a,ws with
 |Ä n,[wH]=>match h[n]? with|some (Ï (x::b))=>sO (x,Ű oz)|_=>nO
 |_,_=>nO
section
variable{X:Cx}
def GK:ŀ i7 (Fs X.K QfK):=by
 intro d s u H a x Q I r q;refine Ks d s u H a x Q I r ?_;let#[R,h,C,w,D,f,rw,e,k]:=q;unfold QfK at e;split at e
 ·show sE l a m j f;refine#[ad,a,rfl,ê m,Ô p n];show ji8
 ·show(ū B z y e,iA l,AB a m j f l z);refine#[ad,a,rfl,Ý m,Ô p n];show ji8
 ·cases e
#print"-"
section
open PySem.AutoSeq1
def Qcr(l:Addr)(its:Ķ)(n:Nat)(b:Addr)(a:Ķ)(q:Nat)(c:Obj)(t:c.cls=AA)(hd:c.data=.seq a q)(r:¬(!its.isEmpty&&Builtin.List.listTooLong (its.size+a.size))=true)(i:kU)(f:its.size+a.size<=sizeLine+1) :
  Meets (Builtin.«list.extend» jA7) (λ_ R s=>Ń l=sO { cls:=Ę,dict:=nO,data:=qP1,slots:=#[] }/\Ń b=sO c /\
   R (.ok (.ret Value.none)) { s with heap:=dS l (Obj.mapSeq λx=>x++a),toks:=s.toks }):=
 .of_wp λj w A R s h=>by
  show ϖ F E v p c;subst t hd;show fu z;let#[m,u,h]:=h;let f1:=idx_int;let f2:=O6;let D:=AutoSeq1.sub_list_list;let C:=AutoSeq1.sub_tuple_list;let B:=AutoSeq1.sub_list_tuple;let e:(its++a).size<=sizeLine+1:=by rw[YbF];show f
  wp_walk using(LZ m rfl (hz:=i) (_hz':=e)),Dx m,Dx u
  show qs1
#print"-"
section
variable{X:Cx}
def Qcj:MtM X "list.extend" (λx vs H Q=>∃l b xs g,pp/\vs=[Ä b]/\zU3/\TF b g/\xs.length+g.length<=sizeLine/\Q .non (Ą l (Ï (xs++g)))):=by
 intro j s J H x vs v L Q I t rv h;let#[l,b,xs,g,rfl,rfl,p,hB,B,q]:=h;show zM2 t w;cases w;show cz c D p;let#[a,i,#[y,F,E,A,hd],C]:=I.tuple hB;show(Ž o i,qf1)
 let d:jQ4:=by
  rw[Qba f,Fb];show N9
 refine Lg Io p7 Ybg xti
  (Qcr l c.toArray n b a.toArray A y E hd d (zTf (İ D)) qAf) #[e,F,?_]
 refine#[.non,_,zTe c a p xc0,rfl,q];rw[NJ];show B
abbrev KI(a:W)(ws:Ã)(h:MH):Ú:=match a,ws with
 |Ä n,[Î b]=>match h[n]? with|qc c=>jUi|_=>nO
 |_,_=>nO
def G3:QbA X "list.extend" KI:=by
 intro b s j H x o v p Q I t rv q;refine Qcj b s j H x o v p Q I t rv ?_;let#[R,h,a,J,w,L,d,u,c,e,k]:=q;unfold KI at e;split at e
 ·show Tx n E e
  ·show Tx F z e
   ·show(jj5,ze6 D l B g d,jw0 D)
   ·cases e
  ·cases e
 ·cases e
@[simp]def Qn7:KI Φ [Î a] h=match h[n]? with|cW=>jTa|_=>nO:=yq
#print"-"
#print"-Mi"
namespace My
open L2 Mi
noncomputable abbrev Ln:=Â
abbrev QI(l:Ln):W:=Î Cj
abbrev ZL(xs:Â):W:=À fK
noncomputable abbrev Pt:=Str×ĝ
abbrev JJ(p:Pt):W:=Î [.str p.1,.tup (p.2.map QI)]
abbrev QJ(p:È):W:=Î BG
structure Spt where
 way:ï
 part:Nat
 k:Nat
 head:Bool
abbrev U5(q:jy):W:=Î zqf
abbrev Qj(s:Spt):W:=Î [.tup qVd,xv4,.int s.k,.bl s.head]
def QhM:∀{ws:Ã},(∀w∈ws,zbc)->zbe:=by
 intro ws
 induction ws with
 |nil=>
  show xj
 |cons w ws a=>
  intro h;unfold KD;rw[yx w,a jMi];rfl
def Qg1{n:Nat}:∀{ws:Ã},(∀w∈ws,dep w<=n)->zi5<=n:=by
 intro ws
 induction ws with
 |nil=>
  intro _;show NO _
 |cons w ws a=>
  intro h;unfold QcE;show Nat.max_le.mpr #[yx w,a jMi]
def JT{f:a->W}{xs:Ø a}(h:∀x,pln (f x)=true):KD zV5=true:=QhM ju4
def Qh5{f:a->W}{xs:Ø a}(h:∀x,dep (f x)<=n):QcE zV5<=n:=Qg1 ju4
@[simp]def Vg{xs:Â}:KD fK=true:=JT Λ
def KH{xs:Â}:QcE fK<=1:=Qh5 λ_=>Nw _
@[simp]def Qp5{l:Ln}:pln zV6=true:=by unfold QI pln;show Vg
@[simp]def Qf9{xs:Â}:pln jdc=true:=by unfold ZL pln;show Vg
@[simp]def QjZ{ls:ĝ}:KD jU=true:=JT λ_=>Qp5
@[simp]def Qs4{p:Pt}:pln (JJ p)=true:=by simp[JJ,pln,KD]
@[simp]def Qe1{ps:È}:KD (ps.map JJ)=true:=JT λ_=>Qs4
@[simp]def Qsr{ps:È}:pln (QJ ps)=true:=by unfold QJ pln;show Qe1
@[simp]def Qtn{q:jy}:pln (U5 q)=true:=yq
@[simp]def QkX{a:ï}:KD xne=true:=JT λ_=>Qtn
@[simp]def Qqn{s:Spt}:pln BQ=true:=by simp[Qj,pln,KD]
@[simp]def Qj2{a:Ì}:KD xo1=true:=JT λ_=>Qqn
@[simp]def QwT{l:Ln}:pur zV6=true:=Yi _ Qp5
@[simp]def Qrc{xs:Â}:pur jdc=true:=Yi _ Qf9
@[simp]def Qv7{ps:È}:pur (QJ ps)=true:=Yi _ Qsr
@[simp]def QvA{s:Spt}:pur BQ=true:=Yi _ Qqn
@[simp]def Qq7{xs:Â}:Ze fK=true:=ZC _ Vg
@[simp]def Qtf{ls:ĝ}:Ze jU=true:=ZC _ QjZ
@[simp]def QtK{ls:È}:Ze (ls.map JJ)=true:=ZC _ Qe1
@[simp]def Qk3{a:Ì}:Ze xo1=true:=ZC _ Qj2
@[simp]def Qwy{i:Int}:pur Ō=true:=yq
@[simp]def QwH{x:Str}:pur Μ=true:=yq
@[simp]def Qxa{b:Bool}:pur yf=true:=yq
@[simp]def QwF:pur .non=true:=yq
@[simp]def QvH{ws:Ã}:pur y0=Ze ws:=zLc
@[simp]def QsT{ws:Ã}:pur Cz=Ze ws:=zLc
@[simp]def Qv0{ws:Ã}:pur zXg=Ze ws:=zLc
@[simp]def QuX:Ze []=true:=yq
@[simp]def Ql2{ws:Ã}:Ze zf=(pur w&&Ze ws):=by rw[Ze]
@[simp]def QuM{ws us:Ã}:Ze jab=(Ze ws&&Ze us):=by
 induction ws with
 |nil=>simp
 |cons w ws a=>simp[a,Bool.and_assoc]
@[simp]def Qp1{ns:Ũ}:Ze pJ=true:=by
 induction ns with
 |nil=>rfl
 |cons n ns a=>simp[a]
@[simp]def Qum{ws:Ã}:K3 Cz=Ze ws:=yq
def Vd{n:Nat}(h:n<=1000000):zUe:=Nh h Ð
def QbD{n:Nat}(h:n<=1000000):n<sizeLine:=uZ h
@[simp]def QuS:1<=sizeLine:=ÿ
@[simp]def Qug:2<=sizeLine:=ÿ
@[simp]def Qvc:3<=sizeLine:=ÿ
@[simp]def Quw:4<=sizeLine:=ÿ
@[simp]def Qvj:5<=sizeLine:=ÿ
@[simp]def QuG:6<=sizeLine:=ÿ
@[simp]def QuA:8<=sizeLine:=ÿ
structure Fd where
 a:Int
 b:Int
 hb:qH7
abbrev Qw(f:Fd):MO:=À qnc
def Qel{xs:Ø b}{i:Int}{P:b->Prop}{f:b->W}(h0:0<=i)(h1:zUd)(c:∀x∈xs,P x):∃x,x∈xs/\P x/\atI zV5 i=sO (f x):=by
 show jU2
 let a:n<xs.length:=Í
 show#[xs[n],Ff a,c _ (Ff a),xo3 a]
def QgR{f g:Fd}(e:Qw f=Qw g):f=g:=by
 show(Ů a b d f,Ů i h c g);simp[Qw]at e;show uX e;rfl
abbrev QqU(h:MH)(n:Nat):Prop:=∃f,jW
open Classical in
abbrev Qd0(h:MH)(n:Nat):Fd:=if p:jga then p.choose else#[0,0,ÿ]
def QaV{n:Nat}(e:jW):Qd0 h n=f:=by
 let p:jga:=ĺ f e
 unfold Qd0;rw[dif_pos p];show(QgR (N4 (e.symm.trans p.choose_spec))).symm
@[simp]def QuO{f:Fd}:QqU xv5 0:=zK f
@[simp]def QrH{f:Fd}:Qd0 xv5 0=f:=QaV rfl
def QoA{b:Ã}(d:pln a=true)(py:KD b=true)(f:dep a<=40)(e:QcE b<=40):wIn neg a oz h=sO (ă (if neg=true then !inW a b else inW a b),h):=by
 apply((lsW h oz).bind λb=>(drf h 40 a).bind λx=>(Zu kq b).map λc=>(W.bl jYe,h))=_;show jdd;rw[xhi,Vk h b 40 py e];rfl
@[simp]def Qwj{i:Int}:wIn false Ō (Ï qZe) h=sO (ă (AQ xo4),h):=by
 rw[QoA (by simp[pln]) (by simp[pln,KD]) zH4 (by simp[dep,QcE])]
 let:inW Ō qZe=decide xo4:=by
  simp only[inW,D4,List.any_nil,eqW,Ya9];rw[F4];simp;lia
 simp[this]
@[simp]def QtJ{xs:Â}:JO [ZL xs] h=sO (.int xs.length,h):=qSa
@[simp]def QuL{xs:Â}:CJ jdc=ů kE (atI fK i):=qSa
@[simp]def Qw3{xs:Ø a}:atI xs 2=xs[2]?:=QT (n:=2)
@[simp]def Qxe{xs:Ø a}:atI xs 3=xs[3]?:=QT (n:=3)
def Xv{n j:Nat}(h:(QE a n)[j]?=sO w):j<n/\w=Á (a+j):=by
 let b:=Ü h;simp[QE]at b;show SS b;unfold QE at h;rw[Nt,Di b]at h;cases h;rfl
def Qkf{a b:Char}(h:a.toNat=b.toNat):a=b:=by
 let:a.val=b.val:=by
  refine' UInt32.toNat_inj.mp;show h
 show Char.ext this
def K8:∀{a b:List Char},a.map Char.toNat=b.map Char.toNat->a=b
 |[],[],_=>rfl
 |[],_::_,h=>ϥ h
 |_::_,[],h=>ϥ h
 |x::a,y::b,h=>by
  simp only[NB,L0]at h;rw[Qkf h.1,K8 h.2]
@[simp]def Qs6{a b:String}:(Str.ofString a=Str.ofString b)↔a=b:=by
 constructor
 ·intro h;rw[Yax,Yax]at h;let c:=K8 (List.toArray_inj (Str.mk.inj h));show String.toList_inj.mp c
 ·intro h;rw[h]
#print"-My"
namespace L2
abbrev RawD(h:Heap)(d:Addr)(es:fy)(ep:Nat):Prop:=∃o,ő d=sO o/\o.ExactDict/\RJ
def RawD.typeIs{s:Shared}(m:Rg):s.TypeIs P7 "dict":=by let#[o,a,b,_]:=m;show#[o,a,b.1]
def RawD.lt(m:t9):d<h.objs.size:=by let#[_,a,_]:=m;show NN a
def RawD.at(m:t9)(k:∀o,qt d o):RawD h' d es ep:=by show uk o a r m #[o,k o a,r]
section
variable{prog:Program}{w:World}{A:Around}{E:Ñ}{s:Shared}{it d:Addr}{es:fy}{i ep:Nat}
def QaT(hd:km)(m:Rg)
  (q:Q ϴ { s with heap:=s.heap.push { cls:=.type "dict_keyiterator",data:=.fields #[Ä d,nB,.int es.size 0,zRb,] } }):ä (TX P7):=by
 let a:=m.typeIs;show ϖ o c e b m;refine ON a Yay (Et Yay a PySem.F.entry_dict_iter ?_ (PySem.F.args_dict_iter_1 _));show Æ (Na (Ft a ?_));refine(show ń (pure (vM d)) from Nl ?_);refine(show ń (Builtin.Dict.showsAll d>>=_) from ?_);unfold Builtin.Dict.showsAll;rw[if_neg (by rw[hd];show N9)];show(Æ (Nl (Na (Ii c b (Na (Fv c b ?_))))),ı (EA (jK #[_,rfl,"dict_keyiterator",_,gR,Dk.lookup,?_])));simpa[rawInt]using q
def Qbc(hit:s.heap.IsKeyIter it d i es.size ep)(m:Rg)(f:yb)
  (j:∀h',h'.IsKeyIter it d (i+1) es.size ep->zK1 h'->v9 (sO jai) h'):ä nJ:=by
 show(eA e h,joj b g c e)
 show jpa b c;simp only[show¬(A5<0)from Í,if_false,Dj,NR f];show jC
 first|show Æ (D5 hit.typeIs qt5)|show Æ (FL hit.typeIs qt5)
 refine(lx (qo8 PH>>=_) (qM5 e))
 let a:(s.heap.update it (Obj.mapFields (·.setIfInBounds 1 sT))).IsKeyIter it d (i+1) es.size ep:=
  #[_,Ep _ e qz6,(YbG ..).trans h,qz7]
 show Æ (N7 (Na (LJ (s:={ s with heap:=s.heap.update it (Obj.mapFields (·.setIfInBounds 1 sT)) }) a.typeIs ?_)));refine(show ż (pure jai) from ?_);show ħ (jK #[_,rfl,Nl (aH j a)])
def Qfv(g:Ζ)(hit:s.heap.IsKeyIter it d es.size es.size ep)(m:Rg)
  (j:∀h',qBa->zF0):ä nJ:=by
 show(eA f n,joj c h e f)
 show jpa c e;simp only[show¬(xhj<0)from Í,if_false,Dj,LC (Nw es.size)];show jC
 first|show Æ (D5 hit.typeIs ζ)|show Æ (FL hit.typeIs ζ)
 refine(lx (setField PH 0 .none>>=_) (qM5 f));refine(show ż (qdb>>=_) from Na ?_);show Æ zyc;refine Na (m:=qP7) (Yaz (a:=Value.none) jUd ?_);refine EA ?_ qae;show Æ qVe;rw[show iB from g];show(Æ qD7,HQ (Iw (b:=true) (T:="StopIteration") gR isSubtype_stop ?_),ħ (j _ qp5))
def QdR(p:Ζ)(I d:Addr)(j:d≠I)(es:fy)(ep:Nat) :
  Walks prog w A I [I,d] [I] es.size qnd (λi h=>h.IsKeyIter I d i es.size ep/\t9) where
 sub:=qwa
 frame:=λ_ _ _ st hk=>#[st.1.at (zHh I),st.2.at (zHh d)]
 item:=λi s Q E n st g=>Qbc st.1 st.2 n λm f c=>
  g _ m s.toks #[es[i],NR n,rfl] #[f,st.2.at λo e=>Bz c d j e] λb o a e=>c.extBut b o jD0 e
 done:=λs Q E st g=>Qfv p st.1 st.2 λm l=>g m s.toks λb o a e=>An l jD0
 self:=λ_ _ _ _ st g=>YaY st.1 g
def G0(lo:km):PySem.W.KdlSrc prog w "dict" d d es.size qnd (λh=>t9) where
 type:=λ_ m=>m.typeIs
 there:=λ_ m=>#[m.lt,m.lt]
 keep:=λ_ _ m k=>m.at λo e=>k d AL o e
 notList:=ÿ
 notTuple:=ÿ
 hint:=λ_ _ _ _ m q=>PySem.W.kdl_hint_dict m.typeIs q
 iter:=λ_ _ a m=>#[_,_,(λ_ _ q=>QaT lo m q),QdR a _ d (NL m.lt) es ep,#[yB,m.at λo e=>Ŗ e]]
#print"-"
#print"-L2"
namespace Mi
open L2
abbrev TrH(K:Nj)(H:Hp):Nat->Tr->V->Prop
 |0,_,_=>False
 |_+1,.i k,v=>v=Á k\/∃b:Bool,zgc/\qI8
 |_+1,.s x,v=>Pd
 |n+1,.t ks,v=>∃a xs,ψ/\xI H/\Paired (TrH K H n) ks xs
def Qle{F:j->i->Prop}{G:i->h->Prop}{M:j->h->Prop}(f:∀a b c,F a b->G b c->M a c){g:Ø j}{e:Ø i}{d:Ø h}(p:u7 F g e)(q:u7 G e d):u7 M g d:=by
 induction p generalizing d with cases q
 |nil=>show .nil
 |cons a s l=>show ĉ (f _ _ _ a jg9) (l jg9)
section
variable{X:Cx}{pins:Û}{σ:L2.St}{H:Hp}{s:Shared}
def QjM(I:ß):∀{n:Nat} (k:Tr) (v:V) (u:Value),TrH X.K H n k v->ñ v->dh k u
 |0,_,_,_,x,_=>x.elim
 |n+1,.i k,v,u,x,r=>by
  rcases x with rfl|⟨b,rfl,hk⟩
  ·show Ý r
  ·show Ć #[b,r,hk]
 |n+1,.s y,v,u,x,r=>by
  show Χ (show v=Ù y from x) r
 |n+1,.t ks,v,u,x,r=>by
  let#[a,xs,rfl,q,p]:=x;show ub c d e q;show ì jjf #[a,c.toArray,rfl,e,by simpa using Qle (λk v u g f=>QjM I k v u g f) p d]
#print"-"
section
variable{K:Nj}{R:Rn}{h:MH}{H:Hp}
def Qty(p:ē):∀(n:Nat) (w:W) (v:V) (k:Tr),õ w->xuh->TrH K H n k v:=by
 intro n
 induction n with
 |zero=>
  intro _ _ _ _ e;show MD
 | succ n z=>
  intro w v k r e;cases w with
  |int i=>show we;cases e;show .inl r.int_eq
  |bl b=>show we;cases e;show Ć #[b,r.bl_eq,rfl]
  |str x=>show we;cases e;show r.str_eq
  | tup l=>
   show we;let#[ks,f,g]:=ϗ e;subst g;show ze6 a j q d p;refine#[a,j,rfl,q,?_];clear e r q
   induction l generalizing ks j with
   |nil=>
    show jm d;rw[Ybc]at f;show zj0 (zL1 f)
   |cons x l u=>
    rw[Dm]at f;show(Ĭ m B g f,Ĭ c A C g);cases(show sO (m::c)=sO ks from C);show(϶ d y o t s,ĉ (z x y m t B) (u c A o s))
  |_=>show MD
def QdH(a:ē)(r:õ w)(e:zbb):TrH K H 8 k v:=by
 cases w with
 |tup b=>show Qty a 8 _ v k r e
 |_=>cases e
def QlK(b:ē)(r:õ w)(e:zbb):∃a,ψ:=by
 cases w with
 |tup d=>let#[a,c,rfl,_]:=b.tupAt r;show Mq a
 |_=>cases e
#print"-"
abbrev VO(a:ε)(k:Tr):Þ:=(a.find? (yt p (xo=sO k))).map (·.2)
abbrev Uu(a:ε)(k:Tr)(kw v:W):ε:=if xcj=true then a.map (λp=>if xo=sO k then(p.1,v)else p)else a++[(kw,v)]
abbrev QfU(kx:Ś)(k:Tr):Ū V:=(kx.find? (uC p k)).map (·.2.2)
abbrev QbZ(kx:Ś)(k:Tr)(b:Addr)(v:V):Ś:=if zM5=true then kx.map (λp=>if p.1=k then(p.1,p.2.1,v)else p)else kx++[(k,b,v)]
noncomputable abbrev DctR(K:Nj)(R:Rn):ε->Ś->Prop:=Paired λp q=>xDd
noncomputable abbrev Qca:Ś->uK->Prop:=Paired λp q=>qlg
section
variable{K:Nj}{R:Rn}
def Ye{a:ε}{kx:Ś}(d:tP):(VO a k=nO/\QfU kx k=nO)\/∃w v,VO a k=sO w/\QfU kx k=sO v/\õ w:=by
 induction d with
 |nil=>show Ý ś
 |@cons p q f c h t b=>
  show SN e q
  ·show Ć #[p.2,q.2.2,by simp[VO,NV,h.2.1,e],by simp[QfU,NV,e],h.2.2]
  ·simpa[VO,QfU,NV,e,h.2.1]using b
def Ww(d:tP):xcj=zM5:=by
 rcases Ye (k:=k) d with z|⟨w,v,c,b,_⟩
 show xcf
 ·rw[c,b];rfl
def GX(d:tP)(rk:Rw K R kw Ci)(hk:xv7)(r:õ w):DctR K R (Uu a k kw w) qVf:=by
 unfold Uu QbZ;rw[Ww d];split
 ·rename_i f;clear f rk hk
  induction d with
  |nil=>show .nil
  |@cons p q i g h t c=>
   show rg c
   show SN e q
   ·rw[Ò e,if_pos (by rw[h.2.1,e])];show qZf
   ·rw[Ó e,if_neg (by rw[h.2.1];show λz=>e (N4 z))];show h
 ·show Yau d #[rk,hk,r]
def Wa{kx:Ś}{xs:uK}(r:xE):RelO (QfU kx k) ((atKey xs k).map (·.2)):=by
 induction r with
 |nil=>show zee
 |@cons p q d c h t b=>
  show Pf
  ·let a:q.1=k:=h.1.symm.trans e;simpa[QfU,atKey,NV,e,a,RelO]using h.2.2
  ·let a:¬q.1=k:=jI e qZg;simpa[QfU,atKey,NV,e,a]using b
def WV(d:xE):zM5=(atKey xs k).isSome:=by
 let:=(Wa (k:=k) d).isSome_eq;rwa[FF]at this
def GO(d:xE)(r:ñ v):Qca qVf (storedH xs k b u):=by
 unfold QbZ storedH;rw[WV d];split
 ·rename_i c;clear c
  induction d with
  |nil=>show .nil
  |@cons p q g f h t a=>
   show rg a;unfold YbL
   show Pf
   ·rw[Ò e,if_pos (h.1.symm.trans e)];show qZf
   ·rw[Ó e,if_neg (λz=>e qZg)];show h
 ·show Yau d (zf9 r)
def WX:(QbZ kx k b v).length<=kx.length+1:=by
 unfold QbZ;show jqf
 ·rw[NJ];simp
#print"-"
section
variable{X:Cx}{pins:Û}{σ:L2.St}{H:Hp}{s:Shared}{R:Rn}{h:MH}
def XG(I:ß)(d:Ϗ)(g:qAc) :
  ∃kx xs,H Ŏ=dA/\qZh/\qM6/\jyc/\xE/\s.heap.DictOfH zN1 Ŏ xs:=by
 let#[kx,c,l]:=xZ d g;let#[z,y,xs,r,o,C,D,B,A,v,j,i,_]:=I.hok _ _ c;refine#[kx,xs,c,l,z,y,r,o,C,D,B,A,v,j,?_,i];clear j i z c g
 induction r generalizing a with
 |nil=>intro x b;show MP b
 | @cons p q J F f t u=>
  cases l with
  |cons m E=>
   intro x b
   rcases HE b with e|b
   ·subst e;let:=QjM I _ _ _ (QdH d m.1 m.2.1) (show RelV (.ref p.2.1) (Value.ref p.2.1)from rfl);rw[f.1,f.2.1]at this;show this
   ·show u E x b
abbrev DctE(prog:Program)(w:World)(h:Heap)(d:Addr)(xs:uK):Prop:=
 ∃o a b,ő d=sO o/\o.ExactDict/\o.data=.dict a b/\a.toList=zsc/\(∀x∈xs,i4 h x)/\(xs.map (·.1)).Nodup/\b=a.size
def DctE.of{h:Heap}:DctE prog w h d xs->h.DictOfH zB2 d xs:=λz=>by
 let#[o,i,j,g,f,e,c,b,a,_]:=z;show#[o,i,j,g,f,e,c,b,a]
def Qe4(I:ß)(i:Ϗ)(j:qAc) :
  ∃kx xs,H Ŏ=dA/\qZh/\qM6/\jyc/\xE/\DctE X.prog X.w s.heap Ŏ xs:=by
 let#[kx,xs,f,C,B,A,z,o,m,q,e,y,d,x,v,u]:=XG I i j;let#[_,_,g,r,D,l,p,c,J,b,F,E,t]:=I.hok _ _ f;show â e c;rw[d]at b;show ì b #[kx,xs,f,C,B,A,z,o,m,q,e,y,d,x,v,u,t]
def Kj(I:ß)(a:Ϗ)(r:Œ w v)(c:ñ v)(e:zbb):∃b,yJ/\u=Ä b/\(Qh X.prog X.w).is s.heap k b:=by
 let#[b,rfl]:=QlK a r e;show ì (show u=jQ b from c) #[b,rfl,rfl,QjM I _ _ _ (QdH a r e) (show RelV Ci (vM b)from rfl)]
def UX(I:ß)(e:H a=dA)(z:c.length<=sizeLine)(lo:kj)(r:Qca c b)
  (f:Bg a) (dd:DctE X.prog X.w h' a b):yO (Ą a (.dT c)):=by
 let#[o,n,p,d,m,l,j,_,i,g]:=dd;show qyi f (ĺ o d) #[z,lo,b,r,o,n,p,d,m,l,j,i,g]
#print"-"
set_option backward.eqns.nonrecursive false in
abbrev XT(h:MH):W->Option (HF (W×W))
 |Ä n=>match h[n]? with|jm8=>sO a|_=>nO
 |_=>nO
def JA(e:XT h a=sO b):∃n,a=Ä n/\h[n]?=sO (Α b):=by
 cases a with
 |ref n=>
  simp only[XT]at e;show ju2
  ·cases e
 |_=>cases e
abbrev Ka:ME:=zja (ī,qJ4)
abbrev U8(neg:Bool)(b a:W)(h:MH):Ú:=(XT h a).bind λc=>(nrm b).map λk=>(ă (if neg then ! xi0 else xi0),h)
abbrev J1(a b v:W)(h:MH):Option MH:=match a with
 |Ä n=>match h[n]? with
  |some (Α c)=>(nrm b).bind λk=>if qS0 then sO (Hg (Α xd0))else nO
  |_=>nO
 |_=>nO
abbrev Kt(mo mi mv:ME):SM:=λa h=>(mv a h).bind λv=>(mo a v.2).bind λo=>(mi a o.2).bind λi=>(J1 o.1 i.1 v.1 i.2).map λb=>.nx a b
abbrev Qm0(a:W)(ws:Ã)(h:MH):Ú:=match ws with
 |[b,v]=>(XT h a).bind λc=>(nrm b).bind λk=>match VO c k with
  |ã x=>Ċ x h
  |none=>(J1 a b v h).map λd=>(v,d)
 |_=>nO
abbrev QdK(a:W)(ws:Ã)(h:MH):Ú:=match ws with
 |[b,v]=>(XT h a).bind λc=>(nrm b).map λk=>((VO c k).getD v,h)
 |_=>nO
abbrev U1(ws:Ã)(h:MH):Ú:=match ws with
 |[a]=>(XT h a).map λb=>(.lst (b.map (·.1)),h)
 |_=>nO
section
variable{prog:Program}{w:World}{A:Around}{E:Ñ}{s:Shared}{d a:Addr}{k:Tr}{xs:uK}
def Qkq{dflt:Value}(hu:qP8)(b:uL k a)(t:nq)(hsz:Bn)
  (h1:∀p,zbg=sO p->Q p.2 { s with toks:=Co })
  (h2:zbg=nO->∀h',qc4->Bg d->Q dflt { s with heap:=h',toks:=Co }):ä (dictSetDefault d Ġ dflt):=by
 let#[o,B,v,f,u,hd,l,i,m,r]:=t;refine N7 (Na ((Qh prog w).pyHash hu b (jq3 l i m)))
 ·show(qbc h g,HQ (Dy (Na (YaZ (hz:=qsb l) (s:={ s with toks:=Co }) f hd (zng (h2 en _ (ju5 v u r) iF))))))
  ·rw[LD en];simp[l,entryOfKey]
  ·show jjh i
  ·rw[LD en,Ee,Ek];show#[m,Å,qk0 n g]
 ·intro j p q;show Æ (Ii (s:={ s with toks:=Co }) f hd ?_);rw[entry_at l j,q];show Na (Dy (Nl (h1 p (atKey_of_get m q))))
def UE(hu:qP8)(b:uL k a)(D:nq)(hsz:Bn)
  (h:jq4):ä (dictSet d Ġ v):=by
 let#[o,F,C,f,B,hd,r,g,n,u]:=D;refine N7 (Na ((Qh prog w).pyHash hu b ?_));refine N7 (jq3 r g n)
 ·show(qbc m i,HQ (Dy (YaZ (hz:=qsb r) (s:={ s with toks:=Co }) f hd (aH h (ju5 C B u)))))
  ·rw[LD en];simp[r,entryOfKey]
  ·show jjh g
  ·rw[LD en,Ee,Ek];show#[n,Å,qk0 q i]
 ·intro j p z;let t:=atKey_of_get n z;show ı (Dy (Na (wpAny_updateDict (s:={ s with toks:=Co }) f hd (wpAny_point (aH h #[_,_,C,Ep _ f (Oe (YbU hd _)),B.mapDict _,YbU hd _,?_,?_,?_,CS u])))))
  ·rw[zQh];let:=modify_map_putAt jWd (λe:DictEntry=>{ e with val:=v }) k v iN n z;rw[<-r]at this;let#[l]:=F;show ϻ
  ·rw[zQh];show cI c q;simp only[YbL];split<;>show zy5 (g y q)
  ·rw[zQh,keys_map_putAt];show n
def QeD(hu:qF2)(b:uL k a)(c:nq)(hsz:Bn)
  (h:jq4):ä (setItem P7 Ġ v):=by
 let ty:=c.of.typeIs;refine N7 (Na (OL ty Ð (Na (EU (name:=Str.ofString "__setitem__") ty slot_dict_setitem (Et slot_dict_setitem ty entry_dict_setitem ?_ (args_dict_setitem _ _ _))))));show TY (lx (Builtin.Dict.notOrdered "__setitem__" #[[Ä d,Ä a,v],[]]>>=_) (Ft ty ?_)) (lx (dictSet d Ġ v>>=_) (UE hu b c hsz λh' m e=>Nl #[.none,rfl,Nl (h h' m e)]))
#print"-"
section
variable{X:Cx}{o i e a b:Expr}{mo mi mv ma mb:ME}{pos pos':Pos}
def QlB:PM X RU Ka:=Q2 Qid λn H Q q=>by
 let#[R,f,h,w,s,j,st,e,k]:=q;cases e;intro p l;let#[m,g,d,c]:=j.new (mo:=Sx) (o:=.dT []) l qB9
 show ϭ m g d c
def QbG(hu:ļ):(Qh X.prog X.w).room X.A.in1:=by apply kK+8<cLine;lia
def Qmt(hu:ļ):æ bL (F2 X.K (U8 false)):=by
 intro g s J H x y v u Q I m l j;let#[R,h,a,b,w,S,d,q,f,e,k]:=j;unfold U8 at e;show jjb;let#[M,L,P,F,z,lo,p,dd]:=XG I d t;show(qz8,zoe l);refine wpAny_in_heap ze7 hk lo dd ?_;show jS5
def QbF(hu:ļ):æ zJ5 (F2 X.K eT):=by
 intro g s J H x y v u Q I m l j;let#[R,h,a,b,w,S,d,q,f,e,k]:=j;unfold U8 at e;show jjb;let#[M,L,P,F,z,lo,p,dd]:=XG I d t;show(qz8,zoe l);refine wpAny_notIn_heap ze7 hk lo dd ?_;show jS5
def Qbj{a b v:W}(e:J1 a b v h=sO h'):∃n c k,a=Ä n/\Ra/\nrm b=sO k/\qS0/\h'=Ű (Α xd0):=by
 show vB J1 e
 ·show xN n e
  ·rename_i c f;show Ĭ k j d e;split at d
   ·rename_i g;show ì d #[n,c,k,rfl,f,j,g,rfl]
   ·cases d
  ·cases e
 ·cases e
abbrev QtD(K:Nj)(mo mi mv:ME):TS:=λD c H=>tI K mv c H λv H1=>tI K mo c H1 λx H2=>tI K mi c H2 λy j=>
 ∃R h a b w d,Rh K R h j/\lL/\ŵ R b y/\õ w/\J1 a b w h=sO d/\∀f g,je f->Rh K f d g->D.nx c g
def QvB{H:Hp}{R:Rn}{a b w:W}{x y v:V}(hu:ļ)(I:Ż f σ)(j:Ϗ)(C:Œ a x)(B:Œ b y)(rw:Œ w v)
  (N:š x r) (M:š y J) (rv:š v L) (e:J1 a b w h=sO h') (q:∀t F,ŕ f σ F t->Rh X.K R h' F->Q () t):ġ (setItem r J L) Q s:=by
 let#[n,P,k,rfl,Z,hk,hl,rfl]:=Qbj e;let#[l,xs,U,E,z,lo,u,dd]:=Qe4 I j Z;let#[c,rfl,rfl,g]:=Kj I j B M hk;show(Š C,Ĵ m C,Cn r N);let D:=Ec E;let d:=Ec u;refine QeD ze7 g dd (Nh (İ d) z) (Õ h' p Y);let S:(QbZ l k c v).length<=sizeLine:=by let:=WX (kx:=l) (k:=k) (b:=c) (v:=v);lia
 show q _ _ (UX I U S lo (GO u rv) Y p) (j.put m #[_,rfl,GX E B hk rw])
def Qtc(hu:ļ)(ho:Tt)(hi:zdd)(he:zde)(hs:jQe):sy qZi:=by
 refine JH (t:=QtD X.K mo mi mv) (λc s g H D I h=>?_) (Ł D g H q)
 ·refine Yav (ņ (he c s g H _ I h) r Y p) hs;let#[v,H1,I1,rv,q1]:=p;refine thn (ho c Y g H1 _ I1 q1) (Õ u U p);show Pi x C p;refine thn (hi c U g H2 _ I2 q2) λiv s3 z=>?_;let#[y,H3,I3,B,R,h,a,b,w,S,L,ra,rb,rw,e,k]:=z;show QvB hu I3 L ra rb rw C B rv e λs4 n I4 f=>#[g,n,I4,k R n Ε f]
 ·let#[R,d,h,r,L,s,e,k]:=q;show(ĵ v Q e1 e2 e,zn7 P e3 e4 e2 N e5 e6,Az S e7 e8 e6);show HC e8 #[R,d,h,v,Q,L,s,e1,T3 m J C #[R1,d,Q,ob,P,J,HB m,e3,λR2 H2 y l F B=>#[R2,d,P,ix,N,F,jG3,e5,ϰ R3 H3 z j E Z]]];show#[R3,N,ob,ix,v,S,E,Su j B,Z,Su (Ē l j) C,e7,λR4 n M f=>k R4 n g jAj f (s.mono jAj)]
def QhO(hu:ļ)(d:Tt)(hi:zdd)(f:zde)(c:Tk:=by rfl):sy qZi:=Qtc hu d hi f (Vr c)
#print"-"
def Qex{w:World}(d a:Addr)(lo:km)(dflt:Value) :
  MeetsIn prog w (Builtin.«dict.setdefault» #[[Ä d,Ä a,dflt],[]]) (λA R s=>qF2/\∃k xs,uL k a/\nq/\Bn /\
   (∀p,zbg=sO p->R (.ok (.ret p.2)) { s with toks:=Co }) /\
   (zbg=nO->∀h',qc4->Bg d->R qtj { s with heap:=h',toks:=Co })):=
 .of_wp λA R s g=>by
  let#[hu,k,xs,b,f,h,m,l]:=g;show Æ (Na (Ft f.of.typeIs ?_));refine(show ń (pure (d,jQ a,sO dflt)) from Nl ?_);refine(show ń (if(sD d)=true then _ else(dictSetDefault d Ġ dflt>>=_)) from ?_);rw[if_neg (by rw[lo];show N9)];show Na (Qkq hu b f h (λp i=>Nl #[p.2,rfl,m p i]) λj h' e c=>Nl #[dflt,rfl,l j h' e c])
section
variable{X:Cx}
def QkP(hu:ļ):QbA X "dict.setdefault" Qm0:=by
 intro aa s σ H x S v us Q I rx rv q;let#[R,h,a,ws,w,h',o,ra,B,e,k]:=q;unfold Qm0 at e;split at e
 ·rename_i b dv;let#[af,e1,e2]:=ģ e;show(Ĭ g J r e2,Rb);let#[y,L,rfl,rb,Z]:=Qhf B;let#[uy,uz,rfl,ry,Y]:=Wj rv;let#[D,S,hx,t,zl,lo,C,dd]:=Qe4 I o hn;let#[c,rfl,rfl,l]:=Kj I o rb ry J;let i:=ra;show(Š i,Ĵ F i,qu0);let ae:=Ec t;let f:=Ec C;let d:=Wa (k:=g) C;refine LV Fg dd.of.typeIs Ob xo6 (Qex _ c lo uz) #[QbG hu,g,S,l,dd,by show Nh (İ f) zl,zb5,λE ah M hs=>?_]
  ·rw[hp]at d
   show jz4
   ·rw[z.2]at d;show C7 d
   ·show â P r;rw[u]at d;show#[U,H,ų,d,Ļ o N]
  ·rw[E]at d
   show jz4
   ·rw[z.1]at r;show ū h3 e5 e6 r;let#[n',ab,k',en,j,m,hl,rfl]:=Qbj e5;cases en;rw[hn]at j;cases j;show â J m;let hz:(QbZ D g c L).length<=sizeLine:=by let:=WX (kx:=D) (k:=g) (b:=c) (v:=L);lia
    show#[L,_,UX I hx hz lo (GO C Y) hs M,Y,ϭ R Ε (o.put F #[_,rfl,GX t rb J Z]) Z]
   ·rw[u]at d;show C7 d
 ·cases e
def Qik(hu:ļ):QbA X "dict.get" QdK:=by
 intro r s σ H x o v us Q I L rv q;let#[R,h,a,ws,w,h',f,p,i,e,k]:=q;unfold QdK at e;split at e
 ·rename_i b dv;show(HR S e1 e2 j e3 Z,rK U e1,zt y z P N i);let#[uy,E,rfl,J,F]:=Wj rv;let#[kx,o,hx,dr,zl,lo,M,dd]:=XG I f U;let#[c,rfl,rfl,d]:=Kj I f P J e3;show(Š p,Ĵ Y p,Cn v L);let g:=Wa (k:=j) M;refine LV Fq dd.typeIs LB zUg (meetsH_dict_get_default zN1 Ŏ c lo E) #[QbG hu,j,o,d,dd,?_]
  rcases Ye (k:=j) dr with z|⟨w',D,C,B,t⟩
  ·rw[z.2]at g;rw[RelO.none_of g];rw[z.1]at k;show#[_,H,ų,F,Ļ f N]
  ·rw[B]at g;let#[u,m,l]:=RelO.some_of g;rw[m];rw[C]at k;show#[D,H,ų,l,Ļ f t]
 ·cases e
def We{K:Nj}:∀{a:ε} {kx:Ś},tP->Rws K R (a.map (·.1)) jJh
 |_,_,.nil=>Rws.nil
 |_,_,ĉ h t=>Rws.cons h.1 (We t)
def Wu:∀{kx:Ś} {xs:uK},xE->Vals jJh (xs.map ki)
 |_,_,.nil=>.nil
 |_,_,ĉ h t=>ĉ (show _=Value.ref _ from by rw[h.2.1]) (Wu t)
def GP(hc:ĥ):zrg U1:=by
 intro F s σ H f us Q I r q;let#[R,h,ws,w,L,D,m,e,k]:=q;show vB U1 e
 ·show(pi a Z e1 e2,Rb,CL y E m,Pv P r,jD2 Y B C D E,Cn u P);let#[o,A,M,h1,h2,h3,J,_,h5]:=dd;let d:A.size=f.length:=L3 J;let x:=Ec C;refine O7 (zTh A M) kz #[o,h1,h2,h3] (Nh (Nh zei (İ x)) B) λL tk b c' kp eL c=>?_
  let hv:jG8 Y:=by
   let:jD3:=by
    show jke z J
    ·show jka U S
   rw[this];show Wu C
  show pQ;let#[R3,N,v,t]:=D.lstI (p:=s.heap.objs.size) hp (We dr);refine#[ϋ s,_,jqa L B,rfl,ϭ R3 N v t]
 ·cases e
#print"-"
#print"-Mi"
namespace L2
section
variable{X:Cx}{pins:Û}{σ:St}{H:Hp}{s:Shared}{h':Heap}{t':Nat}{ch:Κ}
def Inv.turnedL(I:ß)(k:∀b o,uh->yz)(f:∀b∈ch,zI2)(d:∀b u,zej->i b=sO u)(x:∀b o,ϙ->ϫ->i b=nO)
  (new:∀b u,ϫ->i b=sO u->zac i b u):yO i:=by
 let g:∀b u,zej->uh:=λb u e z=>by rw[(f b z).1]at e;cases e
 refine I.step (g':=s.gens) (d':=s.drawn) (ch:=ch) (λb h=>qed f h) (λb o _ _ a e _=>An k a) (λb o _ _ a e _=>#[o.slots,An k a]) (λb o _ e n=>x b o e n)
  (λb o a e=>#[o,An k a]) (λb j e=>jf8) (λb o u e=>jf8) (λb C e=>#[#[],by rw[jf8];simp]) (jf m y) jLh I.bare
 ·show ŏ o A B t r y;show#[o,A,B,k _ o (λz=>qYd) t,r]
 ·cases q:H b with
  |none=>show new b u q e
  |some l=>
   rw[d b l q]at e;cases e;refine(I.hok b _ q).stay (zTc a p) (λc z=>jf7) λc j z=>jf7
   show AN a
   ·rw[z];show g b _ q
   ·show g c _ z
def Inv.turnedN(I:ß)(k:∀b o,uh->yz)(d:∀b∈ch,zI2)(a:qL7)(new:zac jlh T dt) :
  yO jlh:=by
 let c:=zj7 I a;refine I.turnedL k d (λb u e=>jX (JF e c) e) (λb o e n=>jX (λz=>by rw[z]at e;show ý AK (N6.mpr a)) n) (Ł b u n e)
 show zna z T e
 ·rw[Qu z,n]at e;cases e
#print"-"
abbrev Itv(K:Nj)(a:Addr)(n:Nat):It:=#[jwb,λi H x c=>c=H/\∀b,Tg b->b[n-1-i]?=sO x,zU9]
def Qgn{K:Nj}(a it:Addr)(n:Nat):Turn P w K tg (Itv K a n) [it] it (λi h=>i<=n/\h.IsRevIter it a (ũ-1-A5)) where
 mem:=Å
 obj:=λi h st b j=>by
  show zjj
 keep:=jUc m
 item:=by
  intro X r hw t M i f s D H E I l st q;subst r hw t;let#[hi,F,L,hl]:=q;let#[U,rv,p,hz]:=ϒ L;obtain⟨x,J⟩:∃x,F[n-1-i]?=sO x:=#[F[n-1-i]' ċ,Nn _]
  show(zYj S J,jkb);let e:ũ-1-A5=qSb:=ć
  show zhe;rw[e]at hit;refine wpAny_pyNext_rev_item hit p.isList (x:=u) zI3 (Õ m g Q);let e2:qSb-1=ũ-1-((i+1:Nat):Int):=Í
  rw[e2]at g;let I1:i3 f D m:=I.turned (t':=s.toks) (HW o j e Q) C f1 B A y;show(fF g,#[u,rfl,sX m #[x,H,I1,S,qx9 Y L J,#[hi,g],Sv j l]])
 done:=by
  intro X r hw t M i f s D H E I l st q;subst r hw t;show jkb;let Z:n<=i:=q;let e:ũ-1-A5=-1:=by let:=st.1;lia
  show zhe;rw[e]at hit;show wpAny_pyNext_rev_end (ye M) hit λm eb=>#[rfl,I.turned (t':=s.toks) (bu j) C f1 B A y]
 self:=λ_ _ _ _ _ st h=>L5 st.2 h
abbrev Qwo(K:Nj)(e:TA):TI:=λc H R=>e c H λd H1=>∃a b,d=yF/\xsj/\R (Itv K a b.length) H1
def Qnw{n a:Expr}(C:zO1)(A:zKa)(E:zhd r)(y:ur:=by rfl):PI X n qb6 (Qwo X.K r):=by
 show đ c j R;refine Call_ (Xc I C A boot_reversed (Ey (ņ (vh E c j) J f m) y rfl));show ς F v w m;let#[ad,g,e,z,q]:=w;subst e;show(Pv t v,qfd t x M z B);refine L5 (l:=ad) (i:=zAa-1) yB ?_;refine#[f.heap.objs.size,fH f,_,_,H1,rfl,pZ f,Qgn ad _ g.length,#[NO _,?_],Ô b D,q]
 ·refine#[_,ŭ,rfl,?_];let:((d.toArray.size:Nat):Int)-1=(g.length:Int)-1-CK:=by rw[Nz,B];simp
  rw[<-this];rfl
 ·show znc f D
#print"-L2"
namespace Mi
open L2
abbrev QdN(c:MA):MI:=λb h=>(c b h).bind λp=>match p.1 with
 |[À a]=>sO (a.reverse,nO,p.2)
 |[Ä n]=>match p.2[n]? with|qc a=>sO (a.reverse,sO jac,p.2)|_=>nO
 |_=>nO
section
variable{K:Nj}{R:Rn}
def Qh3(l:t5)(r:ύ):ItOk K R (Itv K a xs.length) ws.reverse nO where
 go:=λi w j h H x d _ e=>by
  let c:=Ü e;rw[ED,r.length]at c;show#[c,xs,zy3,rfl]
 yld:=λi w j h H x s e d _ g m=>by
  show BE n m;let c:=Ü g;rw[ED]at c;rw[LK c]at g;show Ϥ v q p r g;let:=n xs jY4;rw[<-r.length,q]at this;cases this;show#[j,CU,d,Su e p]
 stop:=λi j h H x d _ c=>by rw[ED,r.length]at c;show c
def Qft{ws:Ã}(o:n<R.N):ItOk K R (Itv K Ŏ ws.length) ws.reverse (sO jac) where
 go:=λi w m h H x b a e=>by
  let f:=Ü e;show jv7;rw[jd6]at d;show#[é f,g,yu d,c.length.symm]
 yld:=λi w m h H x s e b a l p=>by
  show(BE q p,jv7);rw[e.ρ n o]at d;let f:=Ü l;rw[ED]at f;rw[LK f]at l;show Ϥ v g1 g2 c l;let:=q g (SqL.of d);show(Bq g1,#[m,CU,b,g2])
 stop:=λi m h H x b _ a=>by rw[ED]at a;show a
#print"-"
section
variable{X:Cx}{tg a b:Expr}{ms:MA}{p pos tpos:Pos}{elts:ā}{kk:Nat}
def Qmd(A:zO1)(z:zKa)(B:tZ)(x:ur:=by rfl):MW qb6 (QdN ms):=
 YY (Qnw A z B x) λJ H C q=>by
  let#[R,i,h,items,t,M,w,st,e,k]:=q;show yM r F I d e #[R,i,h,r,F,w,st,I,CB L o c];split at d
  ·show(oB s g,zBd l);let f:=l;show(Š f,qz9 u,#[ad,j,rfl,SqL.of (c.sub _ _ hF),BU o c (Qh3 (SqL.of hF) u)])
  ·show oB n g;split at d
   ·rename_i s y;show(zBd l,zdc m j E D c l y);refine#[_,j,rfl,yu E,?_];show(u6 D,BU o c (Qft m))
   ·cases d
  ·cases d
#print"-"
section
variable{X:Cx}{k v:Expr}{mk mv:ME}{pos:Pos}
abbrev Qt7(a:W)(ws:Ã)(h:MH):Ú:=match a,ws with
 |Ä n,[]=>match h[n]? with|oa=>sO (.non,Ű zcc)|_=>nO
 |_,_=>nO
abbrev K1(ws:Ã)(h:MH):Ú:=match ws with
 |[a]=>(XT h a).map λb=>(ī,h++[.lst (b.map (·.1))])
 |_=>nO
def UK(hc:ĥ):zrg K1:=by
 intro L s σ H f us Q I r q;let#[R,h,ws,w,P,F,m,e,k]:=q;show vB K1 e
 ·show(pi a z e1 e2,Rb,CL y J m,Pv Z r,jD2 M D E F J,Cn u Z);let#[o,C,S,h1,h2,h3,N,_,h5]:=dd;let d:C.size=f.length:=L3 N;let A:=Ec E;refine O7 (zTh C S) kz #[o,h1,h2,h3] (Nh (Nh zei (İ A)) D) λP tk b c' kp eL c=>?_
  let hv:jG8 M:=by
   let:jD3:=by
    show jke B N
    ·show jka l1 l2
   rw[this];show Wu E
  show pQ;let#[R3,U,x,t]:=F.new (mo:=.lst (z.map (·.1))) (o:=À (M.map ki)) (p:=s.heap.objs.size) hp (ŗ R' Y #[_,rfl,Tf Y (We dr)])
  refine#[ϋ s,_,jqa P D,rfl,ϭ R3 U x t]
 ·cases e
#print"-"
#print"-Mi"
namespace St
def YD(t:SetTable)(n:Nat):(t.orStandIn n).led=t.led/\(fQ->(t.orStandIn n).plain=false):=by
 unfold SetTable.orStandIn;split
 show č #[rfl,id]
 show gm
def G6(t:SetTable)(es:jn)(g:Int)(x:Value):(layNew t es g x).2.1.led=t.led/\(fQ->(layNew t es g x).2.1.plain=false):=by
 unfold layNew;split
 ·show YD _ _
 show gm
def QeU(e:SetTable.laid m f v l p b=sO r):r.1.led=l/\r.1.plain=p:=by
 unfold SetTable.laid at e;let#[o,_,a]:=ģ e;show Χ a ś
def Wn(t:SetTable)(es:jn)(n:Nat):(relayAll t es n).2.1.led=t.led/\(fQ->(relayAll t es n).2.1.plain=false):=by
 unfold relayAll;split
 ·rename_i b c e;let hk:=QeU e;show jg3
  show č #[hk.1,λa=>hk.2.trans a]
  show gm
 show gm
section
variable{prog:Program}{w:World}{A:Around}{E:Ñ}{s:Shared}
abbrev SetL(prog:Program)(w:World)(h:Heap)(a:Addr)(ks:Â)(led:Bool):Prop:=
 ∃o b c t,B8/\o.ExactSet/\qSd/\ql7 b/\b.size<scanBound/\t.fits b.size=true/\t.led=led/\(b.size=0\/fQ)/\ks.Nodup/\qVh/\∀k,Mr↔∃e∈b.toList,mx
def SetL.at{h h':Heap}{a:Addr}{ks:Â}{led:Bool}(x:zM6 h)(e:l8):zM6 h':=jre
def SetL.lt{h:Heap}{a:Addr}{ks:Â}{led:Bool}(x:zM6 h):zQ5:=by let#[_,_,_,_,b,_]:=x;show NN b
def stored{h:Heap}{o:Obj}(f:B8)(d:o.ExactSet)(hd:Cu)(h1:ElemsOf qh1 es'.toList)(h2:es'.size<scanBound)(m:t'.fits es'.size=true)(l:es'.size=0\/t'.plain=false)(j:ks.Nodup)(i:es'.size=ks.length)(g:∀k,Mr↔∃e∈es'.toList,mx) :
  oV/\zza/\(∃b,zxd)/\SetL prog w (h.update a jY5) a ks t'.led:=by
 let g1:oV:=Ep _ f qwb;show(ju6 d c,#[g1,g2,ĺ b c,_,es',b,t',g1,g2,c,h1,h2,m,rfl,l,j,i,g])
def QiU(x:Str)(c:Tok):qh2:=by
 apply Value.isStrOf x Ta=true;simp[Value.isStrOf]
def QvW{a:Addr}{ks:Â}{led:Bool}{x:Str}{c:Tok}{Q:Cb}(hS:SetL prog w s.heap a ks led)(room:xv8<scanBound)
  (h:∀b h',Bg a->SetL prog w h' a (if x∈ks then ks else jde) led->v9 b h') :
  ä (setAddHashed a Ta PK):=by
 let#[o,J,ep,t,X,hx,hd,y,hb,hf,m,ab,Y,hn,i]:=hS;let hk:qh2:=QiU x c;let H:(Value.str x c).scannable=true:=rfl;let quiet:∀(b:Bool) {B:Shared} {D:qa},D () B->Ϩ Ĝ (match b with|true=>qp6|false=>jgb) D B:=λb _ _ q=>by cases b<;>first|show Nl q|show Dy q
 refine N7 (Na (E7 X hd hf ?_));dsimp only;rw[byScan_of H hb y,į];show Æ (Na (Dy (Na (wpAny_setScan_of hk X hd hf y ?_))));cases hr:List.findIdx? (λe=>qVi x) J.toList with
 |some j=>
  let#[hj,pj,_]:=Dn.mp hr;let f:x∈ks:=(i x).mpr #[J.toList[j],Ff hj,pj];show Ν ζ;let q:=h false s.heap (YbH a s.heap) #[o,J,ep,t,X,hx,hd,y,hb,hf,m,ab,zrh f Y,by rw[Ò f];show hn,zrh f i];show q
 | none=>
  let f:x∉ks:=λf=>by
   let#[e,z,p]:=(i x).mp f;let:=IP.mp hr e z;show Bq p
  rw[Ó f]at h;let pm:=layNew_perm t J PK Ta;let ft:=layNew_fits t J PK Ta;let kp:=G6 t J PK Ta;generalize layNew t J PK Ta=L at pm ft kp ⊢;let#[d,t1,ae,gv]:=L;dsimp only at pm ft kp ⊢;rw[Lr]at pm;let aa:ql7 d:=(y.push hk H).perm pm;let F:d.size=(ks++[x]).length:=by rw[<-NP,pm.length_eq,NJ,NP,NJ,hn];rfl
  let b1:d.size<scanBound:=by rw[F,NJ,Er];show room
  let U:(ks++[x]).Nodup:=by
   rw[Ek];show#[Y,Å,jW3 f]
  let C:∀k,k∈jde↔∃e∈d.toList,mx:=λk=>by
   rw[NI,ND,i k];constructor
   ·rintro(⟨e,z,p⟩|rfl)
    show č #[e,pm.mem_iff.mpr wM,p]
    show č #[_,pm.mem_iff.mpr ja3,hk]
   ·rintro⟨e,z,p⟩
    show γ (pm.mem_iff.mp z) q
    ·show Ğ (Ŷ e q p)
    ·rw[ĸ q]at p;show ê ((strKind prog w).inj _ _ _ p hk)
  let fin:∀(g:SetTable),g.fits d.size=true->g.led=led->g.plain=false->wpAny Ĝ A (do
    storeSet a d g
    if(!ae&&g.tooFull)=true then do
      (match (relayAll g d qD).2.2 with|true=>qp6|false=>jgb)
      storeSet a (relayAll g d qD).1 (relayAll g d qD).2.1
      xd2
     else xd2) (λr P=>∃v,jxf) E s:=by
   intro g f2 l2 p2;show Æ (Lu X hd ?_ (fits_of_scanBound b1));let#[g1,g2,#[ah,g3],g4]:=stored (prog:=prog) (w:=w) X hx hd aa b1 f2 (Ė p2) U F C;rw[l2]at g4;let sb:=N0 s.heap a (Obj.putSet d g);split
   ·let l:=relayAll_perm g d qD;let I:=relayAll_fits g d qD;let n:=Wn g d qD;generalize relayAll g d qD=R at l I n ⊢;let#[Z,t3,af]:=R;dsimp only at l I n ⊢;let N:Z.size=d.size:=qSe l
    let b2:Z.size<scanBound:=BD N b1
    show ı (quiet _ (Na (Lu g1 g3 (jK #[true,rfl,_,sb.trans (N0 _ a _),?_,rfl]) (fits_of_scanBound b2))));let#[_,_,_,g5]:=stored (prog:=prog) (w:=w) (ks:=jde) g1 g2 g3 (aa.perm l) b2 I (Ė (n.2 p2)) U (Ē N F) (λk=>(C k).trans #[AY #[e,z,q] #[e,l.mem_iff.mpr z,q],AY #[e,z,q] #[e,l.mem_iff.mp z,q]]);rw[n.1,l2]at g5;show g5
   ·show ħ #[true,rfl,_,sb,g4,rfl]
  let S:∀r P,(∃v,jxf)->Ϩ Ĝ (match r with|ã M=>pure M|none=>setAddHashedIn a Ta PK 99999) Q P:=by
   rintro r P ⟨v,rfl,h',q1,q2,rfl⟩
   show ħ (h v h' q1 q2)
  show Æ (quiet _ ?_);cases hp:t1.plain with
  |true=>
   rw[į,hashByValue_scannable 8 H];show(Æ ζ,Ej (fin { t1 with plain:=false } (SetTable.fits_plain_off ft) qVj rfl) S yI)
  |false=>
   show(jR,Æ ζ,Ej (fin t1 ft qVj hp) S yI)
#print"-"
abbrev uniq(l:Â):Â:=jW6
def uniq_snoc(l:Â)(x:Str):uniq zX6=if x∈zi7 then zi7 else zi7++[x]:=by unfold uniq;rw[Lv];rfl
def QgT:∀(n:Nat) (l:Â),xm->(uniq l).length<=n:=by
 intro n
 induction n with
 |zero=>show(zlh,Nw _)
 |succ n a=>
  show zu1
  rw[uniq_snoc];let:=a u nv;split
  ·show Nh this Ω
  ·rw[NJ,Er];show N8 this _
def uniq_mem:∀(n:Nat) (l:Â),xm->∀y,y∈zi7↔y∈l:=by
 intro n
 induction n with
 |zero=>intro l h y;rw[zS6];show Iff.rfl
 |succ n a=>
  intro l h y;show jO8
  let q:=a u nv;rw[uniq_snoc,NI,ND];split
  ·rename_i b;rw[q y];show#[.inl,λz=>z.elim id λe=>by rw[e];show(q x).mp b]
  ·rw[NI,ND,q y]
section
variable{prog:Program}{w:World}{A:Around}{R:cF}{I:Addr}{fp wr:Κ}{G:jN0}{n:Nat}{P:zli}{St':zla}
def Qr8(W:qmi)(S:Addr)(f:S∉fp)(led:Bool)(l:Â)(F:xm)(E:∀i v,P i v->∃x c,l[i]?=sO x/\zX0)(M:n+1<scanBound) :
  ∀(k i:Nat) (s:Shared),n-i=k->i<=n->St' i s->jc9 s qui ->
   (∀a,qza->jc9 a (uniq l)->R zB9 a) ->
   jQf:=by
 show jY0 B
 induction k with
 |zero=>
  intro i s hk H st hS t;show jq5 t F B
 | succ k C=>
  intro i s hk H st hS t;show jyd;show Æ (W.item i s _ _ lt st λv a J g d=>?_);let#[x,c,D,rfl]:=E i v J;let r:jc9 a qui:=zB8 B;apply wpAny _ A.in1 (holding [jee c] (setAdd S Ta)>>=_) _ _ a;show Æ zfj;refine N7 (Na ((strKind prog w).pyHash (k:=x) (QiU x c) ?_))
  let room:(uniq Rt).length+1<scanBound:=by
   let:=QgT _ Rt rfl;rw[Ez]at this;lia
  refine QvW (s:={ a with toks:=a.toks+1 }) r room (Ł b L y p)
  let m:SetL prog w L S (uniq qW0) led:=by
   rw[E8,D,Fm,uniq_snoc];show p
  show Ν #[DN DD _,C (i+1) _ É lt (W.frame _ a _ _ g Mh jI6) m (Õ h j q)]
  ·show Bz y b (λu:b=S=>f (S6 u z)) e
  ·refine t h (Moved.trans W.gtrans ((d.mono sub).then_heap Mh jI7) j) q;show jm9 y u
#print"-"
section
variable{prog:Program}{w:World}{A:Around}{E:Ñ}{s:Shared}
noncomputable abbrev ledW(w:World):Bool:=! zx7
noncomputable abbrev emptySet(b:Bool):Obj:={ cls:=xv9,dict:=nO,data:=.set #[] 0 (.fresh 0 0 b) }
def newL(a:Value)(h:Q₁ ϴ { s with heap:=jI8 }) :
  nU (.call (.builtin "set.__new__") zF1) (wants Q₁ E) s:=by
 refine Yam (show wpAny _ A.in1 (do checkBuiltinCall "set.__new__" zF1;again (.builtin "set.__new__" zF1)) _ _ s from ?_);show ı (Yaz (F.newCall_set_1 a) (jK #[DN F.plain_set_new _,E1 (F.entry_set_new) ?_]));rw[EX F.plain_set_new _];unfold Builtin.«set.__new__» Builtin.Frozenset.newClass;let b:=sub_set_self;show fu c
 wp_walk
 refine FN ζ;show Na (wpAny_alloc qO2)
def QbO(e:ő a=sO (emptySet b)):SetL prog w h a [] b:=
 #[_,#[],0,_,e,v7,rfl,λx c=>ϥ c,ÿ,rfl,rfl,SH,EN,rfl,λk=>Å]
def QrZ{Q:Ñ}(S:Ζ)(P:nM)(hi:xi3 r)(U:qF3)
  (h:∀(h':Heap) (tk:Nat),qqa (uniq r)->jpi) :
  jQ1 A (jVi y):=by
 let hS:jSe:=ŭ;let hT:jRf:=zP8
 let#[ol,j,q,nl,p]:=P;let#[J,f,B,a]:=ol;simp only at q p;subst q p;let g:(s.heap.push zvi).get? l=sO { cls:=Ę,dict:=f,data:=jJj,slots:=a }:=Ŗ j;let n:(s.heap.push zvi).IsList l items:=jma g
 show jxg;let n3:(qSf==jD4)=false:=ÿ
 show job I n;let m:qp3:=NN j;let d:zy6=uP:=DR _ _;let C:l≠zy6:=lz d (E9 m)
 let M:s.heap.objs.size∉[zy6,l]:=by
  rw[d];show(zFg,#[NL Af,EK m])
 let D:r.length=items.size:=by let:=YaL hi;rw[NP]at this;show this.symm
 let N:∀(i:Nat) (v:Value),zl9->∃x c,r[i]?=sO x/\zX0:=λi v e=>by
  let L:items.toList[i]?=sO v:=jD5
  let#[x,c,rfl]:=hi.all v (j4 i L);refine#[x,c,?_,rfl];rw[<-hi.strs,Nt,L];rfl
 refine Qr8 ((OV (show iB by simp[S]) _ l C items).toS) s.heap.objs.size M sM r D N U zO2 0 _ rfl Ŋ #[yB,n.push _] (QbO jmb) (Õ y t H);show ŏ h' X d' u z y;let Z:X=s.gens:=t.gens;let ed:d'=s.drawn:=t.drawn;let Y:z=s.os:=t.os;subst Z ed Y;show Ν (jK #[rfl,h h' u H λb o lt e=>?_]);refine t.heap b o ?_ (Np _ Tm);show(zFg,#[NL lt,lz d (E9 lt)])
def set_list(x:Ζ)(v:nM)(hi:xi3 u)(y:qF3)
  (h:∀(h':Heap) (tk:Nat),qqa (uniq u)->jpi) :
  ä (call xa0 [Ä l]):=by
 let body:∀(m:Around),m.handled=nO->jQ1 m (jVi n):=by
  intro m B;show QrZ B v hi y h
 show jsc p;refine YaU (Yam (show ż (callAny xa0 _) from ?_));show Ν #[qj7,jqi];rw[Ybs (YaM "set" [jQ l] []) rfl];show jrf (vM l)
 show sR
 refine Fk (newL (vM l) (E:=E) (Q₁:=λobj f=>zu2/\f={ s with heap:=jI8 }) ś) (Õ r f j);cases r with
 |error e=>show j
 | ok C=>
  cases C with
  | ret obj=>
   show uX j;let hS:jSe:=ŭ;let z:jRf:=zP8
   show jxh ϴ
   show sR
   refine Fk (Ya1 (R:=wants (λr d=>r=.none/\Q ϴ d) E) E4.init.plain F.entry_set_init (check_set_init_1 z (Ej (body _ (ϟ x)) jD6 yI))) (Õ i d a)
   ·show(Th q,zZ1)
   ·cases i with
    |error e=>show a
    | ok g=>
     cases g with
     |ret r=>
      show BE q a
      show sR
     |_=>show C7 a
  |_=>show C7 j
#print"-"
def slotN:Slot "set_iterator" "__next__" "set_iterator.__next__":=.of (owner:="set_iterator") (n:="__next__") jI9 Ay Ay Ay js4 nw
def Qji:entryFor table "set_iterator.__next__"=sO Builtin.«set_iterator.__next__»:=jB0
def QoE(a:Value):argsOk "set_iterator.__next__" xma:=xi4
def Qom:entryFor table "set.__iter__"=sO Builtin.«frozenset.__iter__»:=entryFor_alias (id':="frozenset.__iter__") qY rfl Ay qY
def Y5(lt:j<l.length):List.Perm (l[j]::l.eraseIdx j) l:=by
 rw[List.eraseIdx_eq_take_drop_succ];let e:l=l.take j++l[j]::l.drop (j+1):=by rw[<-EF lt,Ir]
 conv=>rhs;rw[e]
 show YbV.symm
def QkZ(nx:xS):∀(f k:Nat) (l:Ø a) (o:jgd),f=l.length->List.Perm (pickOrder.go nx f k l o).toList (o.toList++l):=by
 intro f
 induction f with
 |zero=>
  intro k l o h;rw[EC.mp h.symm,EM];show .rfl
 |succ f b=>
  intro k l o h;unfold pickOrder.go;let lt:xi5<l.length:=OW _ (Nf zcj (Nv h));generalize xi5=j at lt;rw[Nn lt];refine(b (k+1) (l.eraseIdx j) (o.push l[j]) (by rw[OA lt];lia)).trans ?_;rw[Lr,EH,List.singleton_append];show List.Perm.append_left _ (Y5 lt)
def QdT(nx:xS)(xs:jgd):List.Perm (pickOrder nx xs).toList xs.toList:=by
 let:=QkZ nx xs.size 0 xs.toList #[] Ç;simpa[pickOrder]using this
section
variable{prog:Program}{w:World}{A:Around}{E:Ñ}{s:Shared}
def Qpp(a:n≠0)(h:∀j d,j<n->xd3 j):Ϩ M (choose src n) Q s:=λb p _=>by
 apply Sem.wp M b (.choose src n λi=>pure i) _ _ p s;rw[Sem.wp_choose];show#[a,h _ _ (OW _ (DT a))]
def Uc:∀(n:Nat) (xs:Ø c) (s:Shared) (Q:Ø c->Ϸ),n=xs.length->(∀b d,List.Perm b xs->xd3 b)->ä (drawOrder n xs)
 |0,xs,s,Q,a,h=>by
  let e:=EC.mp a.symm;subst e;show ħ (h [] s.drawn .rfl)
 |n+1,[],s,Q,a,h=>AS a
 |n+1,x::xs,s,Q,a,h=>by
  show ı (Qpp Ç λj f lt=>?_);rw[Nn lt];show Æ (Uc n _ _ _ (by rw[OA lt];show(BW a,a)) λb d p=>Nl (h _ d ?_));show(p.cons _).trans (Y5 lt)
#print"-"
#print"-St"
namespace Sb
open PySem SetTable
noncomputable abbrev At(xs:jah)(i:Nat):Nat:=xs.getD i 0
abbrev Up(xs:jah):Prop:=∀i j,i<j->j<xs.size->vL<At xs j
def Qis(up:Up xs):∀(f lo hi:Nat),hi-lo<=f->lo<=hi->hi<=xs.size->(∀i,i<lo->vL<j)->(∀i,hi<=i->zsd) ->
  zH5<=xs.size/\(∀i,i<zH5->vL<j)/\∀i,zH5<=i->zsd:=by
 intro f
 induction f with
 |zero=>
  intro lo hi s q l h g;let:lo=hi:=Í
  show jEa
 | succ f p=>
  intro lo hi s q l h g;unfold below.go
  by_cases c:lo<hi
  ·rw[Ò c];let o:zWd/2<xs.size:=Í
   let e:xs.getD xNh j=qwc:=by simp[Array.getD,o]
   let rel:∀a b,a<=b->b<xs.size->At xs a<=At xs b:=λa b n m=>by
    show y7 a b z
    ·show Nq (up a b z m)
    ·rw[show a=b by show EZ n z];show Nw _
   dsimp only;rw[e]
   by_cases d:qwc<j
   ·rw[Ò d];show p _ hi ċ É l (λi r=>Ni (rel i _ É o) d) g
   ·rw[Ó d];show p lo _ ċ É (Nq o) h (λi n m=>Nh (jE d) (rel _ i n m))
  ·rw[Ó c];let:lo=hi:=by show EZ q (jE c)
   show jEa
def XR(up:Up xs)(j:Nat):zbh<=xs.size/\(∀i,i<zbh->vL<j)/\∀i,zbh<=i->zsd:=
 Qis up xs.size 0 xs.size T0 Ŋ Č (λi h=>Sk h) (λi b a=>Í)
def Qim(up:Up xs)(hi:So):below xs zcd=i:=by
 let#[c,b,a]:=XR up zcd
 show M7 (below xs zcd) i
 ·let:=a _ Č (NZ z hi);let:=up _ _ z hi;omega
 ·show z
 ·show ý (b i z) vP
def below_next(up:Up xs)(hi:So):below xs zlj=i+1:=by
 let#[c,b,a]:=XR up zlj
 show M7 (below xs zlj) (i+1)
 ·let:=a i ċ hi;lia
 ·show z
 ·let:=b (i+1) z;let:=up i (i+1) Af (Nf z c);omega
def below_zero(up:Up xs):below xs 0=0:=by
 let#[c,a,b]:=XR up 0
 rcases Nat.eq_zero_or_pos (below xs 0)with z|z
 ·show z
 ·show ý (a 0 z) fD
def at_get(hi:So):xs[i]?=sO zcd:=by simp[Array.getD,hi]
def mem_at:j∈xs.toList↔∃i,So/\vL=j:=by
 rw[NH];constructor
 ·rintro⟨i,a⟩
  rw[NT]at a;let b:So:=xva;rw[at_get b]at a;show#[i,b,N4 a]
 ·rintro⟨i,a,e⟩
  show#[i,by rw[NT,at_get a,e]]
def Uw{t:SetTable}(up:Up t.place)(hi:xd5):t.slot qW2=.live i:=by
 unfold slot;dsimp only;rw[Qim up hi,at_get hi];simp
def Qb4{t:SetTable}(hd:xi6)(a:j∉t.place.toList):t.slot j=.empty:=by
 unfold slot;dsimp only
 let:(t.place[xa1]?==sO j)=false:=by
  rw[beq_eq_false_iff_ne];intro z;refine a (NH.mpr #[xa1,?_]);rw[NT];show z
 rw[this,hd];rfl
abbrev adv(m:Nat)(p:Probe):Probe:=
 if p.more>0 then { p with j:=p.j+1,more:=p.more-1 }else
 let(i,perturb):=leap m p.i p.perturb
 { p with j:=i,more:=Tl-i,i,perturb }
def Qbr(t:SetTable)(p:Probe):t.advance p=adv t.mask p:=rfl
abbrev sq(m:Nat)(h:Int):Nat->Probe
 |0=>{ j:=tG,more:=runEnd m nV-tG,i:=tG,perturb:=Mt,dummy:=nO }
 |n+1=>adv m zJ7
noncomputable abbrev sj(m:Nat)(h:Int)(n:Nat):Nat:=aJ
abbrev bk(m:Nat)(h:Int):Nat->jy
 |0=>(tG,Mt)
 |k+1=>leap m ό iU
abbrev pSq(m:Nat)(h:Int):xS
 |0=>0
 |k+1=>zwc
def QiL(m:Nat)(h:Int)(n i a:Nat)(e:sq m h n={ j:=i,more:=Tl-i,i:=i,perturb:=a,dummy:=nO }):∀c,c<=Tl-i->sq m h (n+c)={ j:=i+c,more:=Tl-i-c,i:=i,perturb:=a,dummy:=nO }:=by
 intro c
 induction c with
 |zero=>
  intro _;show e
 |succ c b=>
  intro d;rw[show n+(c+1)=(n+c)+1 from rfl];apply adv m (sq m h (n+c))=_;rw[b SR];unfold adv;show Ŕ (by apply Tl-i-c>0;omega);rfl
def Qsu(m:Nat)(h:Int):∀k,sq m h zN8={ j:=ό,more:=HI,i:=ό,perturb:=iU,dummy:=nO }:=by
 intro k
 induction k with
 |zero=>
  show rfl
 |succ k a=>
  apply adv m (sq m h (AH+(gE-ό)))=_;rw[QiL m h _ _ _ (a) _ Č];unfold adv;rw[if_neg (by apply¬(HI-(gE-ό)>0);lia)];rfl
def Qgc(m:Nat)(h:Int)(k c:Nat)(a:c<=HI):sj m h zm0=ό+c:=by
 apply(sq m h zm0).j=_;rw[QiL m h _ _ _ (Qsu m h k) c a]
def Qh4(m:Nat)(h:Int):∀n,(sq m h n).dummy=nO:=by
 intro n
 induction n with
 |zero=>
  show rfl
 |succ n a=>
  apply(adv m zJ7).dummy=nO;unfold adv;split
  ·show a
  ·show a
def QpO(m i:Nat):Tl-i<=9:=quj
def QaU(m i:Nat):i<=Tl:=quj
def Qdd(hi:i<=m):Tl<=m:=by unfold runEnd;split<;>omega
def Qtx(m:Nat)(h:Int):∀k,AH<=10*k:=by
 intro k
 induction k with
 |zero=>
  show Nw _
 |succ k a=>
  let:=a;let:=QpO m ό;apply zwc<=_;lia
def Qj1(m:Nat)(h:Int):∀k,ό<=m:=by
 intro k
 induction k with
 |zero=>
  show qH8
 |succ k a=>
  show qH8
def QrI(m:Nat)(h:Int):∀k,iU=Mt/32^k:=by
 intro k
 induction k with
 |zero=>
  show(Nat.div_one _).symm
 |succ k a=>
  apply iU/32=_;rw[a,Nat.div_div_eq_div_mul,Nat.pow_succ]
def Qm2(h:Int):Mt<2^64:=by
 unfold bits;let:=DU h (show jz<2^64 by decide);let:=DG h (show(jge^64)≠0 by decide);lia
def QoW(m:Nat)(h:Int)(hk:13<=k):iU=0:=by
 rw[QrI];refine' O8;let:=Qm2 h;let b:32^13<=32^k:=Ya2 Ð hk;let a:(2:Nat)^64<=32^13:=ÿ
 show Nf (Nf this a) b
abbrev lcg(m:Nat):Nat->xS
 |0,i=>i
 |r+1,i=>(zX r*5+1)%(m+1)
def Qqt(m:Nat)(h:Int):∀r,qF4=lcg m r (bk m h 12).1:=by
 intro r
 induction r with
 |zero=>
  show rfl
 |succ r a=>
  apply(qF4*5+1+qzb)%(m+1)=_;rw[a];let:qzb=0:=QoW m h (k:=12+r+1) É;show Ξ
def W4(m:Nat)(a i:Nat):∀b,zX (a+b)=lcg m b (lcg m a i):=by
 intro b
 induction b with
 |zero=>
  show rfl
 |succ b c=>
  apply(zX (a+b)*5+1)%(m+1)=_;rw[c];rfl
abbrev orb(m:Nat):Nat->Nat->Ê
 |0,_=>[]
 |r+1,i=>i::orb m r ((i*5+1)%(m+1))
def QlO(m i:Nat):lcg m 1 i=(i*5+1)%(m+1):=rfl
def Qmb(m:Nat):∀(r i x:Nat),x∈orb m r i->∃b,b<r/\zX b=x:=by
 intro r
 induction r with
 |zero=>
  intro _ _ h;show MP h
 |succ r a=>
  intro i x h
  show Ņ h
  show č #[0,zQi,rfl]
  ·let#[b,c,e]:=a _ x h;refine#[1+b,Í,?_];rw[W4,QlO];show e
abbrev Wr(m:Nat):Prop:=(List.range (m+1)).all (λx=>(orb m (m+1) 0).contains x)=true/\lcg m (m+1) 0=0
def QrK:Wr 7:=mM
def Qjs:Wr 31:=mM
def QcL:Wr 127:=mM
def Qep:Wr 511:=mM
def Qbh(F:Wr m)(a:x<=m):∃b,b<m+1/\lcg m b 0=x:=by
 let:=D9.mp F.1 x (Ef.mpr (Ni a Af));rw[YaI]at this;show Qmb m _ _ _ this
def Qlw(F:Wr m)(hi:i<=m)(c:x<=m):∃r,r<m+1/\zX r=x:=by
 let#[a,e,rfl]:=Qbh F hi;let#[b,d,rfl]:=Qbh F c
 by_cases h:a<=b
 show č #[b-a,by show jdg d,by rw[<-W4];congr 1;show Eu h]
 ·refine#[m+1-a+b,Í,?_];rw[<-W4,show a+(m+1-a+b)=(m+1)+b by lia,W4,F.2]
def Qfh(F:Wr m)(h:Int)(a:x<=m):∃k,k<=m+12/\ό=x:=by
 let#[r,b,e]:=Qlw F (Qj1 m h 12) a;show#[12+r,Í,(Qqt m h r).trans e]
def Qlq[BEq a][LawfulBEq a]:∀(l k:Ø a),l.Nodup->(∀x∈l,x∈k)->l.length<=k.length:=by
 intro l
 induction l with
 |nil=>
  intro _ _ _;show NO _
 |cons x l d=>
  intro k nd c;rw[Eo]at nd;let hk:=c x NA;let:=d (k.erase x) nd.2 λy b=>qf3 (c y zle);show xoc;let:0<k.length:=Ia hk;simp only[NS];lia
def Qjj{l:Ê}(b:zU8):∃x,x<=m/\x∉l:=by
 refine Dw (è z);let:=Qlq qBb l Fh λx a=>Dw λy=>z #[x,by let:=jgf;lia,y];rw[FE]at this;show IC b this
def Qcs(F:Wr m)(h:Int){l:Ê}(o:zU8):∃N,N<=10*(m+12)/\jz5:=by
 let#[x,j,d]:=Qjj o;let#[k,hk,e]:=Qfh F h j
 let q:sj m h zN8∉l:=by
  let:=qD9;rw[O5,O5,e]at this;rw[this];show d
 let r:=Qtx m h k
 let:∀n,vX∉l->∃N,N<=n/\jz5:=by
  intro n
  induction n using Nat.strongRecOn with
  |ind n i=>
   intro d
   by_cases c:∃a,a<n/\sj m h a∉l
   ·show Ů a g p c;let#[N,f,q2,q3]:=i a g p;show#[N,by show Nq (Ni f g),q2,q3]
   show č #[n,Nw _,d,λa b=>Dw (jI c (Ŷ a b z))]
 let#[N,f,q2,q3]:=this _ q;show#[N,Í,q2,q3]
#print"-Sb"
namespace St
def Qi0:Slot "set_iterator" "__iter__" "set_iterator.__iter__":=.of (owner:="set_iterator") (n:="__iter__") jI9 Ay Ay Ay js4 nw
def Qm8:entryFor table "set_iterator.__iter__"=sO Builtin.«dict_keyiterator.__iter__»:=entryFor_alias (id':="dict_keyiterator.__iter__") qY rfl Ay qY
def Qpw(a:Value):argsOk "set_iterator.__iter__" xma:=xi4
section
variable{prog:Program}{w:World}{A:Around}{E:Ñ}{s:Shared}
noncomputable abbrev Qg0(f:Value)(i:Nat)(S:Addr)(n ep:Nat):Obj:={ cls:=zI9,data:=.fields jxi }
inductive How(w:World)(S T:Addr)(h:Heap)(es:jn)(ep:Nat)(t:SetTable)(vs:Ë):zli where
 |tup {i:Nat} {pSq:Ê} (hT:ő T=sO { cls:=AA,data:=.seq (qdc p) 0 }) (hl:pSq.length=vs.length) (hp:∀(j p:Nat),pSq[j]?=sO p->∃e,xv6/\vs[j]?=sO e.2):f0 h (ú T)
 |text {i:Nat} (c:Nat) (hb:k5=true) (hv:vs=(pickOrder zEa es).toList.map (·.2)):f0 h xod
 |slots {i:Nat} (c:Nat) (hb:k5=false) (hled:zY4) (hs:PN) (hv:vs=es.toList.map (·.2)) (hc:zF2=i):f0 h xod
abbrev ItT(w:World)(I S T:Addr)(vs:Ë)(i:Nat)(h:Heap):Prop:=
 ∃f o a b t,ő I=sO (Qg0 f i S vs.length b)/\ő S=sO o/\o.data=.set a b t/\t.fits a.size=true/\(xoe\/a.size<=1->fR)/\a.size=vs.length/\How w S T h a b t vs i f
def Qbe{t:SetTable}(a:xi7):t.place.size=n:=by
 simp only[SetTable.fits,Eh,beq_iff_eq]at a;show a.1
def How.keep(x:f0 h f)(k:∀o,qt T o):f0 h' f:=by
 cases x with
 |tup m j g=>show .tup (k _ m) j g
 |text c d b=>show .text c d b
 |slots c d a e b l=>show .slots c d a e b l
def Qj6(k:Nat):rawInt Ň=Value.int k 0:=rfl
def Qvu:(xof:Ķ).setIfInBounds 0 x=#[x,a,b,c,d,]:=Mp
def Qwa:(xof:Ķ).setIfInBounds 1 x=#[f,x,b,c,d,]:=Mp
def Qbf{h:Heap}(e:ő I=qM7)(k:Nat)(x:Value):(h.update I (Obj.mapFields (·.setIfInBounds k x))).get? I=sO { cls:=zI9,data:=.fields ((jxi:Ķ).setIfInBounds k x) }:=Ep _ e rfl
def Qwc{h:Heap}(e:ő I=qM7):((h.update I (Obj.mapFields (·.setIfInBounds 0 x))).update I (Obj.mapFields (·.setIfInBounds 1 y))).get? I=sO { cls:=zI9,data:=.fields #[x,y,Ä S,zhf n,zRb,] }:=by
 let g1:=Qbf e 0 x;rw[Qvu]at g1;show Ep (Obj.mapFields (·.setIfInBounds 1 y)) g1 rfl
def Ki(f:ue)(d:Cu)(b:uM)(a:k5=true)
  (h:Q (((pickOrder zEa es)[i]?).map λe=>(e.2,c)) s):ä qJf:=by
 show(jtf,jR,jC,jtf,Æ qkd,Nl h)
def Wl(d:ue)(c:Cu)(b:uM)(a:xv6)(h:Q e.2 s):ä (setNextDrawn S p ep):=by
 show Æ (E7 d c b ?_);dsimp only;rw[if_neg Ç,a];show Nl h
def XO(g:ue)(f:Cu)(e:uM)(d:k5=false)(a:zY4)(b:PN)
  (h:Q (match es[zF2]?,t.place[zF2]? with|some (_,x),sO j=>sO (x,j+1)|_,_=>nO) s):ä qJf:=by
 show(Æ (E7 g f e ?_),Æ qh6);apply ż jR0;rw[zv2 d];apply ż (BF qk1)
 rw[if_neg (by
  show AN b
  ·rw[z];simp
  ·show jIa)]
 apply ż ((if(!t.led&&!es.isEmpty)=true then unsupported "set:maker-not-led"else jgb)>>=_);rw[zv2 a];show Na qO2
def QcS{i:Nat}(F:S≠I)(D:T≠I)(st:qDa)(hi:zUc)
  (Y:∀v h',aS->ItT w I S T vs (i+1) h'->Bg I->v9 θ h'):ä qx8:=by
 let#[f,o,m,H,t,l,r,n,j,up,d,hw]:=st;show jr3 X l n j;let two:∀(x y:Value),Heap.SameBut I s.heap ((s.heap.update I (Obj.mapFields (·.setIfInBounds 0 x))).update I (Obj.mapFields (·.setIfInBounds 1 y))):=λx y=>(N0 ..).trans iF
 let on:∀(x:Value) (nx:Nat),vs[i]?=sO x->How w S T s.heap m H t vs (i+1) (.int nx 0)->wpAny Ĝ A.in1 (do
   setField zlg 0 (rawInt (nx:Int))
   qo8 zlg
   ret x) (λfin J=>∃v,jQ5 J) (zva J) s:=by
  intro x nx hx L;show ı (DB l rfl Ç (Na (DB (Qbf l 0 _) rfl Ç (jK #[x,rfl,Nl (Y x _ hx ?_ (two _ _))]))));refine#[.int nx 0,o,m,H,t,Qwc l,?_,n,j,up,d,L.keep (Ô Z e)]
  ·rw[(two _ _).2 S F];show r
  ·rw[(two _ _).2 T D];show e
 cases hw with
 |@tup pSq C U P=>
  show jB1 C;let h:pSq[i]?=sO pSq[i]:=Nn (Nf hi (İ U));generalize pSq[i]=q at h;let#[e,he,u]:=P i q h;let:((pSq.map zJ8).toArray)[i]?=sO (Value.int ze4 0):=by simp[h,Qj6]
  rw[this];show ı (Wl r n j (p:=q) he (Na (DB l rfl Ç (jK #[e.2,rfl,Nl (Y e.2 _ u ?_ iF)]))));let N:Heap.SameBut I s.heap (s.heap.update I (Obj.mapFields (·.setIfInBounds 1 sT))):=N0 ..;refine#[Ä T,o,m,H,t,?_,by rw[N.2 S F];show r,n,j,up,d,How.keep (.tup C U P) λZ e=>fk N T D];let g:=Qbf l 1 sT;rw[Qwa]at g;show g
 |text c B u=>
  show(jgg,Æ (Ki r n j (i:=i) (c:=c) B ?_));subst u;let a:i<(pickOrder (xog H) m).size:=zLd
  rw[NR a];show on _ c qzc (.text c B rfl)
 |slots c B b M u hc=>
  show Æ (XO r n j (i:=i) (c:=c) B b M ?_);subst u;let a:i<m.size:=zLd
  let z:xd5:=by rw[Qbe j];show a
  rw[hc,NR a,Sb.at_get z];show on m[i].2 (Sb.At t.place i+1) qzc (.slots _ B b M rfl (Sb.below_next (up M) z))
def Qa1(d:B.handled=nO)(f:∀h',HG->zF0) :
  iu B (qdb>>=raiseNew) (jEb c) (zva c) s:=by
 show(jC,jA8);rw[d];show(Æ qD7,HQ (Iw (T:="StopIteration") (b:=true) gR isSubtype_stop ?_),Ν (f _ ?_));show λb o e=>Ŗ Tm
def WO(F:Ζ)(L:S≠I)(J:T≠I)(st:ItT w I S T vs vs.length s.heap)
  (y:∀h',Heap.ExtBut I s.heap h'->zF0):ä qx8:=by
 let#[f,o,B,M,t,h,r,q,n,up,d,hw]:=st;show jr3 x h q n;let z:iB:=F
 let one:wpAny Ĝ A.in1 (do
   setField zlg 2 Value.none
   raiseNew (<-newExc jW7 [])) (jEb j) (zva j) s:=by
  show Æ (DB h rfl Ç jK0);rw[(N0 ..).2 b a];show e
 cases hw with
 |@tup pSq m D N=>
  show jB1 m;rw[show((pSq.map zJ8).toArray)[vs.length]?=nO by simp[D]];show ı (DB h rfl Ç (Na (DB (Qbf h 0 _) rfl Ç jK0)));rw[((N0 s.heap I _).trans iF).2 b a];show e
 |text c a u=>
  show(jgg,Æ (Ki r q n (i:=vs.length) (c:=c) a ?_));rw[show(pickOrder (xog M) B)[vs.length]?=nO by rw[u];simp];show one
 |slots c a g C u H=>
  show Æ (XO r q n (i:=vs.length) (c:=c) a g C ?_);rw[H,show B[vs.length]?=nO from LC zei];show one
def QrY(st:qDa)(h:Q zl4 s):ä (TX zl4):=by
 let#[f,o,c,d,t,b,_]:=st;let a:jZ2:=Ϡ b
 refine ON a Qi0 (Et Qi0 a Qm8 ?_ (Qpw _));show ħ #[_,rfl,"set_iterator",_,a,slotN.lookup,h]
def QnE(u:Ζ)(I S T:Addr)(d:S≠I)(c:T≠I)(vs:Ë) :
  Walks prog w A I [I,S,T] [I] vs.length (λi v=>aS) (λi h=>ItT w I S T vs i h) where
 sub:=qwa
 frame:=λi h g z k=>by
  let#[f,o,B,C,t,H,F,D,y,up,l,hw]:=z;show#[f,o,B,C,t,zLe I H,zLe S F,D,y,up,l,hw.keep λo e=>k T Ç o e]
 item:=λi s Q E r st m=>QcS d c st r λv g p j n=>m v g s.toks p j λb o a e=>fk n b jUf
 done:=λs Q E st m=>WO u d c st λg x=>m g s.toks λb o a e=>An x jUf
 self:=λi s Q E st q=>QrY st q
noncomputable abbrev atP(es:jn)(i:Nat):Value:=(es.getD i (0,.none)).2
def Qch{pSq:Ê}(p:pSq.Perm zH6):(pSq.map wN).Perm (es.toList.map (·.2))/\∀(j q:Nat),pSq[j]?=sO q->∃e,es[q]?=sO e/\(pSq.map wN)[j]?=sO e.2:=by
 constructor
 ·refine(p.map _).trans ?_
  let:(List.range es.size).map wN=es.toList.map (·.2):=by
   show SI j;rw[Nt,Nt]
   by_cases lt:j<es.size
   ·simp[atP,Array.getD,lt]
   ·show zN2 xQe;rfl
  rw[this]
 ·intro j q a;let lt:q<es.size:=Ef.mp (p.mem_iff.mp (j4 j a));refine#[es[q],NR lt,?_];rw[Nt,a];simp[atP,Array.getD,lt]
def Qs7{es:jn}(f:ue)(M:o.ExactSet)(u:Cu)(q:uM)(up:PN->fR)(x:zSa)(hz:zLf)
  (h:∀h' d I T (vs:Ë),HG->s.heap.objs.size<=I->(T=S\/qL7)->S≠I->T≠I->vs.Perm (es.toList.map (·.2))->vs.length=es.size->ItT w I S T vs 0 h'->Q zl4 { s with heap:=h',drawn:=d }) :
  ä (TX p6):=by
 let D:qt7:=#[o,f,M.1]
 let l:=NN f;refine ON D F.slot_set_iter (Et F.slot_set_iter D Qom ?_ (F.args_set_iter_1 _));show(Æ (Na zeh),Æ (Na (Of f u q ζ)),Æ (Na (E7 f u q ?_)),Æ (Na (FN zeh)));apply ż (BF (! zx7&&qk1))
 let made:∀(c:Int) (vs:Ë),c=0->vs.Perm (es.toList.map (·.2))->How w S S (s.heap.push (Qg0 qPb 0 S es.size ep)) es ep t vs 0 qPb->wpAny Ĝ A.in1 (do
   let first <-pure (rawInt c)
   ret (<-newFields "set_iterator" [first,xd6,jQ S,rawInt xhj,rawInt ((<-setEpoch S):Int)])) (λfin C=>∃v,fin=Fin.done qp7/\∃H r,C.TypeIs v H/\typeLookup (Value.type H) (Str.ofString "__next__")=pure (sO r)/\Q v C) E s:=by
  intro c vs P p hw;subst P;show Æ (CG (Na (wpAny_setEpoch_of f u q (Na jQg))));let a:es.size=vs.length:=by rw[p.length_eq,Nr,NP]
  refine h _ s.drawn s.heap.objs.size S vs (λb L e=>Ŗ e) Č AL (NL l) (NL l) p a.symm ?_;show#[.int jfe 0,o,es,ep,t,jB2,Ŗ f,u,q,up,a,hw]
 cases n:k5 with
 |true=>
  show(jR,made 0 ((pickOrder zEa es).toList.map (·.2)) rfl ((QdT _ es).map _) (.text 0 n rfl))
 | false=>
  let m:zY4:=by rw[x];simp[ledW,n]
  by_cases B:fQ/\es.size>1
  ·show Ŕ (by simp[B.1,B.2]);show ı (Uc es.size zH6 s _ Ç λpSq d p=>?_);let y:pSq.length=es.size:=by rw[p.length_eq,FE]
   show Æ (wpAny_newTuple ?_ (by rw[Nr,y];show hz));show(Æ (wpAny_setEpoch_of (s:={ s with drawn:=d,heap:=s.heap.push { cls:=AA,data:=jC0 } }) (Np _ f) u q ?_),Æ jQg);let#[J,q2]:=Qch p;let a:es.size=(pSq.map wN).length:=by rw[Nr,y]
   let g:(s.heap.push { cls:=AA,data:=jC0 }).objs.size=uP:=DR _ _;refine h _ d _ s.heap.objs.size (pSq.map wN) (λb L e=>Ŗ Tm) (by apply s.heap.objs.size<=zEb;rw[g];show Sw) (Ė Č) (by apply S≠zEb;rw[g];show NL (E9 l)) (by apply s.heap.objs.size≠zEb;rw[g];show NL Af) J a.symm ?_;refine#[ϋ s,o,es,ep,t,jB2,Ŗ (Np _ f),u,q,up,a,.tup (pSq:=pSq) (Np _ zV9) (by rw[<-a,y]) q2]
  ·let j:PN:=by
    cases N:t.plain with
    |true=>show SH
    |false=>
     right
     rcases Dg 1 es.size with z|z
     ·show ý (ĺ N z) B
     ·show z
   rw[if_neg (by
    show AN j
    ·rw[z];simp
    ·show jIa)]
   show made 0 (es.toList.map (·.2)) rfl .rfl (.slots 0 n m j rfl (Sb.below_zero (up j)))
def QrU(d:qt7)(h:wE):ä (xi8 p6):=by
 show Æ (DF d F.slot_set_len.lookup ?_);generalize a:("set.__len__":String)=c
 show(qp8 ("set","__len__"),Æ (Iw (T:="set") (b:=true) d nw ?_));refine L7 (λz=>Ai z Ð) (λ_=>L7 vR (λz=>Ai Ay z));show Na (DK d zU2)
noncomputable abbrev lsO(xs:Ķ)(c:Nat):Obj:={ cls:=Ę,dict:=nO,data:=.seq xs c,slots:=#[] }
def Qlj(hh:Ζ)(e2:ue)(J:o.ExactSet)(e3:Cu)(ft:uM)(up:PN->fR)(y:zSa)(m:N≠S)(res:Value)(i:Nat)(hN:Ń N=sO (lsO #[] i))(hz:zLf)
  (hR:∀h' d tk (vs:Ë) r,vs.Perm (es.toList.map (·.2))->(∀b o,b≠N->yz)->yi N=sO (zM7 r)->xvb R qw9) :
  wpAny Ĝ A.in1 (ju7 N S) (jTe l r) (qG9 l) s:=by
 show ı (DK (T:="set") #[o,e2,J.1] ?_);let n1:Builtin.List.listSameRef (ú N) p6=false:=qo9
 let n2:(qW4==qSf)=false:=ÿ
 let n3:(qW4==qPc)=false:=ÿ
 simp only[n1,n2,n3,Ya9,EY,if_false];show Æ (Qs7 e2 J e3 ft up y hz λZ d I T vs D hI M Q P str L st=>?_);let n:=D _ _ hN;let v:N<s.heap.objs.size:=NN hN;let X:N≠I:=λz=>absurd hI (zN9 z v)
 let U:N≠T:=by
  show AN M
  ·show Β z m
  ·show λe=>Ai z (zN9 e v)
 let nf:N∉[I,S,T]:=by
  show(zFg,#[X,m,U])
 let W:=QnE (prog:=prog) (w:=w) (A:=A.in1.in1) (by simp[hh]) I S T Q P vs
 let key:∀(C:Heap) (a:Nat),ItT w I S T vs 0 C->(∀b o,b≠N->ϙ->B4 C b=sO o)->B4 C N=sO (lsO #[] a)->codeAny Ĝ A (.builtin "list.extend.loop" #[[Ä N,Ä I,res],[]]) R { s with heap:=C,drawn:=d }:=by
  intro C a H k2 g;refine Ya3 (Walks.of_in1 W).toS (by rw[L];show hz) N nf res vs.length 0 _ #[] a rfl Ŋ H g qSh λl p r hm B h=>?_;rw[Moved.eq_with hm]
  let ea:p=vs.toArray:=by
   refine' Array.ext_getElem?;intro j
   by_cases F:j<p.size
   ·let q:=h.2 j p[j] (NR F);rw[NR F,Fx,q]
   ·rw[LC (jE F),Fx,NX (by let:=h.1;show Nh rE (jE F))]
  rw[ea]at B;refine hR l.heap d l.toks vs r str (λb o c e=>hm.heap b o (TV x) (k2 b o c e)) B
  show CP x z
  ·show c z
  ·rw[ĸ z]at e;show ý AK (N6.mpr hI)
 show ı (N7 (QrU #[o,D _ _ e2,J.1] ?_));refine L7 vR (λ_=>Nl #[jgh,key Z i st (λb o _ e=>D b o e) n]);show Æ (Dy aO);apply wpAny _ _ (updateSeq N (·.push .none)>>=λ_=>updateSeq N (·.pop)) _ _ _;show Æ (LZ n rfl ?_);let g:=Ep (Obj.mapSeq (·.push Value.none)) n rfl;refine LZ (hz:=by seq_fits) g rfl ?_;let Y:=Ep (Obj.mapSeq (·.pop)) g rfl;let u:∀b o,b≠N->B4 Z b=sO o->((Z.update N (Obj.mapSeq (·.push Value.none))).update N (Obj.mapSeq (·.pop))).get? b=sO o:=λb o c e=>ze5 jfd (xd7 c);show Ν #[jgh,key _ _ (W.frame 0 _ _ st λb c o e=>An u (λz=>nf (S6 z c))) (λb o c e=>u b o c (D b o e)) Y]
def Qga(x:Ζ)(m:ue)(p:o.ExactSet)(z:Cu)(y:uM)(up:PN->fR)(j:zSa)(hz:zLf)
  (h:∀h' d tk (vs:Ë),vs.Perm (es.toList.map (·.2))->jQ6):ä qwd:=by
 show(ı (YaK (E1 entry_proto_collect' (show ń (do again (.builtin "list.__iadd__" #[[<-newList [],Ä S],[]])) from ?_))),ı (OD (jK #[qj7,E1 (entry_list_iadd') ?_])));let l:=NN m;rw[EX F.plain_list_iadd _]
 let fin:∀(r:Result) (c:Shared),(qaa/\∃h' d tk,∃vs:Ë,∃g,vs.Perm (es.toList.map (·.2))/\jP3)->(match r with
   | .ok (.ret v)=>wpAny Ĝ A (match v with
    |Ä a=>do
     match (<-load a).data with
     |.seq n _=>pure n.toList
     |_=>qt8
    |_=>qt8) Q E c
   |.ok _=>False
   |.error e=>E e c):=by
  rintro r c ⟨rfl,h',d,tk,vs,g,str,k,hN,rfl⟩
  show Æ (YaT hN ?_);apply wpAny _ _ (pure vs.toArray.toList) Q E _;rw[DH];show ħ (h h' d tk vs str k (Nq (NN hN)))
 refine Ej (Qlj (A:=A) (s:={ s with heap:=s.heap.push (lsO #[] 0) }) (R:=λr c=>qaa/\∃h' d tk,∃vs:Ë,∃g,vs.Perm (es.toList.map (·.2))/\jP3) x (Np _ m) p z y up j (EK l) ϴ 0 zV9 hz λh' d tk vs g str k hN=>#[rfl,h',d,tk,vs,g,str,λb o e=>k b o fT Tm,hN,rfl]) ?_ ?_
 ·intro f c q;cases f with
  |done f=>show fin _ _ q
  |again g=>show#[q.1,Fk q.2 λr i u=>fin r i u]
 ·intro e c q;show fin _ _ q
#print"-"
def Qcl:∀(ks a:Â),ks.Nodup->(∀k∈ks,k∈a)->a.length=ks.length->Hn a:=by
 intro ks
 induction ks with
 |nil=>
  intro a _ _ h;rw[zS6]
 |cons k r d=>
  intro a nd c h;let hk:=c k NA;rw[Eo]at nd;refine(Ya4 hk).trans (List.Perm.cons k (d (a.erase k) nd.2 (jf x b) ?_))
  ·show qf3 (c x zle)
  ·rw[FO hk,h];rfl
section
variable{prog:Program}{w:World}{A:Around}{E:Ñ}{s:Shared}
def QkT{h:Heap}{a:Addr}{led:Bool}{es:jn}(h1:ElemsOf qh1 es.toList)(m:ks.Nodup)(l:es.size=ks.length)(j:∀k,Mr↔∃e∈es.toList,mx)(p:vs.Perm (es.toList.map (·.2))):∃i,xoh/\Hn i:=by
 let b:∀v∈vs,∃x c,zX0:=λv b=>by
  show Ŭ e f qt6;let#[#[k,hk,_],_]:=h1 e f;let#[c,g]:=Oc hk;show#[k,c,g]
 refine#[vs.map strOf,strsAre_map vs b,Qcl ks _ m xd8 ?_]
 ·let#[e,f,d]:=(j k).mp hk;let#[c,g]:=Oc d;show yh #[e.2,p.mem_iff.mpr (CY (MZ e f)),Tp g]
 ·rw[Nr,p.length_eq,Nr,NP,l]
def QiN{t:SetTable}(b:xi7)(c:n<=1):fR:=λi j d a=>by
 rw[Qbe b]at a;omega
def Qiv(q:Ζ)(hS:ql8)(hz:ks.length<=sizeLine)
  (h:∀h' d tk vs,(∃l,StrsAre vs l/\Hn l)->jQ6):ä qwd:=by
 let#[o,x,B,t,u,n,r,i,v,j,e,f,g,m,c]:=hS;refine Qga q u n r j zl5 e (by rw[m];show hz) λh' d tk vs p=>h h' d tk vs (QkT (h:=s.heap) (a:=S) (led:=true) i g m c p)
 show j6 z
 ·rcases f with y|y
  ·show QiN j (Nq (ź jf5))
  ·show â z y
 ·show QiN j z
def sortedS'(v:Ζ)(hS:ql8)(hz:ks.length<64)
  (h:∀(D:Addr) h' d tk (vs:Ë) (i:Â) c,xoh->Hn i->zY i=true->HG->qL8->yi D=sO (zM7 c)->xvb Q oq) :
  ä (call qdd [Ä S]):=by
 refine jXf;refine Na (m:=qzd) (jK (Na (Qiv (ϟ v) hS (by rw[DA];show Nq (NZ hz Ð)) λn d tk vs str r l=>?_)));let#[i,st,pm]:=str;let g:vs.length<64:=by rw[YaL st,pm.length_eq];show hz
 show Æ (OD ?_ (by rw[DA];show Nq (kG g)));let a:(n.push uD).get? n.objs.size=sO uD:=ŭ;show ı (N7 (Et slot_list_sort zkh entry_list_sort (list_sort_treeK (κ:=PyProof.Rows.strKind) strKind_oneLt a st.keysOf (λq p rest e=>keyKind_strs (by rw[<-e];show st)) g λf F C=>tJ) qJg));let#[j,B,z,y]:=sorted_out_str st F C;let#[c,x]:=sortedHeap_at (out:=(arrOf f).map (·.2)) a;show Ν #[_,rfl,h n.objs.size _ d tk ((arrOf f).map (·.2)).toList j c B (z.trans pm) y (Ak b o e) l ?_]
 ·let t:=Np uD xsf;rw[sortedHeap_old (NL (NN xsf)) (NN t)];show t
 ·rw[Array.toArray_toList];show x
#print"-"
def le_of_lt{a b:Str}:xa2 b a=false↔a.cps.toList<=b.cps.toList:=by
 rw[ltCps_eq,decide_eq_false_iff_not];show Iff.rfl
def XW:∀(x:Str) (r:Â),risingS x r=true->∀z∈r,x.cps.toList<=z.cps.toList
 |x,[],_,z,hz=>by cases hz
 |x,y::r,h,z,hz=>by
  show jVj h';rw[Eh,Bool.not_eq_true']at h';let a:=le_of_lt.mp h'.1
  rcases NK.mp hz with rfl|hz
  ·show a
  ·show List.le_trans a (XW y r h'.2 z hz)
def Yr(h:sortedS vA=true):zY r=true:=by
 cases r with
 |nil=>rfl
 |cons y r=>
  show jVj a;rw[Eh]at a;show a.2
def str_eq{a b:Str}(h:a.cps.toList=b.cps.toList):a=b:=by
 let#[a]:=a;let#[b]:=b;congr 1;show Array.toList_inj.mp h
def YI:∀(a b:Â),a.Perm b->RN->zY b=true->a=b
 |[],b,p,_,_=>(List.nil_perm.mp p).symm
 |x::r,[],p,_,_=>by cases List.perm_nil.mp p
 | x::r,y::t,p,d,c=>by
  let e:x=y:=by
   let g:y∈x::r:=p.mem_iff.mpr NA;let f:x∈y::t:=p.mem_iff.mp NA
   show CP g z
   ·show z.symm
   ·show CP f q
    ·show q
    ·show str_eq (List.le_antisymm (XW x r d y z) (XW y t c x q))
  subst e;rw[YI r t (List.Perm.cons_inv p) (Yr d) (Yr c)]
open Classical in
abbrev srt(ks:Â):Â:=if h:jEc then h.choose else[]
def srt_eq(p:Hn a)(h:RN):srt ks=a:=by
 let b:jEc:=Ŷ a p h
 unfold srt;rw[dif_pos b];show YI _ _ (b.choose_spec.1.trans p.symm) b.choose_spec.2 h
#print"-St"
namespace Mi
open L2
set_option backward.eqns.deepRecursiveSplit false in
abbrev txW:Ã->Option zah
 |[]=>sO []
 |Ù x::r=>(txW r).map (x::·)
 |_=>nO
@[simp]def Qk4(l:Â):txW Cj=sO l:=by
 induction l with
 |nil=>rfl
 |cons x l a=>rw[NB,txW,a];rfl
def Qpn{ws:Ã}{a:Â}(e:txW ws=sO a):ws=zd a:=by
 induction ws generalizing a with
 |nil=>cases e;rfl
 | cons w r b=>
  cases w with
  |str x=>
   show Ϻ t c e;rw[b c];rfl
  |_=>cases e
def Qph{K:Nj}:∀{a:Â} {xs:Ö} {us:Ë},Tq (yY a)->Ι->xoi:=by
 intro a
 induction a with
 |nil=>
  intro xs us r v;rw[Dl,Rws.nil_iff]at r;show(AW r v,.nil)
 | cons x a e=>
  intro xs us r v;rw[NB]at r;unfold Rws at r;show(MR y f b d r,Š b);subst b;cases v with
  |cons h t=>
   show(Ĵ c h,.cons x c (e d t))
def Qe6{K:Nj}{a:Â}{us:Ë}(h:xoi):Mz oC/\BZ zm1 oC:=by
 induction h with
 |nil=>show#[.nil,by unfold Rws;rfl]
 |cons x c h b=>
  refine#[.cons (zK c) b.1,?_];rw[NB,NB];unfold Rws;show#[_,_,rfl,by unfold Rw;rfl,b.2]
abbrev Qv9(ws:Ã)(h:MH):Ú:=match ws with
 |[a]=>(lsW h a).bind λc=>(txW c).bind λb=>if b.length<64 then sO (À ((St.srt b).map .str),h)else nO
 |_=>nO
abbrev Jb(ws:Ã)(h:MH):Ú:=match ws with
 |[a]=>(lsW h a).bind λc=>(txW c).bind λb=>if xi9/\qH9 then sO (ī,qJ5)else nO
 |_=>nO
section
variable{X:Cx}
def Inv.drew(I:ĳ a)(d:Drawn):Inv X a σ H { s with drawn:=d }:=#[I.ok,I.os,I.bare,I.base,I.loc,I.cell,I.free,I.freeC,I.pin,I.hok,I.len]
def QcV{X:Cx}{e:Expr}{me:ME}{wf:Ã->MH->Ú}{f g:Str}{j r:Value}{U F m d:Pos}(hf:(∃T,j=.type T)\/∃T,j=.builtin T)(hg:Gl X f)(hm:X.mg f=nO)(hb:bootBuiltins f=sO j)(C:Gl X g)(B:X.mg g=nO)(D:bootBuiltins g=sO r)(Z:∃T,r=.type T)(he:wI)(n:Ϧ)
  (o:f≠"__name__"/\(f==b8)=false/\g≠"__name__"/\(g==b8)=false)
  (k:∀(c:Û) (s:Shared) (σ:L2.St) (H:Hp) (Q:VK) (R:Rn) (h h':MH) (a w:W) (v:V) (u:Value),L2.Inv X c σ H s->ñ v->Ϗ->Œ a v->wf [a] h=Ċ w h'->After X.K R w h' Q ->
   ġ (call r [u]) (PJ v t (call j [v]) (EP X c σ Q)) s) :
  ą (.Call (.Name f U) [qm3] [] m) (mFn wf zai):=by
 intro c s σ H Q I q;let#[R,p,h,w,h',S,st,e1,Y]:=q;let#[#[as,h2],e2,e3]:=ģ e1;show ĵ a E e4 e5 e2;let#[#[bs,h3],e6,e7]:=ģ e5;show(AZ e6 e7,Ĵ T Z)
 let W:∀{pos:Pos} {b:Expr} {Q:Ñ} {s:Shared},ġ (spliced qdg) (PJ M l (call j M) Q) s->ZQ b=false->ġ (callWith pos j [] qdg []) Q s:=λh n=>by
  rcases hf with⟨T,rfl⟩|⟨T,rfl⟩
  ·show Ey h jg7 jaj
  ·show LS h jg7 jaj
 refine DS (Xc I hg hm hb (W ?_ rfl) o.1 o.2.1);rw[Za (e:=qm3) rfl];refine Oo (DS (Xc I C B D (Ey ?_ jg7 jaj) (jH o) o.2.2.2));rw[Za n];refine Oo (ņ (he c s σ H (λv H2=>∃R2,je R2/\Rh X.K R2 E H2/\Rw X.K R2 a v) I #[R,p,h,a,E,S,st,e4,λR2 H2 v x i y=>#[R2,x,i,y]]) u t q);let#[v,H1,I1,P,R2,L,i,y]:=q;refine OK ?_;show Ej (k c t σ H1 Q R2 E h' a w v u I1 P i y e3 λR3 H3 N J=>Y R3 H3 N (Ē L J)) (λv s2 z=>OK z) (jv z)
def Ub{p1 p2 j i:Pos}(I:ĥ)(hg:Gl X "sorted")(hm:X.mg "sorted"=nO)(y:Gl X "set")(r:xia)(he:wI)(hs:Ϧ:=by rfl) :
  ą (.Call (.Name "sorted" p1) [xib p2 i] [] j) (mFn Jb zai):=by
 refine QcV (Ė þ) hg hm YbA y r boot_set þ he hs Ð λE B σ H1 Q R2 h1 h' a w v u I1 S h U e3 F=>?_;show zmj e8 e9 e3 P z g
 ·show ſ H g;let#[ad,xs,rfl,Y,C]:=h.lsAt U e8;cases S;rw[Qpn z]at C;let#[aa,rv,Z,hl]:=zT Y;let hS:=Qph C rv;let t:=YaL hS;refine St.set_list xbh Z.isList (by rw[DH];show hS) (by rw[Nz,t];apply P.length+1<4096;lia) (Ł g1 n f k1);refine St.sortedS' (s:={ B with heap:=g1,toks:=n }) xbh f H.2 λD g2 d m N A c L J b3 k2 x hD=>?_;let#[v1,v2]:=Qe6 (K:=X.K) (R:=R2) L;let l:B.heap.objs.size<=D:=Nh (Nq f.lt) x;let hp:=zj7 I1 l;let eq:=St.srt_eq J b3;let#[R3,M,q,p]:=h.new (mo:=À (yY A)) (o:=À (A.map V.str)) hp (ŗ R' x' #[_,rfl,(Qe6 (K:=X.K) (R:=R') L).2])
  rw[eq]at F;refine#[Ä D,_,Inv.drew (I1.laid (t':=m) (λb o e=>k2 b o (k1 b o AK e)) l (k9 iP  #[?_,N,c,v1,hD])) d,rfl,F R3 _ _ M q p];rw[Nr,J.length_eq,DA];show Nq (NZ H.2 Ð)
 ·cases g
#print"-"
#print"-Mi"
namespace St
open AutoSeq1 (wpAny_loadPart')
def Qgd(l:Addr)(items:Ķ)(n:Nat)(dct:BC)(i:kJ) :
  Meets (Builtin.«enumerate.__new__» #[[zLg,Ä l],[]]) (λ_ R s=>Ń l=sO { cls:=AA,dict:=dct,data:=zWe n,slots:=i } /\
   R (.ok (.ret (.ref jhj)))
    { s with heap:=(s.heap.push { cls:=zBe,data:=HN }).push { cls:=zLg,data:=jr4 } }):=
 .of_wp λe w A R s h=>by
  show fu j;let#[a,h]:=h;let f:=sub_enumerate;let b:Heap.IsTuple (Shared.heap #[j,g,d,tk,os]) l items:=#[_,a,rfl,n,rfl]
  wp_walk using Dx a
  refine wpAny_stack_any λst=>Nl ?_;split
  ·rename_i c _ _ _ _ _;cases(c==Value.type "enumerate")
   ·show zz9
   ·show zz9
  ·show zz9
section
variable{prog:Program}{w:World}{A:Around}{E:Ñ}{s:Shared}
def enumT(hL:nE)
  (h:∀h',qb7 h'->h'.IsTupleIter s.heap.objs.size l 0->HG->v9 (ú jO) h') :
  ä (call (.type "enumerate") [Ä l]):=by
 let#[#[c,dct,i,f],g,e,n,hd]:=hL;simp only at e hd;subst e hd;refine callType_new F.called_enumerate Ð (F.typeCall_enumerate_1 _) (F.newCall_enumerate_1 _) (λobj=>F.args_object_init_2 obj _) F.entry_enumerate_new (Qgd l items n dct f) (HA g);let a:jhj=uP:=DR ..;apply _/\_;rw[a]
 let d:qb7 ((s.heap.push { cls:=zBe,data:=HN }).push { cls:=zLg,data:=jr4 }):=by
  rw[<-a];show ŭ
 show#[Ϡ d,h _ d #[_,Ŗ zV9,rfl,rfl] λb o x=>Ŗ (Np _ x)]
def Qcb(hit:qze)(e:nE)(d:fh=sO x)
  (g:∀h',h'.IsTupleIter it l (i+1)->zK1 h'->v9 x h'):ä qga:=by
 show(eA a f,jo1 c e a);simp only[Dj,d];show ı (DB a hd Ç (jK #[x,rfl,Nl (aH g #[_,Ep _ a qz6,(YbG ..).trans f,qz7])]))
def QeQ(f:Ζ)(hit:qze)(h:nE)(g:fh=nO)
  (j:∀h' e,qBa->(∃o,yi e=sO o/\o.cls=.type "StopIteration")->E (ú e) { s with heap:=h' }):ä qga:=by
 show(eA c n,jo1 d h c);simp only[Dj,g];show(Æ (Dy (Na (DB c hd Ç aO))),jA8)
 first|rw[show iB from f]|rw[f]
 show Na (zng (wpAny_throw (j _ _ qp5 gR)))
def tit_at{h h':Heap}(x:h.IsTupleIter a t i)(e:l8):h'.IsTupleIter a t i:=juh
def QoC{h h':Heap}(x:jf0 h a)(e:l8):jf0 h' a:=juh
def drawsT(f:Ζ)(it l:Addr)(b:l≠it)(items:Ķ):Draws prog w A it [it,l] items.size (λi v=>zl9) (λi h=>zOb l/\jf0 h l) where
 live:=λ_ _ x=>let#[o,h,_]:=x.1;#[o,h]
 frame:=λ_ _ _ st hk=>#[tit_at st.1 λo e=>hk it Ç o e,QoC st.2 (zHh l)]
 item:=λi s Q E d st g=>Qcb st.1 st.2 (x:=jd4) (ϟ d) λm a c=>g _ m s.toks (ϟ d) #[a,st.2.extBut c.extBut b] c
 done:=λs Q E st j=>QeQ f st.1 st.2 Ç j
#print"-"
#print"-St"
namespace L2
abbrev Ite(K:Nj)(a:Addr)(n:Nat):It:=
  #[λi H=>i<n/\jmc,
   λi H v c=>∃T x,v=Ä T/\H T=nO/\qie/\jl9,
   λi H=>n<=i/\jmc]
def QeM{K:Nj}(l e it:Addr)(n:Nat)(c:e≠it)(C:l≠e)(B:l≠it):Turn P w K qM8 (Ite K l n) ze8 e (λi h=>i<=n/\qt9/\zOb l) where
 mem:=Å
 obj:=λi h st b d=>by
  show jo3
 keep:=λi h h' st k=>by
  show(qM9,#[m,jEd,St.tit_at h1 (zyf x)])
 item:=by
  intro X L hw hK hc i z s σ H E I hf st hg;show ju9;let#[_,S,U]:=st;let W:=jP4;refine W.item i s _ _ jXg (Ŷ S U p) qta;show jt0
  let af:jC1:=by
   show qbd
  let ah:=xd9;refine#[Ä T,_,jOd,rfl,#[T,x,rfl,ah,rfl,λys hy=>by rw[I.tuple_inj hy Y];show hx],qSj,Ô b d];show qqb
  ·obtain⟨o,Z,_⟩:∃o,ϙ/\True:=by
    show jp5
   show jA9
 done:=by
  intro X L hw hK hc i z s σ H E I hf st hg;show ju9;let#[aj,S,U]:=st;let W:=jP4;show qxj
  refine W.done s _ _ (by rw[aa];show#[S,U,p]) qoa
  show jp0
 self:=qe7
abbrev Qsb(K:Nj)(e:TA):TI:=λc H R=>e c H λd H1=>∃a b,d=yF/\SqT K H1 a b/\R (Ite K a b.length) H1
def Qk0{X:Cx}{i:ā}(E:bD)(D:Ri)(F:zhd v)(A:ur:=by rfl) :
  jU4 (Qsb X.K v):=by
 show(ji4,qf w x);let#[z,rv,l,P]:=I1.tuple B;let f:qMa:=let#[_,C,_]:=l;NN C
 refine St.enumT l λQ m hit hk=>Ly m ?_;refine#[Rz c,jxj,_,_,H1,rfl,qDb,QeM ad _ _ t.length (YbW _) xic (NL f),qBc,Ô b n,q]
 let g:qLa:=by
  show jpj
 show qk2
#print"-L2"
namespace Mi
open L2
abbrev Zy(ws:Ã):Ã:=ws.zipIdx.map λq=>Î [Ae q,q.1]
abbrev UZ(c:MA):MI:=λa h=>(c a h).bind λp=>match p.1 with
 |[Î b]=>qW5
 |_=>nO
section
variable{K:Nj}{R:Rn}
def Qei(l:zP5)(r:ύ):zS (Ite K a xs.length) (Zy ws) where
 go:=λi w p h H x d _ e=>by
  let c:=Ü e;show gN #[qzf,xs,jZ9,rfl]
 yld:=λi w p h H x E e d _ m q=>by
  show(jAa,jM9);let n:=s xs (Zr (zvc d e) l);show(â g1 n,jSa)
 stop:=λi p h H x d _ c=>by
  show gN #[SQ ou c,xs,jZ9,rfl]
#print"-"
section
variable{X:Cx}{tg a:Expr}{ms:MA}{p pos tpos:Pos}{elts:ā}{kk:Nat}
def Qit(t:bD)(s:Ri)(u:tZ)(r:ur:=by rfl):jSf (UZ ms):=
 YY (Qk0 t s u r) λy H C i=>by
  let#[R,c,h,items,n,B,q,st,e,k]:=i;show jK1
  ·show(jra,#[ad,j,rfl,Zr b.sub hF,BU l b (Qei hF o)])
  ·cases d
#print"-"
#print"-Mi"
namespace Dc
section
variable{prog:Program}{w:World}{A:Around}{E:Ñ}{s:Shared}
def Qm3:typeLookup i7 zG7=SO:=by show RX
set_option maxHeartbeats 4000000 in
def keys_miss(i:Ń a=sO { cls:=Ę,dict:=nO,data:=.seq xs k,slots:=l })(n:Ζ)
  (h:∀h' tk,HG->Q nO { s with heap:=h',toks:=tk }):ä (getAttr? Ġ zG7):=by
 show fu m;let j:∀c,(#[m,g,d,c,os]:Shared).TypeIs Ġ "list":=λ_=>Ϡ i
 let f1:=sub_AttributeError;let v:=IZ.lookup;let u:=IZ.bind Ġ;let t:=am_list_getattr_none
 repeat (any_goals (first|assumption|show j _|((with_reducible apply ż (call (Value.builtin "list.__getattribute__") _ _));refine Lg IZ (j _) am_entry_list_getattribute (F.args_list_getattribute_2 _ _) (meets_getattribute_miss_list a xs k l zG7 _ Qm3 Ay) #[i,n,Ł h' c e f])|wp_step))
 let#[q,p,r]:=f.there;apply ż (getattributeRaised _ _ _ _ _ _ _)
 show sR
 show h _ _ f.keeps
#print"-"
def e_upd:entryFor table "dict.update.loop"=sO Builtin.«dict.update.loop»:=jB0
def p_upd:plainId "dict.update.loop"=true:=Cy
section
variable{prog:Program}{w:World}{K:Type}[xl K]{knd:qW6}{A:Around}{E:Ñ}{s:Shared}
abbrev PairAt(knd:qW6)(h:Heap)(v:Value)(p:jcd):Prop:=∃a o n key,ψ/\B8/\cO/\o.data=.seq #[key,p.2,] n/\knd.is p.1 key=true
def PairAt.keep(x:PairAt knd h v p)(k:∀a o,ψ->B8->yi a=sO o):PairAt knd h' v p:=by
 let#[a,o,n,key,rfl,e,d,c,b]:=x;show#[a,o,n,key,rfl,k a o rfl e,d,c,b]
abbrev mrg(a ps:AD K):AD K:=ps.foldl (λb p=>stored b p.1 p.2) a
def QkD(a:AD K)(k:K)(v:Value):(stored a k v).length<=zX9:=by
 unfold stored;show zk6
def QtI{ps:AD K}(hh:iB)(L:l≠I)(m:D≠I)(Q:D≠l)(r:nW):∀(k i:Nat) (s:Shared) (c:AD K),xda->xid->qDc->nM ->
  (∀(j:Nat) (v:Value) (p:jcd),zba->aT->qHa/\v≠Ä D/\v≠Ä I)->s.heap.DictOf knd D c->qJd ->
  (∀h' tk,h'.DictOf knd D (mrg c xie)->(∀b o,b≠D->b≠I->yz)->qa1) ->
  jP8:=by
 show qj8 L
 induction k with
 |zero=>
  intro i s c hk hi f d J hD Z P t;let M:xoj:=Í
  subst M;show qJh;refine(lc (qT0 (ĺ f d) g));refine(show jV3 from Na (CG (Nl (P h' tk ?_ λb o _ hb e=>An g (by simpa using hb)))));rw[YaA (Nv r)];show qd5
 | succ k ih=>
  intro i s c hk hi f d J hD Z P t;let h:xp0:=Í
  show qJh;refine(lc (W.item i s _ _ h (ĺ f d) λv h' tk hv q g=>?_));let u:xvd:=by show Nf h (İ r)
  let#[pa,nD,nI]:=J i v ps[i] hv (Nn u);let#[a,o,n,key,rfl,h1,h2,Y,h4]:=pa;let N:a≠I:=λz=>nI xp1;let ab:a≠D:=λz=>nD xp1;let B:=g a o (Ģ N) h1;refine(show jX5 from Na zfj);show(Æ jQh,jpg B h2,Ν ζ);refine(show wpAny _ A.in1 (holding [key,zdg] (dictSet D key zdg)) _ _ _ from N7 ?_);let X:h'.DictOf knd D c:=qd5;refine wpAny_dictSet_pairs (s:={ s with heap:=h',toks:=tk }) (hsz:=SQ Ω Z) h4 X (Õ h2 U C);show Ν #[DN p_upd _,ih (i+1) _ (stored c zdh zdg) É h (q.1.at λo e=>fk C I (Eb m)) (jD7 q C) (λj v p e1 e2=>?_) U (by let:=QkD c zdh zdg;lia) (λY F S H=>?_) _]
  ·let#[q1,q2,q3]:=J j v p e1 e2;refine#[q1.keep λb o eb e=>?_,q2,q3];rw[C.2 b λz=>q2 xa3];show An g (by simpa using λz=>q3 xa3)
  ·refine P Y F ?_ λb o y x e=>H b o y x ?_
   ·rw[EF u];show S
   ·rw[C.2 b y];show An g (Ģ x)
def call_pairs{Q:Ñ}(L:Ζ)(H:Ń l=js8 Z)(D:nW)(hz:zI5)
  (N:∀(j:Nat) (v:Value) (p:jcd),zba->aT->qHa)
  (h:∀h' tk,h'.DictOf knd s.heap.objs.size (mrg [] ps)->HG->oT) :
  ä qe9:=by
 show joc d r;let c:(s.heap.push { cls:=il,data:=d5 }).DictOf knd s.heap.objs.size []:=Yb1 s.heap;show jEe g H f;refine#[c.typeIs,Ybt _ _,?_];show Æ (Na (Ft c.typeIs (show ż qs6 from Nl ?_)));apply ż jVh;show(jAb f,ı (keys_miss f (ϟ L) (Õ i y u)),Ŕ wj,Æ (qh3 i y u f));let C:∀b o,ϙ->(i.push { cls:=mL,data:=HN }).get? b=sO o:=jK2 u;let J:(i.push { cls:=mL,data:=HN }).DictOf knd s.heap.objs.size []:=c.keep λb o e=>Ŗ xsa
 let t:s.heap.objs.size<i.objs.size:=by
  show xa4 c u
 show Ν #[DN p_upd _,QtI (knd:=knd) (l:=l) (items:=items) (ps:=ps) (ϟ L) (NL (NZ g t)) (NL t) (EK g) D zO2 0 _ [] rfl Ŋ yB (zRc C H) (λj v p X U=>?_) J qHb (λP x I B=>?_) _]
 ·let q:=N j v p X U
  let lt:∀b,yJ->nj:=λb S=>by
   let#[a,o,n,key,e,Y,_]:=q;show(â S e,NN Y)
  refine#[q.keep λb o _ e=>C b o e,iI z (lt _ z),è z];let:=lt _ z;change i.objs.size<s.heap.objs.size at this;show IC xve t
 ·refine#[rfl,h P x (Ģ I) λb o e=>B b o ?_ ?_ (C b o e)]
  ·show NL AK
  ·show NL (NZ AK t)
#print"-"
#print"-Dc"
namespace Mi
open L2
set_option backward.eqns.deepRecursiveSplit false in
abbrev prW:Ã->Option qB6
 |[]=>sO []
 |Î [k,v]::r=>(K9 k).bind λy=>(prW r).map ((y,v)::·)
 |_=>nO
abbrev QgE(a ps:ü W):ü W:=ps.foldl (λb p=>U4 b p.1 p.2) a
abbrev Yb(ws:Ã)(h:MH):Ú:=match ws with
 |[a]=>(lsW h a).bind λc=>(prW c).bind λb=>if b.length<=100000 then sO (ī,h++[ϯ (QgE [] b)])else nO
 |_=>nO
def Qp9{K:Nj}:ŵ R (kW k) zh7:=by
 cases k with
 |inl i=>rfl
 |inr x=>rfl
section
variable{X:Cx}
def QaS{K:Nj}:∀{a:ü W} {kx:ü V},fP->a.map (·.1)=kx.map (·.1)
 |_,_,.nil=>rfl
 |_,_,ĉ h t=>by rw[NB,NB,QaS t,h.1]
def QkL{K:Nj}{H:Hp}(E:ē)(ok:∀a xs,xI H->∃o n its,B4 g a=sO o/\cO/\o.data=sP/\Sr):∀{b:Ã} {ps:ü W} {xs:Ö} {us:Ë},prW b=sO ps->Tq b->Ι ->
  ∃(kx:ü V) (vs:zLa),xdb/\jdh/\qMb/\∀(j:Nat) (u:Value) (p:Key×Value),xs9->xt9->Dc.PairAt zNf g u p:=by
 intro b
 induction b with
 |nil=>
  show jw1
 | cons c b J=>
  show zL2
  obtain⟨k,x,rfl⟩:∃k x,c=zu3:=by
   cases c with
   |tup l=>
    cases l with
    |nil=>cases e
    |cons k l=>
    cases l with
    |nil=>cases e
    |cons x l=>
    cases l with
    |nil=>show xvc
    |cons _ _=>cases e
   |_=>cases e
  show(Ĭ y S Q e,jx4 N M Q f F);cases v with
  |@cons _ u _ us hu tu=>
  let#[kx,vs,d1,Z,Y,U]:=J N F tu;show(Š f,MR a s I q2 f);let#[o,n,its,g1,g2,g3,L]:=ok a s (Zr E.sub I);show zt z1 q D C q2;let#[t,d,rfl,B,A]:=Wj L;let hk:=Vf D S;subst hk;obtain rfl:yH:=hu;refine#[(y,q)::kx,(y,d)::vs,ĉ (ϔ C) d1,ĉ (ϔ A) Z,ϩ Y,λj u p m i=>?_];cases j with
  |zero=>
   let f1:jQ a=u:=é m
   let f2:(y,d)=p:=é i
   subst f1;show Ao f2 #[a,o,n,t,rfl,g1,g2,g3,Qai B]
  |succ j=>show U j u p (Ģ m) (Ģ i)
def QmX{K:Nj}:∀{ps a:ü W} {kx c:ü V},xdb->DicR K R a c->DicR K R (QgE a ps) (qih c):=by
 intro ps a kx c t d
 induction t generalizing a c with
 |nil=>show d
 |@cons p q _ _ h t e=>
  apply DicR K R (QgE (U4 _ p.1 p.2) _) (qJi q);let:=Qaa (k:=p.1) d h.2;show qF5
def Qo8{kx a:ü V}{vs c:zLa}(p:jdh)(d:KV a c):KV (qih a) (Dc.mrg c vs):=by
 induction p generalizing a c with
 |nil=>show d
 |@cons p q _ _ h t e=>
  apply KV (qJi p) (Dc.mrg (stored _ q.1 q.2) _);let:=KV.put d p.1 h.2;show qF5
def Qpi:∀(ps a:ü V),(ps.foldl qbb a).length<=a.length+ps.length:=by
 intro ps
 induction ps with
 |nil=>
  intro a;simp
 |cons p ps c=>
  intro a;let e:=c (Ua a p.1 p.2);let d:=Xs a p.1 p.2;rw[LY,NS];lia
def Gp(hc:ĥ):ŀ zH7 (Fs X.K Yb):=by
 intro B s σ H L us Q I r q;let#[R,h,ws,w,h',t,f,e,k]:=q;unfold Yb at e;split at e
 ·rename_i a;show zk9 A y
  ·rename_i hz;cases y;show(CL v Z f,AB L q1 Y t Z e1,jG9 U c x q1)
   let#[E,S,J,F,d3,d4]:=QkL (P:=X.prog) (w:=X.w) (g:=s.heap) t (λb zs q=>by
    let#[c,g1,#[o,g2,g3,n,g4],g5]:=Bp q
    show#[o,n,c,g2,g3,g4,g1]) e3 Y rv
   ·let l1:=Ec J;show Ž l2 F;let#[#[oc,ab,ae,aa],m,x,D,C,d]:=x;dsimp only at D C d;subst D C d;refine Dc.call_pairs (knd:=ZY X.prog X.w) (ps:=S) (items:=c.toArray) kz x (Ģ d3) (by rw[Nz,DA];lia) jZc qW8;show pQ;let#[R3,M,l,i]:=t.new (mo:=ϯ (QgE [] A)) (o:=.dK (E.foldl qbb [])) hp (ŗ R' N #[_,rfl,Paired.mapP (QmX J .nil) λa b z=>qjh N])
    refine#[ϋ s,_,I.laid (t':=tk) kp Č (k9 (.dK _) #[?_,?_,_,Qo8 F .nil,dd]),rfl,ϭ R3 M l i]
    ·let:=Qpi E [];rw[DA];show jb;lia
    ·show jV7
  ·cases y
 ·cases e
#print"-"
def QqW{K:Nj}(X:TQ)(G:S9 b)(a:mF=sO (sO (.str y t))):Glob K b x P8:=
 #[Ù y,_,xR,Sd,λ_=>Rw.str y]
def QaG:∀(l:List (c×b)),(l.map (·.1)).zip (l.map (·.2))=l:=by
 intro l
 induction l with
 |nil=>
  show rfl
 |cons p l a=>
  rw[NB,NB,Lc,a]
def Wi(f:qe):∀(o:MO),Tu->thO f o=sO o
 |Ŀ,p=>by apply(ths f ws).map MO.lst=_;rw[Zi f ws p];rfl
 |ϯ a,p=>by show xdc (λvs=>MO.dic ((a.map (·.1)).zip vs))
 |Ο a,p=>by show xdc (λvs=>MO.dct ((a.map (·.1)).zip vs))
 |jd9,p=>AS p
@[simp]def QuB:GH σ h=sO (ī,qJ3):=yq
abbrev X8(a:W)(ws:Ã)(h:MH):Ú:=match ws with
 |[b,v]=>zp6 ((Xu c k).getD v,h)
 |_=>nO
section
variable{X:Cx}
def Qgg(hu:ļ):QbA X "dict.get" X8:=by
 intro g s Z H x xs v us Q I u rv q;let#[R,h,a,ws,w,h',f,D,d,e,k]:=q;show vB X8 e
 ·rename_i b dv;show(HR E U S i P N,zQ2 J U,zt y z C B d);let#[uy,uz,rfl,t,r]:=Wj rv;let#[_,L,kx,F,Y]:=f.dicAt D J;let M:=Vf C P;subst M L;show Cn v u;refine Qn8 yU I (DGet.k (k:=i) F) t r (Ł p s' j c)
  rcases MU i Y with z|⟨p,v',o,m,l⟩
  ·rw[z.2]at c;rw[z.1]at k;show#[_,H,j,c,Ļ f B]
  ·rw[m]at c;rw[o]at k;show#[_,H,j,c,Ļ f l]
 ·cases e
#print"-"
#print"-Mi"
namespace L2
abbrev ItE(K:Nj)(a:Addr)(n:Nat):It:=
  #[jwb,
   λi H v c=>∃T x,v=Ä T/\H T=nO/\qie/\jJ6,
   λi H=>n<=i/\jJi]
def QbM{K:Nj}(l e it:Addr)(n:Nat)(c:e≠it)(C:l≠e)(B:l≠it):Turn P w K qM8 (ItE K l n) ze8 e (λi h=>i<=n/\qt9/\h.IsListIter it l i) where
 mem:=Å
 obj:=λi h st b d=>by
  show jo3
 keep:=λi h h' st k=>by
  show qM9;show#[m,jEd,h1.at (zyf x)]
 item:=by
  intro X L hw hK hc i z s σ H E I hf st hg;show jua;let#[_,S,U]:=st;let W:=jP5;refine W.item i s _ _ jXg qT1 qta;show jt0
  let af:jC1:=by
   show qbd
  let ah:=xd9;refine#[Ä T,_,jOd,rfl,#[T,x,rfl,ah,rfl,λys hy=>by rw[I.list_inj hy Y];show hx],qSj,Ô b d];show qqb
  ·obtain⟨o,Z,_⟩:∃o,ϙ/\True:=by
    show jp5
   show jA9
 done:=by
  intro X L hw hK hc i z s σ H E I hf st hg;show jua;let#[aj,S,U]:=st;let W:=jP5;show qxj
  refine W.done s _ _ (by rw[aa];show qT1) qoa
  show jp0
 self:=qe7
abbrev QnW(K:Nj)(e:TA):TI:=λc H R=>e c H λd H1=>∃a b,d=yF/\xsj/\R (ItE K a b.length) H1
def QhR{X:Cx}{i:ā}(E:bD)(D:Ri)(F:zhd v)(A:ur:=by rfl) :
  jU4 (QnW X.K v):=by
 show(ji4,qf w x);let#[z,rv,l,P]:=zT B;let f:qMa:=let#[_,C,_]:=l.isList;NN C
 refine call_enumerate_list l.isList λQ m hit _ hk=>Ly m ?_;refine#[Rz c,jxj,_,_,H1,rfl,qDb,QbM ad _ _ t.length (YbW _) xic (NL f),qBc,Ô b n,q]
 let g:qLa:=by
  show jpj
 show qk2
#print"-L2"
namespace Mi
open L2
abbrev ZV(c:MA):MI:=λa h=>(c a h).bind λp=>match p.1 with
 |[À b]=>qW5
 |_=>nO
section
variable{K:Nj}{R:Rn}
def Qcw(l:t5)(r:ύ):zS (ItE K a xs.length) (Zy ws) where
 go:=λi w p h H x d _ e=>by
  let c:=Ü e;show gN #[qzf,xs,zy3,rfl]
 yld:=λi w p h H x E e d _ m q=>by
  show(jAa,jM9);let n:=s xs jY4;show(â g1 n,jSa)
 stop:=λi p h H x d _ c=>by
  show gN #[SQ ou c,xs,zy3,rfl]
#print"-"
section
variable{X:Cx}{tg a:Expr}{ms:MA}{p pos tpos:Pos}{elts:ā}{kk:Nat}
def Qfy(t:bD)(s:Ri)(u:tZ)(r:ur:=by rfl):jSf (ZV ms):=
 YY (QhR t s u r) λy H C i=>by
  let#[R,c,h,items,n,B,q,st,e,k]:=i;show jK1
  ·show(jra,#[ad,j,rfl,Zf b.sub (Ş xvf),BU l b (Qcw (Ş xvf) o)])
  ·cases d
#print"-"
#print"-Mi"
namespace L2
open PySem.SeqAt
section
variable{prog:Program}{w:World}{A:Around}{E:Ñ}{s:Shared}
def Ui(h:Q 0xFCA86420 { s with toks:=A7 }):ä (pyHash .none):=by
 let a:[Value.none].any Value.onHeap=false:=rfl;show jC;rw[cRoomFor,if_neg (j0 a N9)];show Ν (Na qqc);apply wpAny _ _ (BF (sO (Value.builtin "NoneType.__hash__")==xif)) Q E s;rw[qwe];show Æ qqc;apply wpAny _ _ (callSpecialIfBoundUnlessNone? .none "__hash__" _>>=_) Q E s;show Æ (wpAny_callSpecialIfBoundUnlessNone?_slot zWf ID (Et ID zWf F.entry_NoneType_hash (show ń (do ret (<-mkInt 0xFCA86420)) from wpAny_ret_mkInt ?_) (F.args_NoneType_hash_1 _)));apply wpAny _ _ (BF (decide (-jge^63<=0xFCA86420)&&decide ((0xFCA86420:Int)<2^63))) Q E _;show(qx,Nl h)
def Qdv{stored:Ë}(c:∀v∈stored,∃k b,yJ/\uL k b)(h:wE):ä (tableMayTell .none stored):=by
 unfold tableMayTell;split
 ·show Nl h
 ·refine Na (m:=eqIsQuiet 8 .none) ζ;show ı (DO _ (λrest r a=>a=s/\r=fE/\∀v∈rest,∃d b,yJ/\uL d b) _ ?_ ?_ _ _ (zf9 c))
  ·rintro x rest r a ⟨rfl,rfl,e⟩
   let#[d,b,rfl,g]:=e x NA;show(Æ ((Qh prog w).quiet g ?_),ħ #[rfl,rfl,Η v f e])
  ·rintro r a ⟨rfl,rfl,_⟩
   show Nl h
def Ut {es ep} {xs:uK} (hu:Si) (n:Ń d=sO o) (hd:RJ) (I:es.toList=zsc) (m:∀x∈xs,(Qh prog w).is s.heap x.1 x.2.1)
  (z:Q nO s):ä (dictFind d .none g):=by
 let a:∀e∈es,∃x∈xs,e=entryOfKey zB2 x:=λe t=>by
  let:e∈zsc:=I▸FG.mpr t;let#[x,l,rfl]:=NC.mp this;show#[x,l,rfl]
 let q:∀v∈(placesWithHash es.size (λi=>es[i]?.map (·.hash)) g).filterMap (λi=>es[i]?.map (·.key)),∃B b,yJ/\uL B b:=by
  intro v D;let#[i,_,H]:=FZ.mp D;show Ϻ e u H;let#[x,l,rfl]:=a e (LN u);show#[x.1,x.2.1,rfl,m x l]
 let eq:∀{b:Addr} {k:Tr} {R:Cb},uL k b->R false s->Ϩ Ĝ (eqBool Ci .none) R s:=λ{b k R} J r=>by
  let#[_,_,C,_,_,F,_]:=Gx (show IsT s.heap 8 k Ci from J);show EqAt.tuple_none F hu prog w E R r
 refine N7 (Na (Ii n hd ?_));dsimp only
 by_cases h:((Value.none::(placesWithHash es.size (λi=>es[i]?.map (·.hash)) g).filterMap (λi=>es[i]?.map (·.key))).all carriedByValue)=true
 ·rw[Ò h];show Æ (xvg (λrest r j=>j=s/\r=fE))
  ·show qPd
   cases l:es[x]? with
   |none=>show ħ ś
   |some e=>
    show qke
    ·show(jGa,Na (Dy (CG ś)))
    ·show ħ ś
  ·show qu1
 ·rw [Ó h]
  let go:∀stored:Ë,wpAny Ĝ A (do
    let mut hit:A4:=nO
    for i in placesWithHash es.size (λi=>es[i]?.map (·.hash)) g do
     if let sO e:=zi6 then
      if e.hash==g then
       let c <-qk3
       let same <-eqBool e.key .none
       if(<-qk3) != c then unsupported "dict.changed-during-lookup"
       if same then
        if hit.isSome then unsupported "dict.find:order-among-keys-of-one-hash"
        rule "dict.find.hit"
        if stored.length<2 then return sO i
        hit:=sO i
       else
        rule "dict.find.same-hash-other-key"
        if false&&!(0<=g&&g<32)then unsupported "dict.find:asked-again-or-not-hangs-on-the-table"
    return hit) Q E s:=by
   intro stored;show Æ (xvg (λrest r j=>j=s/\r=(nO,nO)))
   ·show qPd
    cases l:es[x]? with
    |none=>show ħ ś
    | some e=>
     show qke
     ·show(jGa,Æ (Dy ?_))
      first|show jR|skip
      first|show ħ ś|show Na (CG (Nl ś))
     ·show ħ ś
   ·show qu1
  by_cases f:(((placesWithHash es.size (λi=>es[i]?.map (·.hash)) g).filterMap (λi=>es[i]?.map (·.key)))==[Value.none])=true
  ·rw[Ò f];show(Æ ζ,jR,go _)
  ·rw[Ó f];show(Æ (Qdv q ?_),jR,go _)
#print"-"
def YG(d:Addr)(hd:km)(dflt:Value) :
  MeetsIn prog w (Builtin.«dict.get» #[[Ä d,.none,dflt],[]]) (λA R s=>qT2/\∃xs,qjj/\R qtj { s with toks:=A7 }):=
 .of_wp λA R s b=>by
  let#[hu,xs,e,h]:=b;let#[o,i,j,c,_,hD,f,a,g]:=e;apply ń qDd;show(jpd f a,Ν (show ż (Builtin.Dict.missed d .none>>=_) from Na (wpAny_missed_other hd (jK #[dflt,rfl,h]))))
#print"-L2"
namespace Mi
open L2
abbrev Qaq(a:W)(ws:Ã)(h:MH):Ú:=match ws with
 |[.non,v]=>(XT h a).map λ_=>(v,h)
 |_=>QdK a ws h
def QcF(hu:ļ):QbA X "dict.get" Qaq:=by
 intro c s j H x d v p Q I i rv q;let#[R,h,a,l,w,J,f,g,b,e,k]:=q;unfold Qaq at e;split at e
 ·show(pi Y C M L,rK E M,zt y z B u b);let#[o,m,rfl,t,r]:=Wj rv;let#[S,d,U,Z,N,lo,P,dd]:=XG I f E;show(Š g,Ĵ F g,Cn v i,xp2 D y B o t);show LV Fq dd.typeIs LB zUg (YG Ŏ lo m) #[show lO by show zBa,d,dd,_,H,ų,r,Ļ f u]
 ·show Qik hu c s j H x d v p Q I i rv #[R,h,a,l,w,J,f,g,b,e,k]
#print"-Mi"
namespace Sb
open PySem SetTable
noncomputable abbrev pz(t:SetTable)(es:jn):List (Nat×xd1):=t.place.toList.zip es.toList
structure Tab(t:SetTable)(es:jn):Prop where
 up:Up t.place
 dum:xi6
 len:t.place.size=es.size
 le:∀j∈t.place.toList,j<=t.mask
 own:∀q∈pz t es,∃n,sj t.mask q.2.1 n=q.1/\∀k,k<n->sj t.mask q.2.1 k∈t.place.toList
def Tab.fill(T:TB):t.fill=es.size:=by
 unfold SetTable.fill;rw[T.dum,T.len];rfl
def Tab.fits(T:TB)(h:xa5):uM:=by
 unfold SetTable.fits;rw[T.fill,T.len];simp[h]
def Qn0(T:TB)(hi:yb):(d8 i,es[i])∈pz t es:=by
 rw[NH];show SS i;let b:t.place.toList[i]?=sO qW2:=by rw[NT];show at_get (by rw[T.len];show hi)
 let a:xig=sO es[i]:=by rw[NT];show NR hi
 rw[OT];show B3 b a
def Qgx{t:SetTable}{es:jn}(T:TB){hashAt:Nat->Int}{h:Int}{N:Nat}(hN:jz6)(B:jtg) :
  ∀(f n:Nat),n<=N->N-n<f->(∃b i,n<=b/\b<N/\yb/\d8 i=CF b/\hashAt i=h/\(jl0 b)/\qf4=sO (.candidate (sj t.mask h b) i (sq t.mask h (b+1)))) \/
   ((jl0 N)/\qf4=sO (.empty yQ nO)):=by
 intro f
 induction f with
 |zero=>
  intro n v u;show ý u fD
 | succ f A=>
  intro n v u;unfold probe.go
  rcases Dg n N with lt|ge
  ·let#[i,s,e]:=mem_at.mp (B n lt)
   let r:qBd=.live i:=by
    let:=Uw T.up s;show d9 e
   rw[r];dsimp only
   let uniq:∀a,qD6->d8 a=CF n->a=i:=λa C D=>by
    show M7 a i
    ·let:=T.up a i z s;lia
    ·show z
    ·let:=T.up i a z (bO C);lia
   by_cases c:hashAt i=h
   ·left;refine#[n,i,Nw _,lt,by rw[<-T.len];show s,e,c,jK3,?_];show Ŕ (by rw[c];show vf h);rfl
   ·rw[if_neg (by rw[beq_iff_eq];show c),Qbr]
    let step:∀k a,k=n->js9:=λk a l g d=>by
     subst l;rw[uniq a g d];show c
    rcases A (n+1) lt É with⟨b,a,x,q2,q3,q4,w,q,p⟩|⟨q,p⟩
    ·left;refine#[b,a,by show Nq x,q2,q3,q4,w,ϰ k o l g d m,p]
     show y7 n k y
     ·show q k o y g d m
     ·show qv1
    ·right;refine#[ϰ k o l g d m,p]
     show y7 n k y
     ·show q k o y g d m
     ·show qv1
  ·let:n=N:=by show EZ v ge
   subst this;right;refine#[jK3,?_];let r:qBd=.empty:=Qb4 T.dum hN;rw[r];dsimp only;rw[Qh4]
def QaP(xs:jgd)(p:Nat)(x:a)(b:p<=xs.size):(insertAt xs p x).toList=xs.toList.take p++x::xs.toList.drop p:=by
 unfold insertAt;simp[F9]
def QcY(x:d)(y:c):∀{l:Ø d} {k:Ø c} (_:l.length=k.length) (p:Nat),(l.take p++xvh).zip (k.take p++y::k.drop p)=(l.zip k).take p++(x,y)::(l.zip k).drop p
 |[],[],_,p=>Å
 |a::l,b::k,_,0=>rfl
 |a::l,b::k,h,p+1=>by
  let:=QcY x y (l:=l) (k:=k) pb p;show ϻ
def ins_mem{l:Ø a}:y∈l.take p++xvh↔y=x\/y∈l:=by
 rw[NI,NK]
 conv=>rhs;rw[<-Ir p l,NI]
 constructor
 ·show jjc
  ·show Ý h
  ·show Ć (Ė h)
 ·show jjc
  ·show Ý h
  ·show Ć (Ė h)
def up_list:Up xs↔xs.toList.Pairwise (·<·):=by
 rw[OY];constructor
 ·intro up i j d c a;let b:j<xs.size:=by rwa[NP]at c
  let:=up i j a b;show jsd b
 ·intro h i j a c;let:=h i j (by rw[NP];show NZ a c) (by rw[NP];show c) a;show jsd c
def QbS(up:Up xs)(j:Nat):(∀x∈xs.toList.take xd4,x<j)/\∀x∈xs.toList.drop xd4,j<=x:=by
 let#[e,d,c]:=XR up j;constructor
 ·intro x b;show By i a b;rw[Ybu]at a;split at a
  ·rename_i lt;rw[NT,at_get (Nf lt e)]at a;cases a;show d i lt
  ·cases a
 ·intro x b;show By i a b;rw[Ybv,NT]at a;let lt:zbh+i<xs.size:=xva;rw[at_get lt]at a;cases a;show c _ Ω lt
def QnX(T:TB)(v:CF N<=t.mask)(hN:jz6)(w:jtg) :
  (t.put yQ).1.mask=t.mask/\(t.put yQ).1.led=t.led/\(t.put yQ).1.moves=t.moves/\Tab (t.put yQ).1 (insertAt es zBf (h,x))/\(insertAt es zBf (h,x)).toList.Perm ((h,x)::es.toList):=by
 let#[p,F,E]:=XR T.up yQ;let c:(t.put yQ).1.place.toList=jye++CF N::znh:=QaP _ _ _ p;let e:(insertAt es zBf (h,x)).toList=jD8++jV8:=QaP _ _ _ (by rw[<-T.len];show p);let i:t.place.toList.length=es.toList.length:=by rw[NP,NP,T.len]
 refine#[rfl,rfl,rfl,#[?_,?_,?_,?_,?_],?_]
 ·rw[up_list,c,List.pairwise_append];let#[C,B]:=QbS T.up yQ;let m:=up_list.mp T.up
  let hd:∀y∈znh,CF N<y:=λy o=>by
   let l:=B y o;let D:y≠CF N:=λz=>hN (jhh z L8 o);lia
  refine#[m.take,?_,?_]
  ·rw[List.pairwise_cons];show#[hd,m.drop]
  ·intro a A b f;let l:=C a A
   show Ņ f
   ·show l
   ·let:=hd b f;show NZ l this
 ·apply(if has t.dummies yQ then _ else t.dummies)=#[];rw[T.dum];rfl
 ·rw[<-NP,<-NP,c,e];simp[T.len]
 ·intro j g;rw[c,ins_mem]at g
  show dQ g
  ·show v
  ·show T.le j g
 ·intro q u
  let d:q∈(jye++CF N::znh).zip (jD8++jV8):=by
   rw[<-c,<-e];show u
  rw[QcY _ _ i,ins_mem]at d;rw[c]
  show dQ d
  show č #[N,rfl,jx5 w]
  ·let#[n,s,r]:=T.own q d;show#[n,s,jx5 r]
 ·rw[e];refine YbV.trans (List.Perm.cons _ ?_);rw[Ir]
def Qkt(m:Nat)(h:Int):∀n,vX<=m/\aJ+xa6<=m:=by
 intro n
 induction n with
 |zero=>
  let b:=Qj1 m h 0;let d:=Qdd b;let a:=QaU m aF;show#[b,show aF+(runEnd m aF-aF)<=m by lia]
 |succ n c=>
  show Đ b d c;apply qv2<=m/\qv2+(adv m zJ7).more<=m;unfold adv;show zr6 e #[by apply aJ+1<=m;lia,by apply aJ+1+(xa6-1)<=m;lia]
  ·let a:pN<=m:=FA xMj;let g:=Qdd a;let f:=QaU m pN;show#[a,show pN+(runEnd m pN-pN)<=m by lia]
noncomputable abbrev Ow(o:cQ)(j:Nat):A4:=zVa
structure Lay(m:Nat)(hs:Ũ)(o:cQ):Prop where
 size:o.size=m+1
 own:∀j k,za2->∃h,hs[k]?=sO h/\∃n,vX=j/\qg5
 all:∀k,k<hs.length->∃j,za2
 one:∀j j' k,za2->yy j'=sO k->j=j'
def QtL(h:za2):j<o.size:=by
 rcases Dg j o.size with z|z
 ·show z
 ·simp[Ow,Array.getD,N6.mpr z]at h
def Qke(L:Lay m a o)(d:a.length<=m):∃x,x<=m/\yy x=nO:=by
 let#[x,b,c]:=Qjj (m:=m) (l:=(List.range a.length).map λk=>if h:k<a.length then Classical.choose (L.all k h)else 0) (by simp;show d);show Hq x b;cases e:yy x with
 |none=>rfl
 |some k=>
  exfalso;let#[h,hk,_]:=L.own x k e;let lt:k<a.length:=zSb;refine c (CY #[k,Ef.mpr lt,?_]);rw[dif_pos lt];show L.one _ _ k (LO (L.all k lt)) e
def Qj3{m:Nat}(h:Int){o:cQ}(y:o.size=m+1){K:Nat}(u:Ow o (bk m h K).1=nO):∀(f k:Nat),k<=K->K<k+f->(∀n,n<AH->qm5) ->
  ∃n,layClean.free m o f ό iU=sO tK/\yy tK=nO/\qg5:=by
 intro f
 induction f with
 |zero=>
  intro k l v _;omega
 | succ f r=>
  intro k l v j;unfold layClean.free
  let g:∀c,c<=HI->ό+c<o.size:=λc a=>by
   let:=Qdd (Qj1 m h k);let:=QaU m ό;omega
  let get:∀c,c<=HI->o.getD (ό+c) (sO 0)=yy (sj m h zm0):=λc a=>by
   rw[Qgc m h k c a];simp[Ow,Array.getD,g c a]
  let s:gE+1-ό=HI+1:=by
   let:=QaU m ό;lia
  rw[s];split
  ·rename_i c a;rw[List.find?_range_eq_some]at a;show Ů q x w a;rw[Ef]at x;rw[get c É]at q;refine#[AH+c,by rw[Qgc m h k c É],é q,Ô i t]
   show jIb i
   ·let p:=w (i-AH) (IQ z t);rw[qHc,jz7 i]at p;revert p;cases yy qJj<;>simp
  ·rename_i a
   let b:∀n,n<qSg->qm5:=by
    intro n A
    show jIb n
    ·let e:qSg=zwc:=rfl;rw[Dr]at a;let:=a (n-AH) (Ef.mpr É);rw[qHc,jz7 n]at this;revert this;cases yy tK<;>simp
   let d:k<K:=by
    show y7 k K z
    ·show z
    ·let:k=K:=by show EZ l z
     subst this;let:=b (AH+0) (by apply _<AH+_+1;lia);rw[qD9,O5,u]at this;cases this
   show r (k+1) d É b
def YS(a:j<o.size):Ow (o.setIfInBounds j zQ6) i=if i=j then sO k else yy i:=by
 show Ě c i j
 ·subst c;simp[Ow,Array.getD,a]
 ·rw[Ó c];unfold Ow;rw[Iv,Iv,Array.getElem?_setIfInBounds_ne jfd]
def Qma(F:Wr m)(L:Lay m l o)(C:zU8)(h:Int) :
  ∃j,jX0=sO j/\Lay m (l++[h]) (o.setIfInBounds j (sO l.length)):=by
 let#[x,B,r]:=Qke L C;let#[K,D,e]:=Qfh F h B;let#[n,w,v,u]:=Qj3 h L.size (K:=K) (j0 e r) eU 0 Ŋ qDe (λn r=>Sk r)
 let d:vX<o.size:=by
  let:=(Qkt m h n).1;rw[L.size];show qMc
 refine#[vX,w,?_,?_,?_,?_]
 ·rw[O9];show L.size
 ·intro j k hk;rw[YS d]at hk;split at hk
  ·rename_i z;cases hk;refine#[h,Å,n,z.symm,Ô i s];show jGb u
  ·let#[t,q,y,q2,q3]:=L.own j k hk;refine#[t,?_,y,q2,Ô i s]
   ·show lD q
   ·show jGb q3
 ·intro k hk;rw[NJ,Er]at hk
  rcases Dg k l.length with z|z
  ·let#[j,c]:=L.all k z;show SS j;rw[YS d,if_neg]
   ·show c
   ·rintro rfl
    show â v c
  ·refine#[vX,?_];rw[YS d,į];congr 1;lia
 ·let g:∀j,yy j≠sO l.length:=λj z=>by
   let#[t,q,_]:=L.own j _ z;let:=Ü q;show IC xve this
  intro j A k p f;rw[YS d]at p f;split at p
  ·cases p;split at f
   ·rename_i a b;rw[a,b]
   ·show ý f (g _)
  ·split at f
   ·cases f;show ý p (g _)
   ·show L.one j A k p f
def Qf5(F:Wr m):∀(rest a:Ũ) (o:cQ),Lay m a o->zAb<=m ->
  ∃b,(rest.foldl (init:=xa7) λc h=>do
   let(owner,k) <-c
   let j <-layClean.free m owner eU nV zSc
   pure (owner.setIfInBounds j zQ6,k+1))=sO (b,zAb)/\Lay m (a++rest) b:=by
 intro rest
 induction rest with
 |nil=>
  intro a o L _;show#[o,Å,é L]
 | cons h rest l=>
  intro a o L d;rw[NS]at d;let#[j,i,g]:=Qma F L (rP d) h;let#[b,f,q2]:=l (a++[h]) _ g qK0;refine#[b,?_,é q2];rw[LY]
  let e:((xa7:Option (cQ×Nat))>>=λp=>layClean.free m p.1 eU nV zSc>>=λj=>pure (p.1.setIfInBounds j (sO p.2),p.2+1))=sO (qsc,TH a [h]):=by
   apply(jX0>>=λj=>pure (qsc,zX9))=_;rw[i,NJ];rfl
  refine(congrArg (λz=>List.foldl _ z rest) e).trans (f.trans ?_);simp;show zf5
def QlG(m:Nat):Lay m [] qr4:=by
 let e:∀j,Ow qr4 j=nO:=λj=>by
  unfold Ow;rw[Iv,Array.getElem?_replicate];split<;>rfl
 refine#[Array.size_replicate,Õ j k h,λk h=>Sk h,Ł j a k h]
 ·show â e h
 ·show â e h
def Qaf(F:Wr m)(a:zZg)(b:a.size<=m):∃o,layClean m a=sO o/\Lay m a.toList o:=by
 let#[o,d,c]:=Qf5 F a.toList [] _ (QlG m) p9;refine#[o,?_,é c];unfold layClean;rw[<-Array.foldl_toList];show congrArg (λz=>Option.map (·.1) z) d
def Qh8(f:d->Ū e):∀(l:Ø d),((l.filterMap λj=>(f j).map (j,·)).map (·.1)).Sublist l:=by
 intro l
 induction l with
 |nil=>
  show .slnil
 |cons a l c=>
  rw[FS];cases f a with
  |none=>show(c).cons a
  |some b=>show(c).cons_cons a
def Qgf{f:c->Ū m}{l:Ø c}:p∈(l.filterMap λj=>(f j).map (j,·))↔p.1∈l/\f p.1=u5:=by
 rw[FZ];constructor
 ·rintro⟨a,g,e⟩
  show(Ϻ b d e,B3 g d)
 ·rintro⟨i,h⟩
  show#[p.1,i,Tp h]
def QlR(f:b->e)(g:b->d):∀l:Ø b,(l.map f).zip (l.map g)=u9 l x (f x,g x):=by
 intro l
 induction l with
 |nil=>
  show rfl
 |cons a l c=>
  simp[c]
def QpS:∀(l:Ø e),(∀a∈l,f a=sO (g a))->l.filterMap f=l.map g:=by
 intro l
 induction l with
 |nil=>
  show xj
 |cons a l c=>
  intro h;rw[FS,yx a,NB,c (Η b d h)]
def Qeq[BEq d][LawfulBEq d]:∀(l k:Ø d),l.Nodup->k.Nodup->(∀x,x∈l↔x∈k)->l.Perm k:=by
 intro l
 induction l with
 |nil=>
  intro k _ _ h;let:k=[]:=List.eq_nil_iff_forall_not_mem.mpr λx b=>nomatch (h x).mpr b
  rw[this]
 | cons a l f=>
  intro k c e h;let g:=(h a).mp NA;rw[Eo]at c;refine(List.Perm.cons a (f (k.erase a) c.2 (e.erase a) (è x))).trans (Ya4 g).symm;rw[e.mem_erase_iff];constructor
  ·show λb=>#[λz=>c.1 (S6 z b),(h x).mp zle]
  ·rintro⟨z,b⟩
   show CP ((h x).mpr b) y
   ·show ý y z
   ·show y
def QkR(F:Wr m)(es:jn)(I:es.size<=m)(A mv:Nat)(led pl:Bool) :
  ∃t' s,laid m A mv led pl (es.map (·.1))=Ċ t' s/\t'.mask=m/\t'.led=led/\t'.plain=pl/\Tab t' (s.filterMap (es[·]?))/\(s.filterMap (es[·]?)).toList.Perm es.toList:=by
 let#[o,E,L]:=Qaf F (es.map (·.1)) (Ģ I);let b:(es.map (·.1)).toList.length=es.size:=Å
 letI live:=(List.range (m+1)).filterMap λj=>(o.getD j nO).map (j,·)
 letI g:Nat->Int×Value:=λk=>es.getD k (0,.none)
 let d:∀p,p∈live↔p.1<m+1/\Ow o p.1=u5:=λp=>by
  apply p∈(List.range (m+1)).filterMap (λj=>(o.getD j nO).map (j,·))↔_;rw[Qgf (f:=λj=>zVa),Ef]
 let lk:∀p∈live,p.2<es.size:=λp a=>by
  let#[h,q,_]:=qv3;let:=Ü q;rwa[b]at this
 let lt:(live.map (·.1)).Pairwise (·<·):=List.Pairwise.sublist (Qh8 (λj=>zVa) qBb) List.pairwise_lt_range;let w:∀k,k<es.size->es[k]?=sO (g k):=λk hk=>by simp[g,Array.getD,hk]
 let x:(((live.map (·.2)).toArray).filterMap (es[·]?)).toList=live.map zY5:=by
  rw[Array.toList_filterMap,DH,QpS (f:=λk=>es[k]?) (g:=g),Ei]
  ·rfl
  ·intro k hk;show(qW9,w _ (lk p a))
 refine#[{ mask:=m,place:=(live.map (·.1)).toArray,dummies:=#[],finger:=A,led:=led,moves:=mv,plain:=pl },(live.map (·.2)).toArray,?_,rfl,rfl,rfl,#[?_,rfl,?_,?_,?_],?_]
 ·unfold laid;rw[E];rfl
 ·rw[up_list];apply((live.map (·.1)).toArray).toList.Pairwise _;rw[DH];show lt
 ·let:=RW x;rw[NP,Nr]at this;rw[this];simp
 ·intro j r;let v:j∈live.map (·.1):=é r
  show Ŭ p a v;let:=((d p).mp a).1;apply p.1<=m;lia
 ·intro q l;unfold pz at l;rw[x]at l;let e:q∈(live.map (·.1)).zip (live.map zY5):=é l
  rw[QlR]at e;show Ŭ p a e;let#[h,y,n,q2,q3]:=qv3
  let B:jb0=h:=by
   let J:=w p.2 (lk p a);rw[NT,Array.getElem?_map,J]at y;show N4 y
  refine#[n,?_,zY6]
  ·apply sj m jb0 n=p.1;show Β B q2
  ·apply sj m jb0 k∈((live.map (·.1)).toArray).toList;rw[B,DH];let:=q3 k hk;let#[H,u]:=DY.mp this;show yh #[(sj m h k,H),(d _).mpr #[by let:=(Qkt m h k).1;apply sj m h k<m+1;show qMc,u],rfl]
 ·rw[x]
  let D:(live.map (·.2)).Perm zH6:=by
   refine Qeq _ _ ?_ Fh (è k)
   ·show xvi;rw[DE]at lt;refine FP ?_ lt;intro p q a l t z;let:=L.one p.1 q.1 p.2 xdd (by rw[z];show((d q).mp l).2);show IC rE t
   ·rw[Ef];constructor
    ·intro hk;show(qW9,lk p a)
    ·intro hk;let#[j,r]:=L.all k (by rw[b];show hk);let:=QtL r;rw[L.size]at this;show yh #[(j,k),(d _).mpr #[this,r],rfl]
  let C:(live.map zY5).Perm ((List.range es.size).map g):=by
   let:=D.map g;rwa[Ei]at this
  refine C.trans ?_
  let:(List.range es.size).map g=es.toList:=by
   show SI i;rw[Nt]
   by_cases c:yb
   ·rw[Di c];show(w i c).symm.trans (NT ..).symm
   ·show zN2 p8;rfl
  rw[this]
open L2
section
variable{prog:Program}{w:World}{A:Around}{E:Ñ}{s:Shared}
def Qot:∀(n m:Nat) (k:Tr) (v:Value) (Q:Cb),qMd->n<=m->wE->ä (ofAClassStatement m v):=by
  intro n
  induction n with
  |zero=>show qCd
  | succ n y=>
   intro m k v Q x H h;cases k with
   |i k=>
    rcases x with⟨t,rfl⟩|⟨b,rfl,rfl⟩<;>(show(zO3,Nl h))
   |s k=>
    show(á x,zO3,Nl h)
   |t ks=>
    show pR m z (zt6 m)
    let#[a,u,rfl,#[o,g,B,l,hd],q]:=x;let C:zCb:=Ŷ o g B
    show(zO3,Æ (DK C ?_));dsimp only;show(qx,Æ ζ,Æ xbg,jC);rw[<-IU];refine DO _ (λrest zq3 e=>zhi/\e=s/\∃d,qlf d) _ ?_ ?_ _ _ qO4
    · show qy0 e f d p;cases p with
      | cons j q2=>
        show(Æ (qG7 j),ħ qO5)
    · show zod F D e f
def Qrq:∀(n m:Nat) (k:Tr) (v:Value) (Q:Cb),qMd->(∀b,Q b s)->ä (hashByValue m v):=by
  intro n
  induction n with
  |zero=>show λ_ _ _ _ x _=>x.elim
  | succ n y=>
   intro m k v Q x h;cases k with
   |i k=>
    rcases x with⟨t,rfl⟩|⟨b,rfl,rfl⟩<;>(show zp3)
   |s k=>
    show(á x,zp3)
   | t ks=>
    cases m with
    |zero=>
     let#[a,f,rfl,_]:=x;show zp3
    |succ m=>
    let#[a,f,rfl,#[o,j,z,l,hd],q]:=x;let B:zCb:=Ŷ o j z
    show(Æ (DF B YbB.lookup ?_),Æ (Fe j hd ?_),jDi f);refine DO _ (λrest zq3 g=>(zhi\/∃b,r.1=sO b)/\g=s/\∃e,qlf e) _ ?_ ?_ _ _ #[SH,rfl,ks,q]
    · show qy0 g d e u;cases u with
      | cons p q2=>
        show Æ (y m _ _ _ p lu);cases b with
        | true=>
          show ħ #[SH,rfl,_,q2]
        | false=>
          show ħ (Nl (h _))
    · show qCe D C g d
      simp only at d
      rcases d with d|⟨b,d⟩<;>(subst d;show ħ (h _))
def QpZ(f:fJ k Ġ):∀(stored:Ë),(∀v∈stored,jt1)->wE->ä (searchCouldBeSeen Ġ stored):=by
 intro stored j h;show jC;refine DO _ (λrest zq3 c=>zhi/\c=s/\∀v∈rest,jt1) _ ?_ ?_ _ _ (zf9 j)
 ·rintro v rest r c ⟨e,rfl,g⟩
  let#[k',b,rfl,i]:=g v NA;let nx:∀v∈rest,∃k' b,yJ/\L2.IsT c.heap 8 k' Ci:=Η v d g;refine L7 (λ_=>Nl qWa) vR;show(Æ (qK1 f),Æ (qK1 i),Æ (qHd f),Æ (qHd i),ħ qWa)
 ·show zod m l c e
#print"-"
abbrev Szs(t:SetTable)(n:Nat):Prop:=(t.mask=7/\n<=4)\/(t.mask=31/\n<=18)\/(t.mask=127/\n<=76)\/(t.mask=511/\n<=306)
def Szs.full(h:Szs t n):Wr t.mask:=by
 rcases h with⟨e,_⟩|⟨e,_⟩|⟨e,_⟩|⟨e,_⟩<;>rw[e]
 ·show QrK
 ·show Qjs
 ·show QcL
 ·show Qep
def Szs.lt(h:Szs t n):n<t.mask/\t.mask<=511/\t.gaveWay=false:=by
 unfold gaveWay
 rcases h with⟨e,_⟩|⟨e,_⟩|⟨e,_⟩|⟨e,_⟩<;>rw[e]<;>show#[Í,ÿ,ÿ]
section
variable{prog:Program}{w:World}{A:Around}{E:Ñ}{s:Shared}
abbrev Els(w:World)(h:Heap)(es:jn):Prop:=∀e∈es.toList,∃k b,e.2=Ä b/\L2.IsT h 8 k Ci/\e.1=hN w 8 k
def UU{es:jn}(hi:yb):((es[i]?.map (·.1)).getD 0:Int)=jgi:=by rw[NR hi];rfl
def Qfx (hu:zNe)
  (ho:ue) (hd:Cu) (T:TB) (Z:Szs t es.size) (X:Els w s.heap es) (hx:fJ k ϱ)
  (hN:sj t.mask (hN w 8 k) N∉t.place.toList) (hb:∀n,n<N->qv0 n∈t.place.toList) (aa:N<=10*(t.mask+12))
  (q1:(∃e∈es.toList,qHe)->Q (.there nO) s) (q2:(∀e∈es.toList,¬qHe)->Q (.free (zE5 N) false) s) :
  ∀(f n:Nat) (a:Option Probe),a.getD (t.probeStart Bj)=sq t.mask Bj n->n<=N->N-n<f->(∀h i (hi:yb),h<n->d8 i=qv0 h->¬qzg) ->
   ä (setSearchFrom S ϱ Bj true f a):=by
 intro f
 induction f with
 |zero=>
  intro n a _ _ z _;show ý z fD
 | succ f ih=>
  intro n a I hn hf j;show(xih,Æ qgb);dsimp only;rw[zg,if_neg Ç,I];let go:=Qgx T (hashAt:=λi=>(es[i]?.map (·.1)).getD 0) hN hb qMe n hn qDe;let pe:t.probe (λi=>(es[i]?.map (·.1)).getD 0) Bj zB4=probe.go t (λi=>(es[i]?.map (·.1)).getD 0) Bj qMe zB4:=rfl;apply wpAny _ _ (match t.probe (λi=>(es[i]?.map (·.1)).getD 0) Bj zB4 with|some met=>_|x=>_) _ _ _;rw[pe]
  let hash:∀i (hi:yb),qzg->jgi=zC8:=λi hi z=>by
   show jGc;rw[D]at z;rw[e3,X9 _ _ _ C z]
  rcases go with⟨h,i,g1,g2,g3,g4,g5,P,M⟩|⟨P,M⟩
  ·rw [M];dsimp only;show jGc;let hy:zi6=sO (jgi,Ä b):=by rw[NR g3,<-D]
   let rest:wpAny Ĝ A (do
     let sO (_,y):=zi6|unsupported "internal:set-entry"
     let g <-holding [y] (eqBool y ϱ)
     let(U,_,t') <-setState S
     if true&&g then return .there nO
     let sO same:=t'.sameMemory t.moves t.mask|unsupported "set.changed-during-lookup:is-the-new-block-at-the-old-address"
     let l <-match (if same then t'.slot (zE5 h)else .empty)with
      |.live F=>match U[F]? with
       |some (_,y')=>do pure (if <-isSame y' y then sO F else nO)
       |none=>SO
      |_=>SO
     match l with
     |none=>rule "set.search.anew";setSearchFrom S ϱ Bj true f nO
     |ã F=>if g then return .there (sO F)else setSearchFrom S ϱ Bj true f (sO (sq t.mask Bj (h+1)))) Q E s:=by
    rw[hy];dsimp only;show(Æ (N7 (QsN 8 A hu _ _ _ _ C hx _ _ _ _ ?_)),Æ qgb);dsimp only
    show Ě c k' k
    ·subst c;rw[qO3];simp only[Bool.and_self,if_true];show ħ (q1 #[es[i],Å,BD D C])
    ·rw [S7 c];simp only[Fb,EY,if_false];let sm:t.sameMemory t.moves t.mask=sO true:=by unfold sameMemory;show Ŕ qF6
     rw[sm];dsimp only;rw[į,<-g4,Uw T.up (bO g3)];dsimp only;rw[hy];dsimp only;show jC;unfold isSame;dsimp only;show(Ŕ qF6,Ν qI9);rw[į];dsimp only;refine ih (h+1) _ rfl g2 É λm q d hm r=>?_
     show y7 m n z
     ·show j m q d z r
     ·show y7 m h y
      ·intro hk;refine P m q z y d r ?_;rw[UU d];show hash q d hk
      ·let:m=h:=Í
       subst this
       let e:q=i:=by
        rcases D1 q i with u|u|u
        ·let:=T.up q i u (bO g3);lia
        ·show u
        ·let:=T.up i q u (bO d);lia
       subst e;intro hk;rw[D]at hk;show c (X9 _ _ _ C hk)
   cases hl:t.led with
   |true=>
    show(zL4,rest)
   | false=>
    simp only[Bool.not_false,if_true];show Æ (QpZ hx _ (λv hv=>?_) ?_)
    ·let#[e,r,rfl]:=NC.mp hv
     let J:e∈es.toList:=by
      let:=FG.mp r;show FG.mpr (Array.mem_filter.mp this).1
     let#[H,Y,z1,z2,_]:=X e J;show#[H,Y,z1,z2]
    ·simp only[EY,if_false];show rest
  ·rw [M];dsimp only;show Ν (q2 λe r hk=>?_)
   obtain⟨i,hi,rfl⟩:∃i,∃hi:yb,es[i]=e:=by
    let#[i,hi,z]:=Array.mem_iff_getElem.mp (FG.mp r);show#[i,hi,z]
   let#[p,B,L]:=T.own _ (Qn0 T hi);dsimp only at B L;rw[xp3]at B L
   let lt:p<N:=by
    show y7 p N z
    ·show z
    ·exfalso
     show y7 N p y
     ·show hN (L N y)
     ·let:p=N:=by show EZ y z
      subst this;show hN (by rw[B];show mem_at.mpr #[i,by rw[T.len];show hi,rfl])
   show y7 p n z
   ·show j p i hi z B.symm hk
   ·refine P p i z lt hi B.symm ?_;rw[UU hi];show xp3
#print"-"
noncomputable abbrev Ex(h h':Heap):Prop:=∀b o,qt b o
def Qbd(e:zgi)(x:fv):h'.IsTuple a its:=by show uk o b r x #[o,e _ _ b,r]
def Vp(e:zgi):∀{n:Nat} (k:Tr) (v:Value),jca h->jca h'
 |0,_,_,x=>x.elim
 |n+1,.i k,v,x=>x
 |n+1,.s k,v,x=>x
 |n+1,.t ks,v,qT3=>#[a,its,q,Qbd e p,V0 (λk v=>Vp e k v) r]
section
variable{prog:Program}{w:World}{A:Around}{E:Ñ}{s:Shared}{h₀:Heap}{G:Sc}
abbrev SetT(w:World)(G:Sc)(h₀ h:Heap)(a:Addr)(ks:jA)(led:Bool):Prop:=
 ∃o b c t,B8/\o.ExactSet/\qSd/\Tab t b/\Szs t b.size/\t.led=led/\Els w h₀ b/\ks.Nodup/\qVh/\(∀k,Mr↔∃e∈b.toList,L2.IsT h₀ 8 k e.2)/\∀e∈b.toList,G e.2
def SetT.at{led:Bool}(x:xa8 h)(e:l8):xa8 h':=jre
def Els.mono(e:zgi)(x:Els w h es):Els w h' es:=λq f=>let#[k,b,d,c,a]:=x q f;#[k,b,d,Vp e _ _ c,a]
def SetT.store{h:Heap}(d:B8)(c:o.ExactSet)(hd:Cu) :
  ∃b,oV/\zza/\zxd:=by
 let g1:oV:=Ep _ d qwb;show(ju6 c e,#[b,g1,g2,e])
def QeS(T:TB):Tab { t with plain:=b } es:=#[T.up,T.dum,T.len,T.le,T.own]
def Qiu(i:ue)(u:o.ExactSet)(hd:Cu)(T:TB)(v:xa5)(l:xvj=m+1)(F:Wr m)(e:es.size<=m)(d:m<=511)
  (h:∀h' g es' a t',Bg S->yi S=sO g->g.ExactSet->g.data=.set es' a t'->Tab t' es'->t'.mask=m->t'.led=t.led->es'.toList.Perm es.toList->Q () { s with heap:=h' }) :
  ä (setRelay S f):=by
 show Æ (E7 i hd (T.fits v) ?_);dsimp only;let big:¬xvj>sizeLine:=by rw[l,DA];show N6.mpr oy
 rw[if_neg big];let#[t',b,r,q,p,x,n,j]:=QkR F es e t.finger (t.movedTo m) t.led t.plain
 let rel:t.relaid (es.map (·.1)) f=Ċ t' b:=by
  unfold relaid;show Β l r
 rw[rel];show jC;let c:(b.filterMap (es[·]?)).size=es.size:=qSe j
 apply wpAny _ _ (do
  if(b.filterMap (es[·]?)).size != es.size then unsupported "internal:set-table-lost-an-element"
  pure (b.filterMap (es[·]?),t')) _ _ _
 rw[zv2 c];show Æ zeh;dsimp only;refine Lu i hd ?_ (by rw[c,DA];show Nq (ź (Nh e d)));let#[a,g1,g2,g3]:=SetT.store (es':=b.filterMap (es[·]?)) (t':=t') i u hd;show h _ _ _ a t' iF g1 g2 g3 n q p j
#print"-"
section
variable{prog:Program}{w:World}{A:Around}{E:Ñ}{s:Shared}{h₀:Heap}{G:Sc}
def QjC{es es':jn}(e:∀e∈es.toList,G e.2)(a:G x)(p:es'.toList.Perm ((g,x)::es.toList)):∀e∈es'.toList,G e.2:=λq b=>by
 show qk4
 ·show a
 ·show e q z
def Qbk(e:Els w h₀ es)(a:zD3)(p:es'.toList.Perm (cK::es.toList)):Els w h₀ es':=λq b=>by
 show qk4
 show č #[k,x,rfl,a,rfl]
 ·show e q z
def Qwi{led:Bool}(hu:zNe)(ext:jcb s)(hS:SetT w G h₀ s.heap S ks led)(P:zD3)(hG:G ϱ)(room:xv8<=306)
  (h:∀b h',Bg S->SetT w G h₀ h' S (if Mr then ks else ks++[k]) led->v9 b h') :
  ä (setAddHashed S ϱ Bj):=by
 let#[o,d,ep,t,ho,ah,hd,T,Z,J,el,aj,hn,y,hg]:=id hS;show xih;let hf:=T.fits xde;let#[N,N1,N2,N3]:=Qcs Z.full Bj (l:=t.place.toList) (by rw[NP,T.len];show Nq zl)
 let back:∀{j:Tr} {v:Value},(∃b,yJ/\qne)->fJ j v->L2.IsT h₀ 8 j v:=by
  rintro j v ⟨b,rfl,M,ab⟩ hj
  rw[X9 _ _ _ hj (Vp ext _ _ ab)];show ab
 let af:∀e∈d.toList,∃b,e.2=Ä b/\qne:=λe D=>by
  let#[M,b,F,U,_]:=el e D;show#[b,F,M,U]
 refine N7 (Na qPe);dsimp only;rw[if_neg (show¬byScan ϱ d=true from by unfold byScan;simp[Value.scannable])];show jC;refine Qfx hu ho hd T Z (el.mono ext) qWb N2 N3 N1 ?_ ?_ 100000 0 nO rfl Ŋ É (λn' i hi z=>Sk z)
 ·rintro⟨e,D,hk⟩
  let n:Mr:=(y k).mpr #[e,D,back (af e D) hk];show zi0;let q:=h false s.heap (YbH S s.heap) (by rw[Ò n];show hS);show q
 ·intro ai
  let n:k∉ks:=λn=>by
   let#[e,D,hk]:=(y k).mp n;show ai e D (Vp ext _ _ hk)
  rw[Ó n]at h;show Æ qPe;let#[p1,Y,p3,L,B]:=QnX T (h:=zC8) (x:=Ä x) (Qkt t.mask _ N).1 N2 N3;generalize t.put (zE5 N)=pt at p1 Y p3 L B;let#[t1,p]:=pt;dsimp only at p1 Y p3 L B ⊢
  let a:(insertAt d p cK).size=jdi:=by
   rw[<-NP,B.length_eq];simp
  let ae:Els w h₀ (insertAt d p cK):=Qbk el P B
  let aa:(ks++[k]).Nodup:=by
   rw[Ek];show#[aj,Å,jW3 n]
  let I:∀{r:jn},r.toList.Perm (cK::d.toList)->∀j,j∈ks++[k]↔∃e∈r.toList,L2.IsT h₀ 8 j e.2:=λpm j=>by
   rw[NI,ND,y j];constructor
   ·rintro(⟨e,D,q⟩|rfl)
    show č #[e,pm.mem_iff.mpr (C0 D),q]
    show č #[_,pm.mem_iff.mpr NA,P]
   ·rintro⟨e,D,q⟩
    rcases NK.mp (pm.mem_iff.mp D)with rfl|z
    ·show ê (X9 _ _ _ q P)
    ·show Ğ (Ŷ e z q)
  generalize insertAt d p cK=f at L B a ae ⊢
  let fin:∀g:SetTable,Tab g f->g.mask=t.mask->g.led=t.led->wpAny Ĝ A (do
    storeSet S f g
    if(!false&&g.tooFull)=true then do
     qag
     xD
    else xD) Q E s:=by
   intro g T2 C l2;show Æ (Lu ho hd ?_ (by rw[a,DA];show NZ (Ni (Nv hn) room) Ð));let#[al,g1,g2,g3]:=SetT.store (es':=f) (t':=g) ho ah hd;let X:=N0 s.heap S bw
   let tf:g.tooFull=decide (bE*5 >= t.mask*3):=by
    unfold tooFull;rw[T2.fill,C,a]
   rw[tf]
   let plain:Szs g bE->SetT w G h₀ (s.heap.update S bw) S (ks++[k]) led:=λz=>
    #[_,f,al,g,g1,g2,g3,T2,BD a z,l2.trans J,ae,aa,by rw[a,NJ,hn];rfl,I B,QjC hg hG B]
   let again:∀m,sizeAbove qb2=m+1->Wr m->jdi<=m->m<=511->(∀H:SetTable,H.mask=m->Szs H bE) ->
     wpAny Ĝ A (do qag;xD) Q E { s with heap:=dS S bw }:=by
    intro m a1 a2 a3 a4 a5;show ı (Qiu (s:={ s with heap:=dS S bw }) g1 g2 g3 T2 (by rw[a,C];show zl) a1 a2 (j0 a a3) a4 λh' o' r ak H c1 c2 c3 c4 c5 c6 c7 c8=>Nl ?_);refine h true h' (Ē X c1) #[o',r,ak,H,c2,c3,c4,c5,?_,c7.trans (Ē l2 J),Qbk el P (Ē c8 B),aa,?_,I (Ē c8 B),QjC hg hG (Ē c8 B)]
    ·let:r.size=jdi:=by rw[<-NP,c8.length_eq,NP,a]
     rw[this];show a5 H c6
    ·rw[<-NP,c8.length_eq,NP,a,NJ,hn];rfl
   rcases Z with⟨F,U⟩|⟨F,U⟩|⟨F,U⟩|⟨F,U⟩
   ·show zj5
    by_cases c:d.size=4
    ·show zm2;show again 31 Ð Qjs Ð Ð λH e=>ê (΢ zk2)
    ·show oG (zjb (lK zk4))
   ·show zj5
    by_cases c:d.size=18
    ·show zm2;show again 127 Ð QcL Ð Ð λH e=>ê (Υ (΢ zk2))
    ·show oG (zjb (lK (zpi zk4)))
   ·show zj5
    by_cases c:d.size=76
    ·show zm2;show again 511 Ð Qep Ð Ð λH e=>ê (Υ (jF zk2))
    ·show oG (zjb (lK (zpi (jF zk4))))
   ·show zj5;show oG (zjb (lK (Υ (jF (c9 #[C,by show Nh (N8 (Nv hn) _) room])))))
  cases hp:t1.plain with
  | true=>
   show Æ (Qrq 8 8 _ _ _ qWb lu);cases b with
   |true=>
    show xii
   |false=>
    show(jR,fin { t1 with plain:=false } (QeS L) p1 Y)
  |false=>
   show(jR,Æ ζ,xii)
#print"-"
abbrev uq[xl a](l:Ø a):Ø a:=jW6
section
variable{α:Type}[xl α]
def uq_snoc(l:Ø α)(x:α):uq zX6=if x∈uq l then uq l else uq l++[x]:=by unfold uq;rw[Lv];rfl
def snoc_ind{P:Ø α->Prop}(h0:P [])(h1:∀l x,P l->P zX6)(l:Ø α):P l:=by
 let:∀(n:Nat) (l:Ø α),xm->P l:=by
  intro n
  induction n with
  |zero=>show(zlh,h0)
  |succ n a=>
   show zu1
   show h1 u x (a u nv)
 show this _ l rfl
def QiV(l:Ø α):(uq l).length<=l.length:=by
 induction l using snoc_ind with
 |h0=>show Nw _
 |h1 l x a=>
  rw[uq_snoc,NJ,Er];split
  ·show w6 a
  ·rw[NJ,Er];show N8 a _
#print"-"
section
variable{prog:Program}{w:World}{A:Around}{R:cF}{I:Addr}{fp wr:Κ}{G:jN0}{n:Nat}{P:zli}{St':zla}{h₀:Heap}{G₁:Sc}
def QrJ(hu:A.in1.units+8<cLine)(W:qmi)(S:Addr)(f:S∉fp)(u:h₀.objs.size<=S)(m:∀b∈wr,h₀.objs.size<=b)(led:Bool)(l:jA)(N:xm)(M:∀i v,P i v->∃k x,l[i]?=sO k/\v=Ä x/\zD3/\G₁ ϱ)(Y:n+1<=306) :
  ∀(k i:Nat) (s:Shared),n-i=k->i<=n->St' i s->jcb s->zOf s qy1 ->
   (∀a,qza->zOf a (uq l)->R zB9 a) ->
   jQf:=by
 show jY0 D
 induction k with
 |zero=>
  show(xij,jq5 B N D)
 | succ k J=>
  show(xij,jyd);show Æ (W.item i s _ _ lt st λv a X g d=>?_);let#[H,x,L,rfl,E,U]:=M i v X;let y:zOf a qy1:=zB8 D;let c:jcb a:=λb o e=>d.heap b o (λz=>absurd (m b z) (DM.mpr AK)) (ext b o e);apply wpAny _ A.in1 (holding [jQ x] (setAdd S ϱ)>>=_) _ _ a;show Æ zfj;refine N7 (Na (QiE 8 A.in1 hu _ _ _ _ (Vp c _ _ E) ?_))
  let room:(uq Rt).length+1<=306:=by
   let:=QiV Rt;rw[Ez]at this;lia
  refine Qwi (s:={ a with toks:=a.toks+dN 8 H }) hu c y E U room (Ł b F h t)
  let r:SetT w G₁ h₀ F S (uq qW0) led:=by
   rw[E8,L,Fm,uq_snoc];show t
  let ext2:Ex h₀ F:=λb o e=>Bz h b (λz=>Ai u (zN9 z AK)) (c b o e);show Ν #[DN DD _,J (i+1) _ É lt (W.frame _ a _ _ g (Nu ..) jI6) ext2 r (Õ j p q)]
  ·show Bz h b (λC:b=S=>f (S6 C z)) e
  ·refine B j (Moved.trans W.gtrans ((d.mono sub).then_heap (Nu ..) jI7) p) q;show jm9 h C
#print"-"
section
variable{prog:Program}{w:World}{A:Around}{E:Ñ}{s:Shared}{G₁:Sc}
def Qbw(e:ő a=sO (St.emptySet b)):SetT w G₁ h₀ h a [] b:=
 #[_,#[],0,_,e,v7,rfl,#[λi j l g=>Sk g,rfl,rfl,λj f=>(M4 f),λq d=>(M4 d)],Ý #[rfl,ÿ],rfl,xle,EN,rfl,AY k #[λz=>(M4 z),λ#[_,z,_]=>(M4 z)],xle]
abbrev QrX(h:Heap)(items:Ķ)(a:jA):Prop:=a.length=items.size/\∀(i:Nat) (v:Value),zl9->∃(k:Tr) (x:Addr),a[i]?=sO k/\v=jQ x/\L2.IsT h 8 k (vM x)
def Qth{Q:Value->Shared->Prop}(hu:A.units+9<cLine)(P:jN1)(N:jz8)(hi:QrX s.heap items H)(hG:∀v∈items.toList,G₁ v)(B:jD9)
  (h:∀(h':Heap) (tk:Nat),jo9 (uq H)) :
  jo2 A (jof t):=by
 show jo8;let hT:jo7:=jIc
 let#[ol,g,p,nl,n]:=N;let#[I,d,y,c]:=ol;simp only at p n;subst p n;let f:(s.heap.push zme).get? l=sO { cls:=.type "list",dict:=d,data:=jJj,slots:=c }:=Np _ g;let m:(s.heap.push zme).IsList l items:=jma f
 show jxg;let n3:(Value.type "list"==jD4)=false:=by decide
 show job D m;let j:l<s.heap.objs.size:=NN g;let a:zmh=s.heap.objs.size+1:=DR _ _;let z:l≠zmh:=lz a (E9 j)
 let M:s.heap.objs.size∉[zmh,l]:=by
  rw[a];show(jB4,#[NL (N5 _),EK j])
 refine QrJ (h₀:=s.heap) (by apply lE+8<cLine;omega) ((OV (show A.in1.handled=nO by simp[P]) _ l z items).toS) s.heap.objs.size M (Nw _) (λb B=>by rw[ND.mp B,a];show DW _) TZ H hi.1 (λi v e=>let#[k,x,a1,L,a3]:=hi.2 i v e;#[k,x,a1,L,a3,by rw[<-L];show hG v (NH.mpr #[i,jD5])]) B (items.size-0) 0 _ rfl (NO _) #[#[_,NM _ rfl,rfl,rfl],m.push _] (λb o e=>Np _ (Np _ e)) (Qbw jmb) λt q C=>?_;let#[h',S,Z,r,u]:=t;let X:S=s.gens:=q.gens;let Y:Z=s.drawn:=q.drawn;let U:u=s.os:=q.os;subst X Y U;refine Nl (Nl #[rfl,h h' r C λb o e=>?_]);let lt:b<s.heap.objs.size:=NN e;refine q.heap b o ?_ (Np _ (Np _ e));show(jB4,#[NL lt,lz a (E9 lt)])
def set_tups(hu:A.units+12<cLine)(x:jN1)(u:jz8)(hi:QrX s.heap items t)(hG:∀v∈items.toList,G₁ v)(y:jD9)
  (h:∀(h':Heap) (tk:Nat),jo9 (uq t)) :
  wpAny jv8 A (call jGd [.ref l]) Q E s:=by
 let body:∀(i:Around),i.handled=nO->i.units+9<cLine->jo2 i (jof n):=by
  intro i B j;show Qth j B u hi hG y h
 show jsc o;refine YaU (Yam (show wpAny _ _ (callAny jGd _) _ _ _ from ?_));refine Nl #[Os _ (by decide +kernel),jqi];rw[Ybs (YaM "set" [Value.ref l] []) rfl];show jrf jGe
 show zn2
 refine Fk (St.newL jGe (E:=E) (Q₁:=λobj d=>obj=jz9/\d={ s with heap:=s.heap.push zme }) #[rfl,rfl]) λr d m=>?_;cases r with
 |error e=>show m
 | ok C=>
  cases C with
  | ret obj=>
   let#[rfl,rfl]:=m;show jo8;let z:jo7:=jIc
   show jxh jo6
   show zn2
   refine Fk (Ya1 (R:=wants (λr b=>r=.none/\Q jo6 b) E) E4.init.plain F.entry_set_init (check_set_init_1 z (Ej (body _ (by simp[x]) (by first|(apply lE+9<cLine;omega)|(apply lE+1+9<cLine;lia)|(apply lE+1+1+9<cLine;omega))) jD6 λ_ _ q=>q))) λg b a=>?_
   ·let#[rfl,q]:=q;show#[rfl,q]
   ·cases g with
    |error e=>show a
    | ok f=>
     cases f with
     |ret r=>
      let#[rfl,q]:=a
      show zn2
     |_=>show a.elim
  |_=>show m.elim
#print"-"
inductive Sh where
 |i
 |s
 |t (l:List Sh)
 |l (e:Sh)
abbrev Wf:Nat->Sh->Tr->Prop
 |0,_,_=>False
 |_+1,.i,k=>∃n,k=.i n
 |_+1,.s,k=>∃x,k=.s x
 |n+1,.t l,k=>∃ks,k=.t ks/\qDf
 |n+1,.l e,k=>∃ks,k=.t ks/\∀x∈ks,jdj
open PySem.W SeqAt
section
variable{A:Around}{s:Shared}
abbrev IsQ(h:Heap):jl4
 |0,_,_=>False
 |_+1,.i k,v=>∃t,v=.int k t
 |_+1,.s x,v=>qY9
 |n+1,.t ks,v=>∃a its,ψ/\fv/\r9 zY7
def QoM{n:Nat}(k:Tr)(v:Value)(x:xw0):jca h:=by
 induction n generalizing k v with
 |zero=>show C7 x
 | succ n c=>
  cases k with
  |i k=>show Ý x
  |s y=>show x
  |t ks=>
   show(ŏ a b e p q x,#[a,b,e,p,V0 c q])
def KO(e:zgi):∀{n:Nat} (k:Tr) (v:Value),xw0->IsQ h' n k v
 |0,_,_,x=>x.elim
 |n+1,.i k,v,x=>x
 |n+1,.s k,v,x=>x
 |n+1,.t ks,v,qT3=>#[a,its,q,Qbd e p,V0 (λk v=>KO e k v) r]
#print"-"
#print"-Sb"
namespace Us
open PySem.W
set_option autoImplicit false
abbrev Js:Bool->Keyed->ð->Nat->Nat->Nat->Ī Pn:=sortPriv% PySem.Builtin.gallop
abbrev KP:jK4:=sortPriv% PySem.Builtin.mergeLo
abbrev KQ:jK4:=sortPriv% PySem.Builtin.mergeHi
section
variable{prog:Program}{w:World}{A:Around}{E:Ñ}{s:Shared}
abbrev T(prog:Program)(w:World)(A:Around)(E:Ñ)(s:Shared){c:Type}(m:Ī c)(P:c->Ŝ)(st:SortSt):Prop:=
 ∀tk,kasC Ĝ A E m (λa b d=>(∃t,d={ s with toks:=t })/\P a b) st { s with toks:=tk }
section
variable{α β:Type}{P:pr}{P':α->Ŝ}{st:SortSt}{m:Ī α}
def Ql{a:α}(h:P' a st):û (pure a) P':=λtk=>kasC_pure kL
def Qg{g:α->Ī β}(h:û m (λa b=>T prog w A E s (g a) P b)):û (m>>=g) P:=λtk=>by
 refine kasC_bind (Ej (h tk) (Ak r f d) gp);let#[#[t,rfl],c]:=d;show c t
def JR{P:α->Ŝ}(h:û m P)(d:∀a b,P a b->P' a b):û m P':=
 λtk=>Ej (h tk) (λ_ _ c=>#[c.1,d _ _ c.2]) gp
def Yz{P:SortSt->Ŝ}(h:P st st):T prog w A E s get P st:=λtk=>kasC_get kL
def JD{g:SortSt->SortSt}{P:PUnit->Ŝ}(h:P ⟨⟩ (g st)):û (modify g) P:=λtk=>kasC_modify kL
def QsJ{a:SortSt}{P:PUnit->Ŝ}(h:P ⟨⟩ a):û (set a) P:=λtk=>by
 unfold kasC;rw[StateT.run_set];show ħ kL
def US{x:String}{P:zu4}(h:P () st):T prog w A E s (liftM (rule x):StateT SortSt Sem Unit) P st:=λtk=>kasC_lift (Dy kL)
def QM{c:Prop}[xw1]{a:Ī α}(h:c->û m P')(h':¬c->û a P'):û (if c then m else a) P':=by
 by_cases e:c
 ·rw[Ò e];show h e
 ·rw[Ó e];show h' e
abbrev St(Q I:pr)(r:ForInStep β)(a:SortSt):Prop:=match r with|jgc=>Q c a|je0=>I c a
def QpE{a b:Nat}{g:zni}{I:Nat->pr}(o:jqd)(p:qBe) :
  ∀(n i:Nat) (c:β) (st:SortSt),i+n=b->a<=i->xdf->û (forIn (List.range' i n 1) c g) P:=λn=>by
 induction n with
 |zero=>show λi c st e _ h=>Ql (p c st (e▸h))
 |succ n l=>
  intro i c st e f h;rw[YbT,LP];show Τ (JR (o i c st f (e▸Yaj (D0 n)) h) (Õ r d j));cases r with
  |done c=>show Ql j
  |yield c=>show l (i+1) c d ((Ld i n).trans e) (OO f) j
def QbJ{a b:Nat}{g:zni}(I:Nat->pr)(d:a<=b){c:β}(h:I a c st)(e:jqd)(f:qBe) :
  û qMf P:=by
 rw[Ybh,show([a:b]:Std.Legacy.Range).size=b-a by simp[Std.Legacy.Range.size]];show QpE e f (b-a) a c st (Eu d) (Nw a) h
def Kl{a b:Nat}{g:zni}(I:pr)(d:a<=b){c:β}(h:I c st)(e:∀i c st,a<=i->i<b->I c st->û (g i c) (St P I))(f:∀c st,I c st->P c st) :
  û qMf P:=QbJ (λ_=>I) d h e f
#print"-"
abbrev Cmp(prog:Program)(w:World)(A:Around)(s:Shared)(κ:SortKind)(M:jq):Prop:=
 ∀x y,M x->M y->∀(tk:Nat) (C:Cb),(∀b t,C b { s with toks:=t })->wpAny Ĝ A (keyLt' κ x.1 y.1) C jS { s with toks:=tk }
variable{κ:SortKind}{M:jq}{st:SortSt}
def Qqm{x y:Keyed}{P:fm->Ŝ}(e:i8)(hk:zdi=κ)(d:M x)(c:M y)(h:zK2):û (lt' x y) P:=by
 rw[lt'_eq];show δ Hj;refine Qg (m:=liftM (keyLt' xj0 x.1 y.1).attempt) λtk=>kasC_lift (LF ?_);rw[hk];refine Ej (e x y d c tk _ λb t=>(?_:(∃a,({ s with toks:=t }:Shared)={ s with toks:=a })/\_)) (wZ h) (S8 h);show#[Sd,Ql (h b)]
def Zj{xs:ð}{i:Nat}{P:Keyed->Ŝ}(hi:So)(h:P xs[i] st):û (elem' xs i) P:=by
 rw[elem'_eq,getElem?_pos xs i hi];show Ql h
#print"-"
structure O(M:jq)(n:Nat)(xs:ð):Prop where
 n:xs.size=n
 all:∀x∈xs.toList,M x
section
variable{M:jq}{n m:Nat}{xs ys:ð}
def O.at(h:TC){i:Nat}(hi:So):M xs[i]:=h.all _ Ç
def O.push(h:TC){x:Keyed}(b:M x):O M (n+1) (xs.push x):=#[by rw[Array.size_push,h.n],λy a=>by
 rw[Lr]at a
 show Bh a
 ·show zZ a
 show P3 a b]
def O.app(h:TC)(k:O M m ys):O M (n+m) (xs++ys):=#[by rw[YbF,h.n,k.n],λy a=>by
 rw[Array.toList_append]at a
 show(NI.mp a).elim (h.all y) (k.all y)]
def O.ext(h:TC){j:Nat}(i:Nat)(b:j<=n):O M (j-i) (xs.extract i j):=#[by rw[Array.size_extract,h.n,Yal b],λy a=>by
 rw[Array.toList_extract,List.extract_eq_take_drop]at a
 show zZ (L8 (FI a))]
def O.rev(h:TC):O M n xs.reverse:=#[by rw[Array.size_reverse,h.n],λy a=>zZ (by rw[Array.toList_reverse]at a;show IE.mp a)]
def O.perm(h:TC)(p:ys.Perm xs):O M n ys:=#[p.size_eq.trans h.n,λy a=>zZ ((Array.perm_iff_toList_perm.mp p).mem_iff.mp a)]
def O.cast(h:TC)(e:n=m):O M m xs:=e▸h
def O.lay(f:xS):∀(l:List Keyed) (k:Nat) (xs:ð),(∀x∈l,M x)->TC->O M n ((l.zipIdx k).foldl (zEe (f j)) xs):=λl=>by
 induction l with
 |nil=>show λ_ _ _ h=>h
 |cons p l d=>
  refine λk xs c h=>d (k+1) _ (ky x e c) #[(O9 ..).trans h.n,Ô y b];rw[OE]at b
  rcases List.mem_or_eq_of_mem_set b with b|rfl
  ·show zZ b
  ·show c _ NA
#print"-"
def Qci(left:Bool)(key:Keyed)(arr:Array Keyed)(base n hint:Nat):Js left key arr base n hint=(do
 let b (i:Nat):StateT SortSt Sem (Option Bool):=do
  let x <-elem' arr (base+i)
  if left then zse else return(<-zsf).map (!·)
 let mut lastofs:=0
 let mut ofs:=1
 let mut lo:=0
 let mut hi:=0
 let sO right <-b hint|return nO
 if right then
  let a:=n-hint
  for _ in [0:n] do
   if ofs >= a then break
   let sO more <-b (hint+ofs)|return nO
   if !more then break
   lastofs:=ofs
   ofs:=2*ofs+1
  lo:=hint+lastofs+1
  hi:=hint+min ofs a
 else
  let a:=hint+1
  for _ in [0:n] do
   if ofs >= a then break
   let sO found <-b (hint-ofs)|return nO
   if found then break
   lastofs:=ofs
   ofs:=2*ofs+1
  lo:=hint+1-min ofs a
  hi:=hint-lastofs
 for _ in [0:n] do
  if lo >= hi then break
  let m:=jC3
  let sO more <-b m|return nO
  if more then lo:=m+1 else hi:=m
 return sO hi):=rfl
abbrev QuF(left:Bool)(key:Keyed)(arr:ð)(base n lo hi:Nat):Ī Pn:=do
 let mut lo:=lo
 let mut hi:=hi
 for _ in [0:n] do
  if lo >= hi then break
  let m:=jC3
  let sO more <-(do
   let x <-elem' arr (base+m)
   if left then zse else return(<-zsf).map (!·))|return nO
  if more then lo:=m+1 else hi:=m
 return sO hi
section
variable{prog:Program}{w:World}{A:Around}{E:Ñ}{s:Shared}{κ:SortKind}{M:jq}{st:SortSt}{left:Bool}{key:Keyed}{arr:ð}{N base n hint:Nat}(hc:i8)(hk:zdi=κ)(hkey:M key)(ha:O M N arr)
include hc hk hkey ha
def QfY{i:Nat}{P:fm->Ŝ}(hi:i<N)(h:zK2) :
  T prog w A E s (do
   let x <-elem' arr i
   if left then zse else return(<-zsf).map (!·)) P st:=by
 let hi:=ha.n.symm▸hi;show δ (Zj hi ?_);cases left with
 |true=>show Qqm hc hk xp5 hkey h
 |false=>show pX (Qqm hc hk hkey xp5 λb=>Ql (h (!b)))
variable{P:A4->Ŝ}(hn:base+n<=N)(h:∀k,k<=n->P zQ6 st)
include hn h
def QgU{lo hi:Nat}(e:hi<=n):û (QuF left key arr base n lo hi) P:=by
 show Τ (Kl (λc d=>d=st/\∃l r,xdg n) Ŋ #[rfl,lo,hi,rfl,e] ?_ ?_)
 ·rintro i c _ _ _ ⟨rfl,l,r,rfl,a⟩
  dsimp only;refine QM (ϸ (Ql (h r a))) λc=>Qg (gO (Nf (NW (Nf ?_ a) base) hn))
  ·lia
  ·cases b with
   |true=>show Ql #[rfl,_,r,rfl,a]
   |false=>show Ql #[rfl,l,_,rfl,Í]
 ·rintro c _ ⟨rfl,l,r,rfl,a⟩
  show Ql (h r a)
def V3(d:hint<n):û (Js left key arr base n hint) P:=by
 rw[Qci];dsimp only;show δ (gO (Nf (NW d _) hn));cases b with
 | true=>
  dsimp only;show δ jS7
  ·show qm6;refine QM (λ_=>Ql ?_) λc=>Qg (gO (Nf (NW (Nat.add_lt_of_lt_sub' (DM.mp c)) base) hn))
   ·show jR2
   ·cases b with
    |true=>show qu2
    |false=>show Ql (QgU hc hk hkey ha hn h (lo:=hint+l+1) (hi:=hint+min o qWc) jXh)
  ·show xa9
   show jR2
 | false=>
  show zKb;let fin:∀l o,û (QuF left key arr base n (hint+1-min o (hint+1)) (hint-l)) P:=λl o=>QgU hc hk hkey ha hn h (Nh T0 SR);show δ jS7
  ·show qm6;refine QM (ϸ xw2) λc=>Qg (gO (Nf (NW qB0 base) hn));cases b with
   |false=>show qu2
   |true=>show Ql xw2
  ·show xa9
   show fin l o
#print"-"
set_option autoImplicit false
abbrev QgB(g:Nat)(st:SortSt):SortSt:=SortSt.mk' xj0 xp6 qWd g (failedOf st)
def GR(a b:ð):KP a b=(do
 qzh
 let d:=tQ
 let done (out:ð) (ia ib:Nat):=out++Rj++Rk
 let c (out:ð) (ia ib:Nat):=out++Rk++Rj
 let mut out:ð:=#[<-elem' b 0,]
 let mut ia:=0
 let mut ib:=1
 if zbi then return T4
 if eV then return za3
 let mut minGallop:=jN2
 for _ in [0:d] do
  let mut acount:=0
  let mut bcount:=0
  for _ in [0:d] do
   let sO e <-lt' zH8 zH9|return T4
   if e then
    out:=jmd;ib:=ib+1;bcount:=bcount+1;acount:=0
    if zbi then return T4
    if qMh then break
   else
    out:=jme;ia:=ia+1;acount:=acount+1;bcount:=0
    if eV then return za3
    if qMi then break
  zFh
  minGallop:=za4
  for _ in [0:d] do
   if xw3 then minGallop:=xw4
   nF
   let sO k <-Js false zH8 a ia (a.size-ia) 0|return T4
   acount:=k
   if k>0 then
    out:=out++qBf;ia:=ia+k
    if eV then return za3
    if ia==a.size then return T4
   out:=jmd;ib:=ib+1
   if zbi then return T4
   let sO k <-Js true zH9 b ib (b.size-ib) 0|return T4
   bcount:=k
   if k>0 then
    out:=out++qBg;ib:=ib+k
    if zbi then return T4
   out:=jme;ia:=ia+1
   if eV then return za3
   if qPf then break
  minGallop:=za4
  nF
 pM):=rfl
def GG(a b:ð):KQ a b=(do
 qzi
 let d:=tQ
 let done (out:ð) (na nb:Nat):=xdh++xdi++out.reverse
 let c (out:ð) (na nb:Nat):=xdi++xdh++out.reverse
 let mut na:=wW
 let mut nb:=b.size
 let mut out:ð:=#[<-elem' a na,]
 if na==0 then return T5
 if nb==1 then return za5
 let mut minGallop:=jN2
 for _ in [0:d] do
  let mut acount:=0
  let mut bcount:=0
  for _ in [0:d] do
   let sO f <-lt' jK5 jK6|return T5
   if f then
    na:=na-1;out:=qDg;acount:=acount+1;bcount:=0
    if na==0 then return T5
    if qMi then break
   else
    nb:=nb-1;out:=qDh;bcount:=bcount+1;acount:=0
    if nb==1 then return za5
    if qMh then break
  zFh
  minGallop:=za4
  for _ in [0:d] do
   if xw3 then minGallop:=xw4
   nF
   let sO e <-Js false jK5 a 0 na zd2|return T5
   let k:=na-e
   acount:=k
   if k>0 then
    out:=out++(a.extract e na).reverse;na:=e
    if na==0 then return T5
   nb:=nb-1;out:=qDh
   if nb==1 then return za5
   let sO e <-Js true jK6 b 0 nb zQj|return T5
   let k:=nb-e
   bcount:=k
   if k>0 then
    out:=out++(b.extract e nb).reverse;nb:=e
    if nb==1 then return za5
    if nb==0 then return T5
   na:=na-1;out:=qDg
   if na==0 then return T5
   if qPf then break
  minGallop:=za4
  nF
 pM):=rfl
def Zq{f:Type}{c:Prop}[xw1]{a b e d:f}(h1:a=e)(h2:b=d):ite c a b=ite c e d:=by rw[h1,h2]
def Qy{a b:Type}{m:Ī a}{g g':a->Ī b}(h:∀x,g x=g' x):qWe:=by rw[funext h]
def JE{a b:Type}{m:Ī (Option a)}{g g':Ū a->Ī b}(h0:g nO=g' nO)(h1:∀x,g zh3=g' zh3):qWe:=Qy λx=>by show(Χ x h0,h1 _)
noncomputable abbrev MS(X Y Z a:Type):=Option mh×X×Y×Z×a
abbrev Qnl{X Y Z:Type}(tot:Nat)(inn:jt2)(a:jui)(_:Nat)(s:zSd):Ī (Ru (MS X Y Z Nat)):=do
 let t <-forIn [0:tot] ((nO,s.2.1,ň,ϑ,0,0):qhb) (inn jb1)
 match t.1 with
 |ã r=>pure (ĩ (sO r,t.2.1,jH t,ML t,jb1))
 | none=>do
  zFh
  let u <-forIn [0:tot] ((nO,t.2.1,jH t,ML t,jb1+1,t.2.2.2.2.1,t.2.2.2.2.2):qhc) a
  match u.1 with
  |ã r=>pure (ĩ (sO r,u.2.1,jH u,ML u,zVb))
  |none=>do
   modify (QgB (zVb+1))
   pure (.yield (nO,u.2.1,jH u,ML u,zVb+1))
noncomputable abbrev InS:=qBh zBj
noncomputable abbrev GaS:=qBh pw
noncomputable abbrev HnS:=qBi zBj
noncomputable abbrev HgS:=qBi pw
section
variable(a b:ð)
abbrev Qr0(d:Nat)(_:Nat)(s:InS):Ī (ForInStep InS):=do
 let y <-elem' b ϑ
 let x <-elem' a ň
 match <-lt' y x with
 | ã c=>
  if BX then do
   let y <-elem' b ϑ
   if(ϑ+1==b.size)=true then pure (ĩ (sO (iV y++jB5++Ct b (ϑ+1)),iV y,ň,ϑ+1,0,T8+1))
   else if T8+1 >= d then pure (ĩ jx6)
   else pure (.yield jx6)
  else do
   let x <-elem' a ň
   if(ň+1+1==a.size)=true then pure (ĩ (sO (iV x++jB6++Ct a (ň+1)),iV x,ň+1,ϑ,jp+1,0))
   else if jp+1 >= d then pure (ĩ jx7)
   else pure (.yield jx7)
 |_=>pure (ĩ (sO (s.2.1++jB5++jB6),s.2.1,ň,ϑ,jp,T8))
abbrev Qrg(out:ð)(c d f ac e:Nat):Ī bQ:=do
 let x <-jd a c
 if(c+1+1==a.size)=true then pure (ĩ (sO (j7 x++oH++Ct a (c+1)),j7 x,c+1,d,f,ac,e))
 else if qm4=true then pure (ĩ jyf)
 else pure (.yield jyf)
abbrev QqZ(out:ð)(d c e ac f:Nat):Ī bQ:=do
 let y <-jd b c
 if(c+1==b.size)=true then pure jPb
 else do
  let x <-jd a d
  match <-Js true x b (c+1) (b.size-(c+1)) 0 with
  | ã k=>
   if k>0 then
    if(c+1+k==b.size)=true then pure (ĩ (sO (j7 y++zFj++Ct a d++Ct b je1),j7 y++zFj,d,c+1+k,e,ac,k))
    else Qrg a b (j7 y++zFj) d je1 e ac k
   else Qrg a b eB d (c+1) e ac k
  |_=>pure jPb
abbrev Qrk(out:ð)(c d e ac f:Nat):Ī bQ:=do
 xdj
 let y <-jd b d
 match <-Js false y a c (MX c) 0 with
 | ã k=>
  if k>0 then
   if(c+k+1==a.size)=true then pure (ĩ (sO (nn++oH++jId),nn,c+k,d,e,k,f))
   else if(c+k==a.size)=true then pure (ĩ (sO (nn++jId++oH),nn,c+k,d,e,k,f))
   else QqZ a b (out++a.extract c (c+k)) (c+k) d e k f
  else QqZ a b out c d e k f
 |_=>pure (ĩ (sO (out++Ct a c++oH),out,c,d,e,ac,f))
abbrev Quo(_:Nat)(s:GaS):Ī bQ:=
 if jp>1 then Qrk a b s.2.1 ň ϑ (jp-1) tR tT else Qrk a b s.2.1 ň ϑ jp tR tT
#print"-"
section
variable(a b:ð)
abbrev hD(out:ð)(d c:Nat):ð:=xe0 a d b c
abbrev hF(out:ð)(d c:Nat):ð:=xe0 b c a d
abbrev QtC(d:Nat)(_:Nat)(s:HnS):Ī (ForInStep HnS):=do
 let y <-jEf
 let x <-jd a zY8
 match <-lt' y x with
 | ã c=>
  if BX then do
   let x <-jd a zY8
   if(zZ7==0)=true then pure (ĩ (sO (hD a b (s.2.2.2.1.push x) zY8 ň),zZ7,ň,nY x,jp+1,0))
   else if jp+1 >= d then pure (ĩ jy0)
   else pure (.yield jy0)
  else do
   let y <-jEf
   if(ň-1==1)=true then pure (ĩ (sO (hF a b (s.2.2.2.1.push y) s.2.1 (ň-1)),s.2.1,ň-1,nY y,0,T8+1))
   else if T8+1 >= d then pure (ĩ jv9)
   else pure (.yield jv9)
 |_=>pure (ĩ (sO (hD a b ϑ s.2.1 ň),s.2.1,ň,ϑ,jp,T8))
abbrev Qre(c d:Nat)(out:ð)(f ac e:Nat):Ī bR:=do
 let x <-jd a (c-1)
 if(c-1==0)=true then pure (ĩ (sO (hD a b (out.push x) (c-1) d),c-1,d,j7 x,f,ac,e))
 else if qm4=true then pure (ĩ jyg)
 else pure (.yield jyg)
abbrev Qq9(d c:Nat)(out:ð)(e ac f:Nat):Ī bR:=do
 let y <-jd b (c-1)
 if(c-1==1)=true then pure (ĩ (sO (hF a b eB d (c-1)),d,c-1,j7 y,e,ac,f))
 else do
  let x <-jd a (d-1)
  match <-Js true x b 0 (c-1) (c-1-1)with
  | ã k=>
   if c-1-k>0 then
    if(k==1)=true then pure (ĩ (sO (hF a b zqg d k),d,k,j7 y++zy0,e,ac,c-1-k))
    else if jHh then pure (ĩ (sO (hD a b zqg d k),d,k,j7 y++zy0,e,ac,c-1-k))
    else Qre a b d k zqg e ac (c-1-k)
   else Qre a b d (c-1) eB e ac (c-1-k)
  |_=>pure (ĩ (sO (hD a b eB d (c-1)),d,c-1,j7 y,e,ac,f))
abbrev Qq2(c d:Nat)(out:ð)(e ac f:Nat):Ī bR:=do
 xdj
 let y <-jd b (d-1)
 match <-Js false y a 0 c (c-1)with
 | ã k=>
  if c-k>0 then
   if jHh then pure (ĩ (sO (hD a b jN3 k d),k,d,out++qi4,e,c-k,f))
   else Qq9 a b k d jN3 e (c-k) f
  else Qq9 a b c d out e (c-k) f
 |_=>pure (ĩ (sO (hD a b out c d),c,d,out,e,ac,f))
abbrev Quc(_:Nat)(s:HgS):Ī bR:=
 if jp>1 then Qq2 a b s.2.1 ň ϑ (jp-1) tR tT else Qq2 a b s.2.1 ň ϑ jp tR tT
#print"-"
section
variable(a b:ð)
local macro_rules|`(tactic|walk_at"mrg")=>`(tactic|(show zvg))
local macro_rules|`(tactic|walk_at"mrh")=>`(tactic|(
 dsimp only;refine congrArg ze9 (funext λ_=>congrArg ze9 (funext λy=>congrArg xw6 (congrArg xw6 (congrArg ze9 (funext λst=>qi5)))))
 ·refine congrArg sU (funext λ_=>funext (è s));refine jGf t
  ·show jEg
  ·obtain⟨_|r,t⟩:=t
   ·refine congrArg ze9 (funext λ_=>jGf u)
    ·show jEg
    ·show zTi u
   ·rfl
 ·funext t
  show zTi t))
set_option maxRecDepth 10000 in
set_option maxHeartbeats 400000 in
def Qb7:KP a b=(do
 qzh
 let y <-elem' b 0
 if(1==b.size)=true then pure (#[y,]++qPg++qPh)
 else if(0+1==a.size)=true then pure (#[y,]++qPh++qPg)
 else do
  let st <-get
  let t <-forIn [0:tQ] ((nO,#[y,],0,1,zVc):MS mh Nat Nat Nat) (Qnl zN3 (Qr0 a b) (Quo a b))
  match t.1 with
  |ã r=>Hw
  |none=>pM):=by
 rw[GR];unfold Qnl Quo Qrk QqZ Qrg Qr0
 walk_at"mrh"
set_option maxRecDepth 10000 in
set_option maxHeartbeats 400000 in
def Qcq:KQ a b=(do
 qzi
 let x <-jd a zaj
 if(wW==0)=true then pure (hD a b #[x,] zaj b.size)
 else if(b.size==1)=true then pure (hF a b #[x,] zaj b.size)
 else do
  let st <-get
  let t <-forIn [0:tQ] ((nO,wW,b.size,#[x,],zVc):MS Nat Nat mh Nat) (Qnl zN3 (QtC a b) (Quc a b))
  match t.1 with
  |ã r=>Hw
  |none=>pM):=by
 rw[GG];unfold Qnl Quc Qq2 Qq9 Qre QtC hD hF
 walk_at"mrh"
#print"-"
set_option autoImplicit false
abbrev Sg(st a:SortSt):Prop:=∃g,a=QgB g st
def Sg.refl(st:SortSt):Sg st st:=#[zVc,rfl]
def Sg.kind{st a:SortSt}(h:Sg st a):kindOf a=zdi:=by show Ĵ g h;rfl
def Sg.set{st a:SortSt}(h:Sg st a)(g:Nat):Sg st (QgB g a):=by show(Ĵ b h,Mq g)
section
variable{X Y Z τ:Type}(L:qPi)(Rr:ð->Prop)
abbrev Yl(n:Nat)(t:xw5):Prop:=t.1=nO/\L n t.2.1 (jH t) (ML t)
abbrev Sl(n:Nat)(t:xw5):Prop:=(∃r,t.1=sO r/\Rr r)\/zfa
abbrev Rs(n:Nat)(st0:SortSt)(r:ForInStep (MS X Y Z τ))(a:SortSt):Prop:=Sg st0 a/\match r with|jgc=>Sl L Rr n c|je0=>Yl L n c
#print"-"
section
variable{prog:Program}{w:World}{A:Around}{E:Ñ}{s:Shared}{κ:SortKind}{M:jq}{a b:ð}{st st0:SortSt}
section
variable{X Y Z:Type}{L:qPi}{Rr:ð->Prop}{tot:Nat}{inn:jt2}{ga:jui}
 (h1:∀mg i n t st,Tv->zfa->û (inn mg i t) (Rs L Rr (n+1) st0))
 (h2:∀i n t st,Tv->zfa->û (ga i t) (Rs L Rr n st0))
 (mon:∀{m n x y z},n<=m->L m x y z->L n x y z)
include h1 h2 mon
def QsB{i n:Nat}{t:zSd}(p:0<tot)(f:Tv)(h:zfa) :
  û (Qnl tot inn ga i t) (λr d=>vY/\match r with|jgc=>qMj|je0=>qWf):=by
 let#[_,x,y,z,mg]:=t;show Th h;show Τ (JR (P:=jIe) (QbJ (λk c d=>vY/\Yl L (n+k) c) Ŋ #[f,rfl,h] ?_ ?_) ?_)
 ·show zKc d (h1 mg k _ c d f hI)
  rintro(j|j) g ⟨f,q⟩
  show č #[f,q.imp_right (AY q #[q.1,mon (IF Ω) q.2])]
  show č #[f,q]
 ·rintro c d ⟨f,q⟩
  show#[f,ê #[q.1,mon (Ew p n) q.2]]
 ·rintro⟨S,N,I,F,C,v⟩ d ⟨f,⟨r,e,q⟩|⟨e,q⟩⟩
  show qoc
  ·cases e;show Τ (US (Qg (JR (P:=jIe) (Kl (λc d=>vY/\qWf) Ŋ #[f,rfl,q] ?_ λc g q=>#[q.1,.inr q.2]) ?_)))
   ·show zKc g (h2 k _ c g f hI)
    rintro(j|j) l q
    ·show q
    ·show q
   ·rintro⟨Q,J,H,D,o,B,u⟩ g ⟨f,⟨r,e,q⟩|⟨e,q⟩⟩
    show qoc
    ·cases e;show C8 (JD (Ql #[f.set _,rfl,q]))
def QeJ{c:zSd}(j:0<tot)(f:Tv)(h:Yl L 0 c)(no:∀x y z,¬L tot x y z){P:ð->Ŝ}(l:∀r d,vY->Rr r->P r d) :
  T prog w A E s (do
   let t <-forIn [0:tot] c (Qnl tot inn ga)
   match t.1 with
   |ã r=>Hw
   |none=>pM) P st:=by
 show Τ (JR (P:=λc d=>vY/\qMj) (QbJ (λk c d=>vY/\Yl L k c) Ŋ (ĺ f h) ?_ λc d q=>(no _ _ _ q.2.2).elim) ?_)
 ·show zKc d (QsB h1 h2 mon j f hI)
  rintro(o|o) g q
  ·show q
  ·show q
 ·rintro⟨u,p⟩ d ⟨f,r,e,q⟩
  cases e;show Ql (l r d f q)
#print"-"
def Ku{i n:Nat}(h:¬(i==n)=true):i≠n:=λe=>h (by rw[e,beq_self_eq_true])
def Ke{i n:Nat}(h:i<n)(e:¬(i+1==n)=true):i+1<n:=DV h zha
abbrev Lo(M:jq)(a b:ð)(n:Nat)(out:ð)(d c:Nat):Prop:=n<=d+c/\O M (d+c) out/\d+1<a.size/\c<b.size
def q4{i j n m:Nat}(h1:i<=n)(h2:j<=m):i+j+(n-i)+(m-j)=n+m:=by
 rw[Df i j,Eu h1,Da,Eu h2]
def q2{k i n c:Nat}(hk:k<=i)(h1:i<=n):n-i+c+(i-k)=n-k+c:=by
 rw[Df,YaC h1 hk]
def q3{k i n c:Nat}(hk:k<=i)(h1:i<=n):c+(n-i)+(i-k)=c+(n-k):=by
 rw[Da,YaC h1 hk]
noncomputable abbrev Ro(M:jq)(a b r:ð):Prop:=O M zN3 r
variable(hc:i8)(hk:xj1)(ha:zg0 a)(hb:zg0 b)
section
variable{out:ð}{ia ib:Nat}
include ha hb
def Ya(o:uV)(h1:ia<=a.size)(h2:ib<=b.size):Ro M a b (out++Rj++Rk):=
 ((o.app qzj).app qA0).cast (q4 h1 h2)
def WH(o:uV)(h1:ia<=a.size)(h2:ib<=b.size):Ro M a b (out++Rk++Rj):=
 ((o.app qA0).app qzj).cast ((Df ..).trans (q4 h1 h2))
omit hb in
def Qvg(o:uV)(h:ia<a.size):O M (ia+1+ib) (out.push a[ia]):=(o.push xw7).cast qF7
omit hb in
def Qse(o:uV)(k:Nat)(h:xp9):O M (ia+k+ib) (out++qBf):=(o.app (ha.ext ia h)).cast É
omit ha in
def QrS(o:uV)(k:Nat)(h:ib+k<=b.size):O M (ia+xp7) (out++qBg):=(o.app (hb.ext ib h)).cast É
include hc hk
def QpR(p i n:Nat)(t:InS)(st:SortSt)(f:Tv)(h:Yl zJ9 n t) :
  û (Qr0 a b p i t) (mj zJ9 (n+1)):=by
 let#[_,out,ia,ib,ac,q]:=t;let#[rfl,m,o,l,c]:=h;let g:=Dv l;show δ (qW c (qff g f c));cases lt with
 |true=>
  dsimp only;let d:qwf:=o.push xw8;show C8 (C9 c (HJ (Ρ #[f,Ý #[_,rfl,Ya ha hb d jff c]]) (Ρ #[f,ê #[rfl,IF m,d,l,Ke c e]]) #[f,rfl,IF m,d,l,Ke c e]))
 |false=>
  show zKb;let d:=Qvg ha o g;let j:n+1<=ia+1+ib:=Nh (IF m) (Nv qF7);show C8 (C9 g (HJ (Ρ #[f,Ý (zK3 g c)]) (Ρ #[f,ê #[rfl,j,d,Ke l e,c]]) #[f,rfl,j,d,Ke l e,c]))
variable{mg ac bc n:Nat}(hg:Tv)
include hg
omit hc hk in
def QiP(g:je2)(o:uV)(h1:zVd)(h2:jb2) :
  û (Qrg a b out ia ib mg ac bc) zr7:=by
 let f:=Dv h1;let d:=Qvg ha o f;let c:n<=ia+1+ib:=Nh g (N8 Mh _);show C8 (C9 f (HJ (Ρ #[hg,Ý (zK3 f h2)]) (Ρ #[hg,ê #[rfl,c,d,Ke h1 e,h2]]) #[hg,rfl,c,d,Ke h1 e,h2]))
def Qi7(i:je2)(o:uV)(h1:zVd)(h2:jb2) :
  û (QqZ a b out ia ib mg ac bc) zr7:=by
 let d:=Dv h1;let f:qwf:=o.push xw9;show Τ (C9 h2 (QM (ci (jC4 f h2)) λe=>Qg (Zj d (Qg (V3 hc Rv (ha.at d) hb (Nv (Eu h2)) (jf k g) (OP xwa))))));let c:ib+1+k<=b.size:=YaO h2 g;refine QM vR λ_=>QiP ha hb hg (OO i) f h1 xwa;let h:=QrS hb f k c;show QM (ci (jC4 h c)) λj=>QiP ha hb hg É h h1 (DV c (Ku j))
def QiG(h:je2)(o:uV)(h1:zVd)(h2:jb2) :
  û (Qrk a b out ia ib mg ac bc) zr7:=by
 let g:=Dv h1;let hg:=hg.set mg;show δ (JD (Qg (qW h2 (Qg (V3 hc Rv xw9 ha (Nv (Eu jff)) (jf k f) (OP g))))));let c:xp9:=YaO jff f;refine QM vR λ_=>Qi7 hc hk ha hb hg h o h1 h2;let d:=Qse ha o k c;show QM (Ρ #[hg,Ý (zK3 c h2)]) λe=>QM (Ρ #[hg,Ý #[_,rfl,Ya ha hb d c (Nq h2)]]) λi=>Qi7 hc hk ha hb hg É d (Ke (DV c (Ku i)) e) h2
#print"-"
include hc hk ha hb in
def Qd1{P:ð->Ŝ}(h1:0<a.size)(h2:0<b.size)(h:qpa):T prog w A E s (KP a b) P st0:=by
 rw[Qb7];let o:O M (0+1) #[b[0],]:=#[rfl,λx j=>by rw[ĸ j];show hb.at h2]
 show Τ (US (Qg (C9 h2 (QM (ϸ (za1 (Ya ha hb o Ŋ h2))) λe=>QM (ϸ (za1 (WH ha hb o Ŋ h2))) λl=>Qg Hj))));refine QeJ (L:=Lo M a b) (Rr:=Ro M a b) (QpR hc hk ha hb) qF8 qgg xpa qfg #[rfl,NO _,o,Ke h1 l,Ke (i:=0) h2 e] (λx y z q=>?_) h
 ·let#[_,g,v,u,p,ac,B]:=t;let#[rfl,d,o,h1,h2]:=y;show QM (λ_=>qwg) λ_=>qwg
 ·let#[m,_,q2,q3]:=q;lia
#print"-"
set_option autoImplicit false
section
variable{prog:Program}{w:World}{A:Around}{E:Ñ}{s:Shared}{κ:SortKind}{M:jq}{a b:ð}{st st0:SortSt}
abbrev Hi(M:jq)(a b:ð)(n d c:Nat)(out:ð):Prop:=n<=(MX d)+xp8/\O M ((MX d)+xp8) out/\0<d/\d<=a.size/\1<c/\c<=b.size
variable(hc:i8)(hk:xj1)(ha:zg0 a)(hb:zg0 b)
section
variable{out:ð}{na nb:Nat}
include ha hb
def KZ(o:Pr)(h1:zbj)(h2:zc0):Ro M a b (hD a b out na nb):=
 (((ha.ext 0 h1).app (hb.ext 0 h2)).app o.rev).cast qj9
def WN(o:Pr)(h1:zbj)(h2:zc0):Ro M a b (hF a b out na nb):=
 (((hb.ext 0 h2).app (ha.ext 0 h1)).app o.rev).cast ((congrArg (·+_) (FQ ..)).trans qj9)
omit hb in
def QtG(o:Pr){k:Nat}(hk:k<=na)(h1:zbj):O M ((MX k)+zHa) (out++(a.extract k na).reverse):=(o.app (ha.ext k h1).rev).cast (q2 hk h1)
omit ha in
def Qtl(o:Pr){k:Nat}(hk:k<=nb)(h1:zc0):O M (jf1 (b.size-k)) (out++(b.extract k nb).reverse):=(o.app (hb.ext k h1).rev).cast (q3 hk h1)
omit hb in
def QuI(o:Pr)(h0:0<na)(h1:zbj)(h:za6):O M ((MX zd2)+zHa) (out.push a[na-1]):=(o.push xw7).cast (by let:=q2 (c:=b.size-nb) (De na 1) h1;rwa[YbY h0]at this)
omit ha in
def Qvd(o:Pr)(h0:0<nb)(h1:zc0)(h:xwb):O M (jf1 qob) (out.push b[nb-1]):=(o.push (hb.at h)).cast (by let:=q3 (c:=a.size-na) (De nb 1) h1;rwa[YbY h0]at this)
omit ha hb in
def YC{i n:Nat}(h:n<i)(e:¬(i-1==n)=true):n<i-1:=DV (Nat.le_sub_one_of_lt h) (jf2 e)
include hc hk
def QpX(u i n:Nat)(t:HnS)(st:SortSt)(j:Tv)(h:Yl zJa n t):û (QtC a b u i t) (mj zJa (n+1)):=by
 let#[_,na,nb,out,ac,x]:=t;let#[rfl,v,o,l,r,q,m]:=h;let f:za6:=zhg l r;show(zHi p q d m,δ (qW d (qff f j d)));cases lt with
 |true=>
  dsimp only;let g:=QuI ha o l r f;let c:n+1<=qkf:=Í
  show C8 (C9 f (HJ (Ρ #[j,Ý #[_,rfl,KZ ha hb g (Nq f) m]]) (Ρ #[j,ê #[rfl,c,g,YC l e,Nq f,q,m]]) #[j,rfl,c,g,YC l e,Nq f,q,m]))
 |false=>
  show zKb;let g:=Qvd hb o p m d;let c:n+1<=ql9:=Í
  show C8 (C9 d (HJ (Ρ #[j,jGg g r]) (Ρ #[j,ê #[rfl,c,g,l,r,YC q e,Nq d]]) #[j,rfl,c,g,l,r,YC q e,Nq d]))
variable{mg ac bc n:Nat}(hg:Tv)
include hg
omit hc hk in
def Qi3(h:zIa):û (Qre a b na nb out mg ac bc) zr8:=by
 let#[m,o,f,l,j,i]:=h;let c:za6:=zhg f l;let g:=QuI ha o f l c;let d:n<=qkf:=Nh m (N8 qBj _);show C8 (C9 c (HJ (Ρ #[hg,Ý #[_,rfl,KZ ha hb g jfg i]]) (Ρ #[hg,ê #[rfl,d,g,YC f e,Nq c,j,i]]) #[hg,rfl,d,g,YC f e,Nq c,j,i]))
def Qi8(h:zIa):û (Qq9 a b na nb out mg ac bc) zr8:=by
 let#[u,o,p,f,t,r]:=h;let q:za6:=zhg p f;show zHi i t d r;let l:=Qvd hb o i r d;let g:n<=ql9:=Nh u (Ew qBj _);show Τ (C9 d (QM (Ρ #[hg,jGg l f]) λe=>Qg (Zj q (Qg (V3 hc Rv (ha.at q) hb É (jf k c) É)))));refine QM vR λ_=>Qi3 ha hb hg #[g,l,p,f,YC t e,Nq d];let j:=Qtl hb l c SR;let m:=Nh c SR;show QM (Ρ #[hg,Ý #[_,rfl,WN ha hb j f m]]) λx=>QM (ci (jB7 f m)) λv=>Qi3 ha hb hg #[Nh g (Ew (IK c _) _),j,p,f,DV (DT (Ku v)) (jf2 x),m]
def Qjn(h:zIa):û (Qq2 a b na nb out mg ac bc) zr8:=by
 let r:=h;let#[p,o,q,g,m,d]:=h;show zHi f m i d;let hg:=hg.set mg;show δ (JD (Qg (qW i (Qg (V3 hc Rv (hb.at i) ha (Nh (Nv (NQ _)) g) (jf k c) (F6 q FK))))));refine QM vR λ_=>xab r;let j:=QtG ha o c g;let l:=Nh c g;show QM (ci (jB7 l d)) λe=>xab #[Nh p (N8 (IK c _) _),j,DT zha,l,m,d]
#print"-"
include hc hk ha hb in
def Qc0{P:ð->Ŝ}(h1:0<a.size)(h2:0<b.size)(h:qpa):T prog w A E s (KQ a b) P st0:=by
 rw[Qcq];let d:wW<a.size:=F6 h1 FK;let o:O M ((MX zaj)+(b.size-b.size)) #[a[wW],]:=#[by apply 1=_;lia,λx j=>by rw[ĸ j];show ha.at d]
 show Τ (US (Qg (C9 d (QM (ϸ (za1 (KZ ha hb o SR Č))) λe=>QM (ϸ (za1 (WN ha hb o SR Č))) λl=>Qg Hj))));refine QeJ (L:=Hi M a b) (Rr:=Ro M a b) (QpX hc hk ha hb) qF8 qgg xpa qfg #[rfl,NO _,o,DT zha,Nq d,(DV (m:=b.size) h2 (jf2 l):1<b.size),Nw _] (λx y z q=>?_) h
 ·let#[_,B,v,g,C,ac,D]:=t;show Th y;show QM (λ_=>qN0) λ_=>qN0
 ·let#[u,_,q2,q3,q4,p]:=q;omega
#print"-"
set_option autoImplicit false
abbrev QsL(lo a d:Nat):StateT SortSt Sem AscSt:=
 forIn [a:d] ((nO,a):AscSt) λ_ c=>do
  let e <-ltAt' (lo+c.snd) (lo+c.snd-1)
  match e with
  |ã b=>if Md then pure (ForInStep.done (nO,c.snd))else pure (qJ (nO,c.snd+1))
  |_=>pure (ForInStep.done (sO nO,c.snd))
abbrev QlT(lo n a:Nat):Ī Pn:=do
 reverseSlice' lo zh5
 let b <-QsL lo n a
 match b.fst with
 |ã r=>Hw
 |none=>jb3 b
abbrev Qsa(lo n e:Nat):StateT SortSt Sem DescSt:=
 forIn [n:e] ((nO,n,0):DescSt) λ_ a=>do
  let d <-ltAt' zO4 (zSe-1)
  match d with
  | ã b=>
   if Md then
    if xwc then do
     qch
     jAc
    else jAc
   else do
    let d <-ltAt' (zSe-1) zO4
    match d with
    |ã c=>
     if BX then pure (ForInStep.done (nO,a.snd.fst,a.snd.snd))
     else pure (qJ (nO,qK2,a.snd.snd+1))
    |_=>pure jY6
  |_=>pure jY6
abbrev Qd4(lo n b:Nat):Ī Pn:=do
 liftM (rule "list.sort.descending-run")
 let a <-Qsa lo (n+1) b
 match a.fst with
 |ã r=>Hw
 | none=>
  if xwc then do
   qch
   qPj
  else qPj
def QgI(lo b:Nat):countRun' lo b=(do
  let a <-QsL lo 1 b
  match a.fst with
  |ã r=>Hw
  | none=>
   if(a.snd==b)=true then jb3 a
   else if a.snd>1 then do
    let i <-ltAt' lo (lo+a.snd-1)
    match i with
    | ã c=>if BX then jb3 a else do
      reverseSlice' lo (lo+a.snd)
      xe2
    |_=>SO
   else xe2):=by
 rw[countRun'_eq];refine qi5
 ·(focus (show jS0;(show zvg)))
 funext a;show Đ r n a;cases r with
 |some r=>rfl
 | none=>
  dsimp only;refine Zq rfl (Zq (JE rfl (è c)) ?_)
  ·dsimp only;refine Zq rfl (Qy xT)
   show jo5
  ·show jo5
def QbH(i:Nat):mergeAt' i=(do
 let s <-get
 let(sO (b,d,power),sO (e,c,_)):=((pendingOf s)[i]?,(pendingOf s)[i+1]?)|unsupported "internal:list.sort.pending"
 set (setPending s (((pendingOf s).setIfInBounds i (b,d+c,power)).eraseIdxIfInBounds (i+1)))
 let sO k <-Js false (<-jd xy e) xy b d 0|return false
 let(b,d):=(b+k,d-k)
 if d==0 then return true
 let sO c <-Js true (<-elem' xy (b+d-1)) xy e c (c-1)|return false
 if c==0 then return true
 let x:=(arrOf s).extract b e
 let y:=(arrOf s).extract e (e+c)
 let merged <-if d<=c then KP x y else KQ x y
 modify λs=>setArr s (merged.toList.zipIdx.foldl (zEe (b+j)) xy)
 return qu3):=rfl
section
variable{prog:Program}{w:World}{A:Around}{E:Ñ}{s:Shared}{κ:SortKind}{M:jq}{N:Nat}{p:Array pw}
structure G(κ:SortKind)(M:jq)(N:Nat)(p:Array pw)(st:SortSt):Prop where
 kind:zdi=κ
 failed:zVe=nO
 o:O M N xp6
 pend:pendingOf st=p
def G.arr{st:SortSt}(g:tU){a:ð}(h:O M N a):G κ M N p (setArr st a):=#[g.kind,g.failed,h,g.pend]
variable(hc:i8)
section
variable{st:SortSt}(g:tU)
include g
def Qf6{i j:Nat}{P:zu4}(h:∀a,eJ->P () a):û (reverseSlice' i j) P:=by
 rw[reverseSlice'_eq];show JD (h _ (g.arr (g.o.perm (mirror_perm _ _ _ _))))
include hc
def Uj{i j:Nat}{P:fm->Ŝ}(hi:i<N)(a:j<N)(h:zK2):û (ltAt' i j) P:=by
 let hi:=g.o.n.symm▸hi;let a:=g.o.n.symm▸a;rw[ltAt'_eq];show pX (Yz (Qg (Zj hi (Qg (Zj a (Qqm hc g.kind (g.o.at hi) (g.o.at a) h))))))
variable{lo n nrem:Nat}(hn:lo+nrem<=N)(hnn:n<=nrem)
include hn hnn
def QqG{P:AscSt->Ŝ}(h:∀m,n<=m->jgj->P (nO,m) st):û (QsL lo n nrem) P:=by
 refine QbJ (λx c a=>a=st/\c=(nO,x)) hnn ś ?_ λc a q=>by show(uX q,h nrem hnn Č)
 rintro x c _ f e ⟨rfl,rfl⟩
 let d:=zZ8 e;show C8 (Uj hc g d qB0 λb=>k7 (ϸ (h x f jfh)) ś)
variable(h1:1<=n){P:A4->Ŝ}(h:qee)
include h1 h
def Qjp:û (QlT lo n nrem) P:=
 Qg (Qf6 g λa g1=>Qg (QqG hc g1 hn hnn λm b q2=>Ql (h m a (Nh h1 b) q2 g1)))
#print"-"
section
variable{st:SortSt}(g:tU){lo n nrem:Nat}(hn:lo+nrem<=N){P:A4->Ŝ}(h:qee)
include hc g hn h
def QdB(a:n+1<=nrem):û (Qd4 lo n nrem) P:=by
 show Τ (US (Qg (JR (P:=λc st'=>zP9/\∃m q,c=(nO,m,q)/\n+1<=m/\jgj) (QbJ (λx c st'=>zP9/\∃q,c=(nO,x,q)) a #[g,0,rfl] ?_ λc st' q=>#[q.1,nrem,q.2.choose,q.2.choose_spec,a,Nw _]) ?_)))
 ·rintro x c st' i d ⟨g,q,rfl⟩
  let f:=zZ8 d;let j:=Ni (De _ 1) f
  show Qg (Uj hc g f j λb=>QM (λ_=>k7 (λ_=>Qg (Qf6 g λe g1=>Ql #[g1,_,rfl])) xj2) λ_=>
   Qg (Uj hc g j f λb=>k7 (Ρ #[g,x,q,rfl,i,Nq d]) xj2))
 ·rintro c st' ⟨g,m,q,rfl,i,d⟩
  let l:1<=m:=Nh vq i;show QM (λ_=>Qg (Qf6 g λe g1=>Qjp hc g1 hn d l h)) λ_=>Qjp hc g hn d l h
def QlX(h1:1<=nrem):û (countRun' lo nrem) P:=by
 rw[QgI];show Τ (QqG hc g hn h1 λn d a=>QM (ϸ qWg) zl6);let c:=DV a zha;let f:=zZ8 c;show QM (λ_=>Qg (Uj hc g (Ni Ω f) (Ni T0 f) λb=>QM (ϸ qWg) λ_=>Qg (Qf6 g λi g1=>QdB hc g1 hn h c))) λ_=>QdB hc g hn h c
#print"-"
include hc in
def QhN{st:SortSt}(g:tU){lo n ok:Nat}{P:Bool->Ŝ}(z:jh0)(h1:1<=n)(t:ok<=n)(h:∀a,eJ->P true a):û (binarySort' lo n ok) P:=by
 rw[binarySort'_eq];show Τ (Kl (λc a=>dR/\eJ) (Nat.max_le.mpr (ĺ t h1)) (ϔ g) ?_ λc a q=>by show(BE g q,Ql (h _ g)))
 rintro k c a _ hk ⟨rfl,g⟩
 let v:=Nf (NW hk lo) z
 let fin:∀{u:Type} {P:u->Ŝ} {f:Unit->Ī u} {i j:Nat},(∀a,eJ->T prog w A E s (f ()) P a)->T prog w A E s (moveDown' i j>>=f) P a:=λh=>by
  rw[moveDown'_eq];show pX (JD (h _ (g.arr (g.o.perm (bubble_perm _ _ _)))))
 show Τ (JR (P:=λc d=>d=a/\c.1=nO) (Kl (λc d=>d=a/\∃l r,xdg k) Ŋ #[rfl,0,k,rfl,Nw _] ?_ λc m q=>#[q.1,by let#[_,_,_,rfl,_]:=q;rfl]) ?_)
 ·rintro x c _ _ B ⟨rfl,l,r,rfl,y⟩
  refine QM (ϸ ś) zl6;let mid:(l+r)/2<=k:=Nh (Nat.div_le_of_le_mul (by rw[Nat.two_mul];show N8 (Nq (DM.mp e)) r)) y;show C8 (Uj hc g v (Ni (Ew mid lo) v) λb=>k7 (Ρ #[rfl,l,_,rfl,mid]) #[rfl,_,r,rfl,y])
 ·rintro⟨C,l,r⟩ _ ⟨rfl,e⟩
  cases e;show fin λm g=>Ql (ϔ g)
abbrev Ch:Au->Nat->xF
 |[],a,b=>a=b
 |p::r,a,b=>p.1=a/\1<=p.2.1/\Ch r (a+p.2.1) b
def Ch.le:∀{l:Au} {a b:Nat},Ch l a b->a+l.length<=b:=λ{l}=>by
 induction l with
 |nil=>show λh=>Nv h
 |cons p r c=>show λ#[_,e,d]=>by let:=c d;rw[NS,FQ _ 1,<-Da];show Nh (N8 (Ew e _) _) this
def Ch.app:∀{f e:Au} {a b:Nat},Ch (f++e) a b↔∃m,Ch f a m/\Ch e m b:=λ{f}=>by
 induction f with
 |nil=>show λ{e a b}=>#[AY h #[a,rfl,h],λ#[m,d,c]=>by show Χ d c]
 |cons p r i=>show λ{e a b}=>#[λ#[d,c,j]=>let#[m,g,q2]:=i.mp j;jB8,AY jB8 #[d,c,i.mpr (Ŷ m g q2)]]
def QmA{c:Type}(b d:Ø c)(x y z:c):((b++x::y::d).set b.length z).eraseIdx (b.length+1)=b++z::d:=by
 induction b with
 |nil=>rfl
 |cons a l e=>show congrArg (a::·) e
structure R(κ:SortKind)(M:jq)(N lo:Nat)(st:SortSt):Prop where
 g:G κ M N qWd st
 le:lo<=N
 ch:Ch qHf 0 lo
include hc in
def UH{i lo:Nat}{st:SortSt}(h:zPa)(hi:i+1<kN) :
  û (mergeAt' i) jC5:=by
 rw[QbH];show Ů g F c h;let hl:i+1<(pendingOf st).toList.length:=zLd
 let ae:=Dv hl
 let e:qHf=qv4++zF7::zE6::qnf:=by
  rw[<-EF,<-EF,Ir]
 let aa:((pendingOf st).toList.take i).length=i:=List.length_take_of_le (Nq ae);rw[e]at c;let#[m,c1,S,J,Q,I,H]:=Ch.app.mp c;let e1:(pendingOf st)[i]?=sO zF7:=xe3
 let e2:(pendingOf st)[i+1]?=sO zE6:=xe3
 show δ Hj;rw[e1,e2];generalize zF7=x at e c1 S J Q I H;generalize zE6=y at e c1 S J Q I H;show Ů f l t x;let#[sb,v,X]:=y;dsimp only at S J Q I H;subst S;subst Q;let h3:=Nh (Nh Ω H.le) F
 let C:(((pendingOf st).setIfInBounds i aK).eraseIdxIfInBounds (i+1)).toList=qv4++aK::qnf:=by
  rw[Array.toList_eraseIdxIfInBounds,OE]
  conv=>lhs;rw[e]
  let:=QmA ((pendingOf st).toList.take i) ((pendingOf st).toList.drop (i+2)) (f,l,t) (f+l,v,X) aK;rw[aa]at this;show this
 let z1:=RW C;let z2:=RW e;simp only[NJ,NS,NP]at z1 z2
 let fin:∀d:SortSt,PyProof.Rows.kindOf d=κ->failedOf d=nO->O M N (arrOf d)->pendingOf d=jX3->jSi:=λd q1 q2 q3 q4=>
  #[#[#[q1,q2,q3,rfl],F,by rw[q4,C];show Ch.app.mpr #[f,c1,rfl,Nh J Ω,by rw[<-Da];show H]],by rw[q4,z1,z2,Da]]
 dsimp only;generalize jX3=u at fin ⊢;let q:=Nf (Yaj I) h3;let z:f+l<xac:=by rw[g.o.n];show q
 let ok:=fin qN1 g.kind g.failed g.o rfl;let D:=Nq q;show δ (QsJ (Qg (qW z (Qg (V3 (st:=rq) hc g.kind (g.o.at z) g.o D xd8 J)))));refine QM (ϸ xpb) (è e3);let B:f+k+(l-k)-1<xac:=by rw[g.o.n,Da,Eu hk];show jdg q
 show δ (qW B (Qg (V3 (st:=rq) hc g.kind (g.o.at B) g.o h3 (λn2 ab=>?_) (F6 I FK))));refine QM (ϸ xpb) (è e4);let P:=g.o.ext (f+k) (j:=f+l) D;let L:=g.o.ext (f+l) (j:=f+l+n2) (Nh (Ew ab _) h3);let Z:0<f+l-(f+k):=by rw[Nat.add_sub_add_left];show DT (Ku e3)
 let Y:0<f+l+n2-(f+l):=by rw[Ll];show DT (Ku e4)
 let last:∀(r:ð) (d:SortSt),Sg qN1 d->Ro M ((arrOf st).extract (f+k) (f+l)) ((arrOf st).extract (f+l) (f+l+n2)) r ->
   T prog w A E s (do
    modify λs=>setArr s (r.toList.zipIdx.foldl (zEe (f+k+j)) xy)
    return qu3) jC5 d:=by
  rintro r _ ⟨gg,rfl⟩ ro
  show C8 (JD (Qg (Yz (Ql #[by apply(failedOf st).isNone=true;rw[g.failed];rfl,fin _ g.kind g.failed (O.lay (f+k+·) _ 0 _ ro.all g.o) rfl]))))
 rw[<-P.n]at Z;rw[<-L.n]at Y;show QM (λ_=>Qg (Qd1 (st0:=rq) hc g.kind (zb0 P) (zb0 L) Z Y last)) λ_=>Qg (Qc0 (st0:=rq) hc g.kind (zb0 P) (zb0 L) Z Y last)
def R.push{lo n:Nat}{st:SortSt}(h:zPa)(a:1<=n)(b:jh0):R κ M N zh5 (setPending st ((pendingOf st).push zVf)):=
 #[#[h.g.kind,h.g.failed,h.g.o,rfl],b,by
  apply Ch ((pendingOf st).push zVf).toList 0 zh5;rw[Lr]
  show Ch.app.mpr #[lo,h.ch,rfl,a,rfl]]
def Ch.pow(f:Nat)(l:Au):∀{a b:Nat} (i:Nat),Ch l a b->Ch (l.modify i (zWg f)) a b:=by
 induction l with
 |nil=>show λ{a b} i h=>by rw[List.modify_nil];show h
 |cons p r g => 
  rintro a b (_|i) ⟨e,d,c⟩
  show č #[e,d,c]
  show č #[e,d,g i c]
#print"-"
set_option autoImplicit false
section
variable{prog:Program}{w:World}{A:Around}{E:Ñ}{s:Shared}{κ:SortKind}{M:jq}{N:Nat}
def QuK{a:Type}{m b:Ī a}{P:a->Ŝ}{st:SortSt}(e:m=b)(h:û b P):û m P:=e▸h
variable(hc:i8)
include hc
def Qi1{size lo n:Nat}{st:SortSt}(h:zPa)(l:1<=n)(m:jh0){P:ForInStep (xwd×Nat)->Ŝ}
  (u:∀a,R κ M N zh5 a->P zFi a):T prog w A E s (do
   let st <-get
   match zJb with
   | some (e,d,_)=>do
    let t <-forIn [0:size] (fE:xwd×Unit) λ_ _=>do
     let st <-get
     match (if kN>1 then(pendingOf st)[kN-2]? else nO)with
     | some (_,_,f)=>if f<=qef then jmf else do
       let b <-mergeAt' (kN-2)
       if(!b)=true then pure (ĩ (sO (),()))else pure (.yield fE)
     |_=>jmf
    match t.1 with
    |ã r=>pure (ĩ (sO r,lo))
    |none=>do
     modify λs=>jTf s
     jW8
     pure zFi
   |_=>do
    jW8
    pure zFi) P st:=by
 show δ Hj;cases zJb with
 |none=>show pX (JD (Ql (u _ (h.push l m))))
 | some p=>
  show Ů e d z p;show Τ (JR (P:=λc a=>dR/\xx a) (Kl (λc a=>dR/\xx a) Ŋ (ϔ h) ?_ yI) ?_)
  ·rintro x c a _ _ ⟨rfl,i⟩
   show δ Hj
   by_cases j:qQ0>1
   ·rw[Ò j];cases(pendingOf a)[qQ0-2]? with
    |none=>show qT4
    |some B=>
     refine QM (ϸ (ϔ i)) λ_=>Qg (JR (UH hc i É) ?_)
     show xpc v y (ϔ y)
   ·rw[Ó j];show qT4
  ·rintro c a ⟨rfl,g,le,ch⟩
   show Τ (JD (Qg (JD (Ql (u _ (R.push (st:=jTf a) #[zAc g,le,?_] l m))))));apply Ch (Array.modify _ _ _).toList 0 lo;rw[Array.toList_modify];show ch.pow _ _ _
def QbB{st:SortSt}{P:zu4}(g:G κ M N #[] st)(h:∀a,G κ M N (pendingOf a) a->P () a):T prog w A E s sortRuns' P st:=by
 rw[sortRuns'_eq];show δ Hj;rw[g.o.n];show Τ (JR (P:=λc a=>c=(nO,N)/\zSf) (QbJ (λx c a=>∃lo,c=(nO,lo)/\xx a/\x<=lo) Ŋ #[0,rfl,#[zAc g,NO _,by rw[g.pend];rfl],NO _] ?_ ?_) ?_)
 ·rintro x c a _ C ⟨lo,rfl,q,p⟩
  refine QM (λe=>Ql ?_) zl6
  ·let:=EZ q.le e;show uY zZ1
  let e:=DM.mp e;let y:=Eu jfh;show δ (QlX hc q.g jf5 (λm u f v g1=>?_) (OP e));let B:xx u:=jmg g1
  refine QM (λl=>Qg (US ?_)) (è l)
  ·let f1:m<=zE1:=Nat.le_min.mpr #[v,Nq l];let f2:lo+zE1<=N:=Nh (Ew qDi _) jf5;show δ (QhN hc g1 f2 (Nh f f1) f1 (Ô d g2));let q2:xx d:=jmg g2
   refine QuK ?_ (Qi1 (size:=N) (n:=zE1) hc q2 (Nh f f1) f2 jva)
   show jOb
  ·refine QuK ?_ (Qi1 (size:=N) (n:=m) hc B f É jva)
   show jOb
 ·rintro c a ⟨lo,rfl,q,p⟩
  let:=EZ q.le p;show uY zZ1
 ·rintro c a ⟨rfl,q⟩
  show Τ (JR (P:=λc a=>dR/\zSf) (Kl (λc a=>dR/\zSf) Ŋ (ϔ q) ?_ yI) ?_)
  ·rintro x c d _ C ⟨rfl,r⟩
   show Τ (Yz (QM (ϸ (ϔ r)) λD=>Qg (JR (UH hc r ?_) ?_)))
   ·repeat' split
    all_goals omega
   ·show xpc i z zl7
  ·rintro c d ⟨rfl,r⟩
   show Ql (h d r.g)
#print"-"
section
variable{prog:Program}{w:World}{A:Around}{E:Ñ}{s:Shared}
def Qg4{a:Addr}{vs:Ë}{n:Nat}{κ:SortKind}{P:PySem.Fin->Ϸ}(D:Ń a=sO (seqObj "list" vs.toArray n))(hz:zJc)
  (hk:xpd->∀g:Heap,zjc->jub)
  (M:∀g:Heap,zjc->∀x∈vs,∀y∈vs,jj6 A)
  (h:∀(g:Heap) (tk c:Nat) (us:Ë),Rl->Rx->zjc->B4 g a=sO qd6->jdf P (ĩ qaf) g) :
  Ϩ Ĝ (Builtin.«list.sort» zk0) P s:=by
 obtain⟨v,g1⟩:∃v,xm5 a zn8=qC0:=#[_,get?_update_seq D λ_=>#[]]
 rw[list_sort_plain];show Æ (listItems_at D rfl (Na (listUpdate_at D rfl ?_ (by rw[Nz];show hz) Ŋ)));show Æ (seqEpoch_at g1 rfl (Na (wpAny_newTuple ?_ (by apply vs.length<=_;show hz))));show Æ (OD zfj Ŋ);apply wpAny Ĝ A _ P E { s with heap:=jP1 };let m:∀b o,b≠a->ϙ->(((s.heap.update a zn8).push zzc).push uG).get? b=sO o:=λb o r e=>Ŗ (Np _ (xd7 r));let g2:(((s.heap.update a zn8).push zzc).push uG).get? a=qC0:=Ŗ (Np _ g1);generalize jP1=g at m g2
 let fin:∀(st:SortSt) (tk:Nat) (us:Ë),Rl->Rx->(arrOf st).map (·.2)=us.toArray->zVe=nO->wpAny Ĝ A (do
   let i:=(<-seqEpoch a) != v
   Builtin.List.listUpdate Ġ λ_=>(arrOf st).map (·.2)
   if let sO e:=zVe then rule "list.sort.comparison-raised";throw e
   if i then rule "list.sort.modified";raiseError "ValueError" "list modified during sort"
   ret .none) P E { s with heap:=g,toks:=tk }:=by
  intro st tk us F I J q2;rw[J,q2];show ı (seqEpoch_at g2 rfl (Na (listUpdate_at g2 rfl ?_ Ŋ (by rw[Nz,F];show Nh hz Ω))));simp only[bne_self_eq_false,EY,if_false];show ħ (h _ tk _ us F I (λb o r e=>ze5 (Eb r) (m b o r e)) (get?_update_seq g2 λ_=>us.toArray))
 let H:((pairsOf vs).map (·.2))=vs.toArray:=Array.ext' (by rw[Array.toList_map,pairsOf_toList,List.map_snd_zip Č]);dsimp only
 by_cases l:vs.toArray.size<2
 ·rw[Ò l,Ò l];show Æ ζ;rw[StateT.run_pure];show Na (CG (fin (SortSt.mk' general' (vs.toArray.zip vs.toArray) #[] 7 nO) s.toks vs rfl (λ_ h=>h) H rfl))
 ·rw[Ó l,Ó l];show ı (Ej (hk (by rw[Nz]at l;show N6.mp l) g m (λd B=>d=κ/\B={ s with heap:=g }) ś) (Ak d B z) (S8 z));show uX z;let S:Cmp prog w A { s with heap:=g } d qwh:=λx y j L tk C q=>M g m x.1 j.2 y.1 L.2 tk C q;show ı (Ej (QbB (E:=E) (N:=vs.length) (P:=λ_ f=>G d qwh vs.length (pendingOf f) f) (st:=SortSt.mk' d xe4 #[] 7 nO) S #[rfl,rfl,#[?_,Γ j],rfl] (λf p=>p) s.toks) ?_ gp)
  ·let:=congrArg Array.size H;rwa[Array.size_map]at this
  ·rw[show(arrOf (SortSt.mk' d xe4 #[] 7 nO)).toList=_ from pairsOf_toList ..]at j;show#[(Fp j).2,(Fp j).1]
  rintro⟨⟨⟩,f⟩ B ⟨⟨t,rfl⟩,g⟩
  show fin f t ((arrOf f).toList.map (·.2)) (by rw[Nr,NP,g.o.n]) (λu hu=>by let#[x,j,rfl]:=NC.mp hu;show(g.o.all x j).1) (Array.ext' Ç) g.failed
def QbC{l:Addr}{vs:Ë}{κ:SortKind}{Q:Ñ}(p:qy2)(hz:zJc)
  (hk:xpd->∀(A:Around) (g:Heap),zjg->jub)
  (q:∀(i:Around) (g:Heap),i=A.in1.in1->zjg->∀x∈vs,∀y∈vs,jj6 i)
  (h:∀(D:Addr) (g:Heap) (tk c:Nat) (us:Ë),Rl->Rx->zjg->jRb) :
  ä qea:=by
 refine jXf;refine Na (m:=qzd) ζ;show(Æ (collect_list p ?_ hz),Æ (OD ?_ hz))
 let d:((s.heap.push uG).update s.heap.objs.size (Obj.mapSeq (·++vs.toArray))).objs.size=uP:=by
  rw[Heap.size_update,size_push']
 let f:(((s.heap.push uG).update s.heap.objs.size (Obj.mapSeq (·++vs.toArray))).push uD).get? jO=sO uD:=by
  rw[<-d];show ŭ
 let old:∀b o,ϙ->(((s.heap.push uG).update s.heap.objs.size (Obj.mapSeq (·++vs.toArray))).push uD).get? b=sO o:=λb o e=>
  Ŗ ((EJ _ _ (EK AK)).trans Tm)
 apply wpAny _ _ _ _ _ { s with heap:=((s.heap.push uG).update s.heap.objs.size (Obj.mapSeq (·++vs.toArray))).push uD };rw[d];let ne:∀b o,ϙ->b≠uP:=λb o e=>NL (E9 AK)
 refine Na (N7 (Et slot_list_sort (Ϡ f) entry_list_sort (Qg4 (A:=A.in1.in1) (κ:=κ) (s:={ s with heap:=((s.heap.push uG).update s.heap.objs.size (Obj.mapSeq (·++vs.toArray))).push uD }) f hz
  (λr g a=>hk r _ g qd3) (λg a=>q _ g rfl qd3) λg tk c us n j a hD=>tJ) qJg))
 show ħ #[_,rfl,h _ g tk c us n j (λb o e=>a b o qK3 qF9) Mh hD]
#print"-"
#print"-Us"
namespace Sb
open L2 PySem.W SeqAt
section
variable{prog:Program}{w:World}{A:Around}{E:Ñ}{s:Shared}{b:Bool}{Q:Cb}
abbrev ty0:Sh->String
 |.i=>"int"
 |.s=>"str"
 |.t _=>"tuple"
 |.l _=>"tuple"
def QgS:∀(vs:Ë),(∀v∈vs,∃t,IsQ h (n+2) t v/\Wf (n+2) bT t)->∃fs,KatTups h vs fs/\fs.length=vs.length/\∀f∈fs,Looks Ĝ h (typeOf f) (.type qQ1):=by
 intro vs
 induction vs with
 |nil=>
  intro _;show#[[],trivial,rfl,λ_ m=>A3 m]
 | cons v vs F=>
  intro D;let#[t,r,p]:=D v NA;let#[fs,f1,f2,L]:=F (Η b J D);let#[ks,rfl,p]:=p;let#[a,j,rfl,#[o,H,I,l,hd],r]:=r;obtain⟨z,rfl⟩:∃z:Ë,j=z.toArray:=#[j.toList,Å]
  rw[DH]at r;cases p with
  | cons y N=>
   cases r with
   | cons q M=>
    rename_i k ks u z;refine#[u::fs,KatTups.cons H I hd Ç f1,ϩ f2,Ô f m]
    show Ņ m
    ·cases sh0 with
     |i=>
      show jkf
     |s=>
      show jkf
     |t l=>
      show jvb
     |l e=>
      show jvb
    ·show L f m
noncomputable abbrev QpC(h:Heap)(sh0:Sh)(shs:List Sh)(vs:Ë):Prop:=∀v∈vs,∃t,IsQ h 8 t v/\Wf 8 bT t
#print"-"
#print"-Sb"
namespace Us
open L2 PySem.W SeqAt Sb
abbrev LtA(A:Around)(s:Shared)(p q:Value):Prop:=∀(a:Program) (w:World) (E Q:Ñ),(∀b,Q (yv b) s)->Ϩ (model a w) (richCompare .Lt p q) Q s
inductive LexA(A:Around)(s:Shared):zJd->Prop where
 |nil:LexA A s []
 |cons {p q:Value} {r:zJd} (e:Bool) (h:EqAt A s p q e) (k:LtA A s p q) (t:zj2 r):zj2 ((p,q)::r)
def QeO(l b:Addr)(items a:Ķ)(n u:Nat)(dd p:BC)(t j:kJ) :
  Meets (Builtin.«tuple.__lt__» jA7)
   (λA R s=>Ń l=sO { cls:=AA,dict:=dd,data:=zWe n,slots:=t }/\Ń b=sO { cls:=AA,dict:=p,data:=.seq a u,slots:=j } /\
    qa2/\∀c,R (.ok (.ret (yv c))) s):=
 .of_wp λf w A R s h=>by
  show fu r;let#[v,B,z,h]:=h;let f2:=O6
  wp_walk using Dx v,Dx B,DO _ (λrest b m=>b.1=nO/\m=qSi/\LexA A.in1 qSi rest) _
  case turn=>
   rintro⟨y,x⟩ rest b m ⟨i,o,q⟩
   subst o;cases q with
   | cons e E D C=>
    show Æ (E f w _ _ ?_);cases e with
    |true=>
     show jh1 #[rfl,rfl,C]
    |false=>
     show Æ (Dy (Na (D f w _ _ (è c))))
     show jh1 #[_,rfl,h c]
  case fin=>
   rintro⟨H,F⟩ m ⟨i,rfl,q⟩
   show PC i
   show jh1 #[_,rfl,h _]
  case h=>
   show#[rfl,rfl,z]
section
variable{A:Around}{s:Shared}
def LtA.tuples(t:nE)(v:s.heap.IsTuple b a)(hu:Si)(u:qa2):LtA A s zl3 Ci:=λj w E Q h=>by
 show zIf q m o t;let#[#[p,i,data2,g],d,f,r,e]:=id v;show zQ1 o f e
 show richCompare_meets_room (op:=.Lt) (Ϡ m) (Ϡ d) F.slot_tuple_lt F.entry_tuple_lt (F.args_tuple_lt_2 _ _) (QeO l b items a n r dd i q g)
  #[m,d,u,λc=>show Value.bool c≠Value.notImplemented/\Q (yv c) s from#[nofun,h c]] hu
abbrev Zw(n:Nat)(ks ls:jA):Prop:=∀p∈ks.zip ls,∃a,Wf n a p.1/\Wf n a p.2
def QuU(p:qDf):∀{ls},Paired xp4 l ls->zc1:=by
 induction p with
 |nil=>show λ_ x h=>A3 h
 | cons b d c=>
  intro ls q x h;cases q with
  |cons a q2=>
   rw[Lc]at h
   show Ņ h
   show č #[_,b,a]
   ·show c q2 x h
def Qwz(p:∀x∈ks,jdj)(q:∀x∈ls,jdj):zc1:=ŗ x h #[e,p _ (Fp h).1,q _ (Fp h).2]
def Qsl{f:Sh}(c:Wf (n+1) f x)(r:Wf (n+1) f y)(d:IsQ h (n+1) x Ġ)(u:IsQ h (n+1) y Ci) :
  ∃its its' ks ls,fv/\h.IsTuple b its'/\r9 zY7/\Paired zY7 ls its'.toList/\zc1:=by
 cases f with
 |i=>show(Ĵ x c,xj3)
 |s=>show(Ĵ x c,xj3)
 |t l=>
  show(qpb,qfh,ì e #[its,its',ks,ls,o,m,j,g,QuU p q])
 |l e=>
  show(qpb,qfh,ì e #[its,its',ks,ls,o,m,j,g,Qwz p q])
def Qjf(A:Around)(hu:vc)(g:∀a x y u v,Wf n a x->Wf n a y->jy1)(p:Paired qWi ks us):∀{ls vs},Paired qWi ls vs->zc1->zj2 (us.zip vs):=by
 induction p with
 |nil=>show λ_ _=>.nil
 | cons c i f=>
  intro ls vs q z;cases q with
  |nil=>show .nil
  |cons b q2=>
   rw[Lc];let#[a,e,d]:=z _ NA;show .cons _ (QsN n A hu _ _ _ _ (QoM _ _ c) (QoM _ _ b)) (g a _ _ _ _ e d c b) (f q2 (Η x h z))
def QrQ:∀(n:Nat) (A:Around),vc->∀r x y u v,Wf n r x->Wf n r y->jy1:=λn=>by
 induction n with
 |zero=>show qyh
 | succ n J=>
  intro A hu r x y u v f d j g
  let tup:∀{a b},u=Ä a->yJ->qK4:=λ{a b} o m=>by
   subst o m;let#[I,C,ks,B,M,L,H,F,z]:=Qsl f d j g;show LtA.tuples M L Cw (Qjf A.in1 k3 (J A.in1 k3) H F z)
  cases r with
  |i=>
   show(jL x f y d,jL t j D g);show λc w E Q h=>PyProof.Rows.lt_int (h _)
  |s=>
   show(jL x f y d,jL t j D g);show λc w E Q h=>PyProof.Rows.lt_str (h _)
  |t l=>
   show(qla,qeg)
  |l e=>
   show(qla,qeg)
#print"-"
section
variable{prog:Program}{w:World}{A:Around}{E:Ñ}{s:Shared}{b fin:Bool}{Q:Cb}
def Qgy{P:Value->Sc}(f:∀u v,P u v->iu A (oneLt' b u v) Q jS s):∀{l:zJd} (i:Nat),(i=0->∀p q r,l=(p,q)::r->P p q)->zj2 l->(∀c,Q c s)->KatLex prog w A b fin Q l i s:=λ{l}=>by
 induction l with
 |nil=>show λi _ _ h=>kat_nil (h _)
 | cons p l a=>
  intro i d x h;let#[p,q]:=p;cases x with
  | cons e m j g=>
   refine kat_cons (m _ _ _ _ ?_);cases e with
   |true=>show kat_yes (a (i+1) (λz=>A3 z) g h)
   |false=>
    refine kat_no ?_
    by_cases c:i=0
    ·let:=f p q (d c _ _ _ rfl);subst c;rw[beq_self_eq_true,Oy];show this
    ·rw[show(i==0)=false from PY c,Fb];show kat_one p q (j _ _ _ _ xe5)
def Qku(hu:A.units+(n+2)<cLine)(p:Wf (n+2) bT x)(q:Wf (n+2) bT y)(r:vN (n+2) x u)(t:vN (n+2) y v)(h:∀c,Q c s) :
  ä (keyLt' (tuples' qe4) u v):=by
 let#[ks,rfl,p]:=p;let#[ls,rfl,q]:=q;let#[a,m,rfl,H,r]:=r;let#[b,f,rfl,F,t]:=t;let#[o1,M,_,n1,L]:=H;let#[Z,J,_,n2,I]:=F;let d:A.units+(n+1)<cLine:=Dv hu;refine kat_lt M L J I (Qgy (P:=λu v=>∃x y,Wf (n+1) sh0 x/\Wf (n+1) sh0 y/\vN (n+1) x u/\vN (n+1) y v) ?_ 0 ?_ (Qjf A d (QrQ (n+1) A d) r t (QuU p q)) h)
 ·rintro u v ⟨x,y,j,g,g1,g2⟩
  cases sh0 with
  |i=>
   show(Ĵ x j,Ĵ y g,Ĵ t g1,Ĵ z g2,oneLt_int (h _))
  |s=>
   show(Ĵ x j,Ĵ y g,Ĵ t g1,Ĵ z g2,oneLt_str (h _))
  |t l=>show jT1
  |l e=>show jT1
 ·intro _ u v l e;cases p with
  | cons D Y=>
   cases q with
   | cons C q2=>
    generalize m.toList=S at r e;generalize f.toList=N at t e;cases r with
    | cons B X=>
     cases t with
     |cons o U=>
      rw[Lc]at e;show Χ e #[_,_,D,C,B,o]
def sorted_tups{Q:Ñ}(hu:qWj)(p:qy2)(hz:zJc)(e:QpC s.heap sh0 shs vs)
  (h:∀(D:Addr) (g:Heap) (tk c:Nat) (us:Ë),Rl->Rx->Ex s.heap g->jRb) :
  ä qea:=by
 refine QbC (κ:=tuples' qe4) p hz ?_ ?_ h
 ·intro r J g a M d
  let#[fs,f1,f2,z]:=QgS (prog:=prog) (w:=w) (h:=g) (n:=6) vs λv o=>by
   show(C5 t i f e v o,#[t,KO a _ _ i,f])
  show kat_kind (s:={ s with heap:=g }) f1 (Nf (Nf Ð r) (İ f2)) z Ç d
 ·rintro J g rfl a x m y j tk C q
  show(C5 i I H e x m,C5 f F B e y j);show Qku (n:=6) (s:={ s with heap:=g,toks:=tk }) (by apply ve+1+8<cLine;lia) H B (KO a _ _ I) (KO a _ _ F) λc=>q c tk
#print"-"
#print"-Us"
namespace Mi
open L2 Sb
set_option backward.eqns.deepRecursiveSplit false in
abbrev plN:Nat->zS2
 |0,_=>nO
 |_+1,Á i=>sO (.i i)
 |_+1,Ù x=>sO (.s x)
 |n+1,ŉ=>(ws.mapM (plN n)).map .t
 |_+1,_=>nO
set_option backward.eqns.deepRecursiveSplit false in
mutual
abbrev toW:Tr->W
 |.i n=>Á n
 |.s x=>Ù x
 |.t ks=>Î (Qq5 ks)
abbrev Qq5:jA->Ã
 |[]=>[]
 |k::ks=>toW k::Qq5 ks
end
set_option backward.eqns.deepRecursiveSplit false in
abbrev plL:Ã->qX0
 |[]=>sO []
 |ŉ::r=>(plN 8 y0).bind λt=>(plL r).map (t::·)
 |_::_=>nO
def mapM_cons(e:(a::l).mapM f=sO ks):∃k r,f a=sO k/\l.mapM f=sO r/\ks=k::r:=by
 rw[Dm]at e;show(Ĭ c g i e,Ĭ b d h i,ì (show sO (c::b)=sO ks from h) #[_,_,g,d,rfl])
def QqR:∀(n:Nat) (w:W) (t:Tr),xpe->w=toW t:=by
 intro n
 induction n with
 |zero=>
  intro _ _ e;show zj8
 | succ n d=>
  intro w t e;cases w with
  |int i=>show RC;simp[toW]
  |str x=>show RC;simp[toW]
  | tup a=>
   show jb4;let#[ks,b,rfl]:=ϗ e;rw[toW];congr 1;clear e
   induction a generalizing ks with
   |nil=>cases(zL1 b);rw[Qq5]
   |cons w a c=>
    let#[k,r,g,f,rfl]:=mapM_cons b;rw[Qq5,<-d w k g,<-c r f]
  |_=>show zj8
section
variable{X:Cx}{pins:Û}{σ:L2.St}{H:Hp}{s:Shared}{R:Rn}{h:MH}
def Qrs(I:ß)(p:Ϗ):∀(n:Nat) (w:W) (v:V) (u:Value) (t:Tr),Œ w v->xpe->ñ v->vN n t u:=by
 intro n
 induction n with
 |zero=>
  intro _ _ _ _ _ e _;show zj8
 | succ n D=>
  intro w v u t r e b;cases w with
  |int i=>
   show RC;rw[r.int_eq]at b;show b
  |str x=>
   show RC;rw[r.str_eq]at b;show b
  | tup g=>
   show jb4;let#[ks,l,F]:=ϗ e;subst F;show ze6 a o q d p;cases b;let#[c,rv,j,E]:=Bp q;refine#[a,c.toArray,rfl,j,?_];rw[DH];clear e r q j E
   induction g generalizing ks o c with
   |nil=>
    show jm d;cases(zL1 l);cases rv;show .nil
   |cons x g C=>
    let#[B,f,N,M,rfl]:=mapM_cons l;show ϶ d y m A z;cases rv with
    |cons L J=>show ĉ (D x y _ B A N L) (C f M m z _ J)
  |_=>show zj8
abbrev QwN(K:Nj)(R:Rn)(g:Heap)(t:Tr)(u:Value):Prop:=∃a,u=Ä a/\IsQ g 8 t u/\ŵ R (toW t) Ġ
def Qqr(I:ß)(d:Ϗ):∀{ws:Ã} {b:jA} {xs:Ö} {us:Ë},plL ws=sO b->rp->Ι->Paired (QwN X.K R s.heap) b us/\ws=b.map toW:=by
 intro ws
 induction ws with
 |nil=>
  show(zgj b,zu0,ì v #[.nil,rfl])
 | cons w ws m=>
  show zgj b;cases w with
  | tup u=>
   unfold plL at e;show(Ĭ t g q e,Ϻ j p q,϶ r y x c l);cases v with
   |cons v1 i=>
    let#[o,n]:=m p l i;let#[a,xs,rfl,_]:=d.tupAt c;let f:=QqR 8 _ _ g;refine#[ĉ #[a,v1,Qrs I d 8 _ _ _ _ c g v1,by rw[<-f];show c] o,?_];rw[NB,<-f,<-n]
  |_=>simp[plL]at e
def YQ{b:Ø g}{a:Ø f}(p:u7 F b a):∀y∈a,∃x∈b,F x y:=by
 induction p with
 |nil=>show zp2
 |cons r t e=>
  intro y h
  show Ņ h
  show č #[_,NA,r]
  ·show(C5 x d c e y h,#[x,C6 d,c])
#print"-"
abbrev One(c:jA):Prop:=∃b a,∀t∈c,Wf 8 (.t (b::a)) t
#print"-Mi"
namespace Mi
open L2 Sb
open Classical in
abbrev YU(ws:Ã)(h:MH):Ú:=match ws with
 |[a]=>(lsW h a).bind λb=>(plL b).bind λc=>if One c then zt7 else nO
 |_=>nO
def QlM:∀{us:Ë},(∀u∈us,∃v:V,ñ v)->∃xs:Ö,Ι/\qL0:=λ{us}=>by
 induction us with
 |nil=>show λ_=>#[[],.nil,rfl]
 |cons u us c=>
  intro h;let#[v,r]:=yx u;let#[xs,b,a]:=c λu hu=>h u (Ny _ hu);show#[v::xs,ĉ r b,congrArg (·+1) a]
section
variable{X:Cx}
def G1(hu:ļ):ŀ qdd (Fs X.K YU):=by
 intro C s σ H F B Q I r q;let#[R,h,ws,w,h',n,l,e,k]:=q;unfold YU at e;split at e
 ·let#[ys,e1,e2]:=ģ e;let#[ts,e3,z]:=ģ e2;split at z
  ·rename_i y;let#[d,b,y]:=y;cases z;show(CL v U l,AB F Y S n U e1,qf P r);let#[f,rv,pl,hl]:=ϒ Y;let#[Z,_]:=Qqr I n e3 S rv;let i:qO6:=by rw[<-rv.length];show hl
   refine Us.sorted_tups (sh0:=d) (shs:=b) (vs:=f) yU pl.isList i (λu hu=>?_) λD g tk c B ln p kx hD hg=>?_
   ·let#[t,N,a,_,M,_]:=YQ Z u hu;show#[t,M,y t N]
   ·let#[j,L,J]:=QlM λu hu=>let#[x,_,h]:=YQ rv u (p u hu);#[x,h]
    let#[E,m]:=n.fix (o:=À j) (I.hok.fresh hD);refine#[Ä D,_,I.laid (t':=tk) kx hD (k9 iP  #[?_,B,c,L,hg]),rfl,k _ _ _ E m (Rw.unk D)];rw[J,ln];show i
  ·cases z
 ·cases e
#print"-"
#print"-Mi"
namespace L2
abbrev Itq(a:Addr)(n:Nat):It:=#[λi H=>i<n/\jN4,λi H x c=>c=H/\∀b,qxe->∃p,b[i]?=sO p/\x=Ha p,λi H=>n<=i/\jN4]
def QdY(I:ĳ c)(e:H a=dA) :
  ∃es:fy,RawD s.heap a es kx.length/\qT6/\kj/\∀(i:Nat) p,kx[i]?=sO p->∃hi:yb,jai=Ha p:=by
 let#[z,y,t,r,o,es,v,n,m,l,f,u,j]:=I.hok _ _ e;let h:=Ec r;let b:qT6:=by rw[<-NP,f,Nr,h]
 refine#[es,#[o,n,m,by rw[l,j,b]],b,y,Õ i p d];let hi:yb:=by rw[b];show zU d
 show C5 q g q2 J5 r d;refine#[hi,?_];let:xig=sO (entryOfKey zN1 q):=by rw[f,Nt,g];rfl
 rw[NT,NR hi]at this;rw[N4 this,q2.2.1];rfl
def QoN{K:Nj}(a it:Addr)(n:Nat):Turn P w K tg (Itq a n) [it] it (λi h=>i<=n/\h.IsKeyIter it a i n n) where
 mem:=Å
 obj:=λi h st b j=>by
  show zjj
 keep:=jUc A
 item:=by
  intro X F hw J Y i f s S H E I y st D;subst F hw J;show(jM2,qN2);obtain⟨p,U⟩:∃p,B[i]?=sO p:=#[B[i]'(ztc x),Nn _]
  show jkc;let#[C,ek]:=hk i p U;show zhe;rw[u]at q l;refine Qbc (es:=m) (ep:=n) qFa q C λA g sb=>?_;rw[l]at g;let I1:i3 f S A:=I.turned (t':=s.toks) (λb o j e=>(sb.2 b j).trans e) Q f1 N M L;show fF g;refine#[m[i].key,rfl,sX A #[Ha p,H,I1,ek,#[rfl,λaa r=>?_],ĺ x g,Sv j y]];rw[t]at r;show ì r #[p,U,rfl]
 done:=by
  intro X F hw J Y i f s S H E I y st D;subst F hw J;show jM2;obtain rfl:i=n:=EZ st.1 x;show(qN2,jkc,zhe);rw[u]at q l;show Qfv (es:=m) (ep:=i) (ye Y) qFa q λA eb=>#[rfl,I.turned (t':=s.toks) (bu j) Q f1 N M L]
 self:=λ_ _ _ _ _ st h=>YaY st.2 h
#print"-L2"
namespace Mi
open L2
abbrev Xh(m:ME):MI:=λb h=>(m b h).bind λp=>match p.1 with
 |Ä n=>match p.2[n]? with|jm8=>sO (a.map (·.1),sO zd0,p.2)|_=>nO
 |_=>nO
def QhH{K:Nj}(o:n<R.N):ItOk K R (Itq Ŏ ws.length) ws (sO zd0) where
 go:=λi w s h H x b g e=>by
  show zof;rw[jd6]at a;refine#[Ü e,c,a,?_];rw[<-Ec j,<-l,Nr]
 yld:=λi w s h H x D e b g u A=>by
  show(BE B A,zof);rw[e.ρ n o]at a;let#[p,z,rfl]:=B c a;rw[<-l,Nt]at u;show(Ϻ q v u,C5 C t y J5 j v);rw[z]at t;show ì t #[s,CU,b,y.1]
 stop:=λi s h H x b g r=>by
  show zof;rw[jd6]at a;show#[r,c,a,by rw[<-Ec j,<-l,Nr]]
section
variable{X:Cx}{tg a:Expr}{ma:ME}
def Qe9(P:SD):MW a (Xh ma):=by
 intro i s A H C I q;let#[R,r,h,items,u,U,B,st,e,k]:=q;show ĵ w p e1 l e;refine thn (P i s A H (λv H1=>∃R1 n j c,je R1/\Rh X.K R1 p H1/\v=Ä zcb/\n<R1.N/\p[n]?=sO (Α c)/\H1 zcb=sO (.dT j)/\items=c.map (·.1)/\j.length=items.length/\u=sO zd0/\U=p) I #[R,r,h,w,p,B,st,e1,CB v t f]) (Õ v m #[x,H1,I1,E,R1,n,j,c,t,f,J,g,y,F,ei,Y,z,Z])
 ·cases w with
  |ref n=>
   show zWb l
   ·show(SZ c y l,ku j S Q f y,zg5);let#[g,rfl]:=rv;show#[R1,n,j,c,t,f,rfl,g,y,S,rfl,by rw[<-Ec Q,Nr],rfl,rfl]
   ·cases l
  |_=>cases l
 ·subst J z Z;cases E;let#[z,D,L,lo,hk]:=QdY I1 F;refine QaT lo D ?_;refine#[m.heap.objs.size,fH m,_,Itq zcb items.length,H1,rfl,pZ m,QoN zcb _ items.length,#[NO _,_,ŭ,rfl,?_],Ô b M,BU t f (QhH g)]
  ·rw[<-Y,L];rfl
  ·show znc m M
#print"-"
open Sb
abbrev J3(a b:W)(h:MH):Ú:=(XT h a).bind λc=>(nrm b).bind λk=>(VO c k).map λv=>(v,h)
section
variable{X:Cx}{o i e a b:Expr}{mo mi mv ma mb:ME}{pos pos':Pos}
def Qo3(hu:ļ)(ha:SD)(hb:xC)(hs:Qsw b):ą lH (Qe J3 ma mb):=by
 intro d s C H Q I q;refine Qfu OS.lookup hs (ņ (ha d s C H _ I zh) u P j);show ς x U q1 j;refine thn (hb d P C H1 _ I1 q1) λiv s2 j=>?_;let#[y,H2,I2,S,R,h,a,b,w,h',l,D,Z,e,k]:=j;unfold J3 at e;show(jIf E e4,ū v g e6 e4,Rb);let#[kx,xs,hx,dr,zl,lo,Y,dd]:=XG I2 l hn;let#[c,rfl,rfl,f]:=Kj I2 l Z S e3;show Š D;let#[ab,rfl]:=D;show Cn u U;let F:=Wa (k:=E) Y;refine#[dd.typeIs,?_]
 rcases Ye (k:=E) dr with z|⟨w',N,M,L,J⟩
 ·rw[z.1]at g;cases g
 ·show â M g;rw[L]at F;let#[u',r,m]:=RelO.some_of F;show Az p B t r;subst t;show wpAny_getItem_heap ze7 f dd B #[N,H2,I2.tok _,m,qH0 l J]
#print"-"
abbrev Qbo(C:Addr)(h:MH)(w:W):Option (HF (Str×W)):=match w with
 |Ä n=>match h[n]? with|some (.ins a fs)=>if a=C then sO fs else nO|_=>nO
 |_=>nO
set_option backward.eqns.deepRecursiveSplit false in
abbrev Qcx(f:Str)(v:W):Θ W->Θ W
 |[]=>jg4
 |xm1=>if g=f then(g,v)::r else(g,x)::Qcx f v r
abbrev Z5(C:Addr)(f:Str)(a:W)(h:MH):Ú:=(Qbo C h a).bind λfs=>(fs.lookup f).map λw=>(w,h)
abbrev Qam(C:Addr)(f:Str)(o v:W)(σ:MSt)(h:MH):SC:=match o with
 |Ä n=>(Qbo C h Φ).bind λfs=>if rY then sO (ô σ (Hg zD4))else nO
 |_=>nO
abbrev GJ(C:Addr)(f:Str)(mo mv:ME):SM:=λa h=>(mv a h).bind λv=>(mo a v.2).bind λo=>Qam C f o.1 v.1 a o.2
abbrev UF(C:Addr)(m:Str)(n:Nat)(g:FM)(mo:ME)(c:MA):ME:=λb h=>(mo b h).bind λo=>(Qbo C o.2 o.1).bind λfs=>if(fs.lookup m).isNone then
 (c b o.2).bind λa=>if(o.1::a.1).length=n then g (o.1::a.1) a.2 else nO else nO
abbrev Qij(C:Addr)(n:Nat)(g:FM)(c:MA):ME:=λb h=>(c b h).bind λa=>if a.1.length+1=n then
 (g (xad::a.1) (a.2++dC)).bind λr=>match r.1 with|.non=>sO (xad,r.2)|_=>nO else nO
section
variable{K:Nj}{R:Rn}{h:MH}{H:Hp}
noncomputable abbrev FR(K:Nj)(R:Rn):Θ W->Θ V->Prop:=Paired zx4
def FR.get(r:zu b)(e:fG f=sO w):∃v,b.lookup f=sO v/\õ w:=by
 induction r with
 |nil=>cases e
 |@cons p q fs b z t d=>
  show jmh c;cases a:f==g with
  |true=>rw[a]at e;show ì e #[y,rfl,c]
  |false=>rw[a]at e;show d e
def FR.none(r:zu b)(e:fG f=nO):b.lookup f=nO:=by
 induction r with
 |nil=>rfl
 |@cons p q fs b z t c=>
  show jmh d;cases a:f==g with
  |true=>show â a e
  |false=>rw[a]at e;show c e
def FR.put(r:zu a)(z:õ w):FR K R (Qcx f w fs) (W8 f v a):=by
 induction r with
 |nil=>show .cons zl7 .nil
 |@cons p q fs a y t c=>
  show(jHf e d,BE b y);unfold Qcx W8;split
  ·show ĉ zl7 t
  ·show ĉ (ϔ b) c
def G8(c:ē)(e:Qbo C h w=sO fs)(r:õ w):∃n b a,w=Ä n/\n<R.N/\og/\H Ŏ=sO (.ins C b a)/\zu a:=by
 unfold Qbo at e;split at e
 ·show xN n e
  ·rename_i l j d;split at e
   ·rename_i f;show AW f e;let#[b,a,i,g]:=xZ c d;show(Š r,#[n,b,a,rfl,r.1,r.2,i,g])
   ·cases e
  ·cases e
 ·cases e
def QeZ(i:ē)(e:Qam C f o v σ h=sO r)(g:ŵ R o x)(rv:ŵ R v y):∃n c a fs,o=Ä n/\n<R.N/\x=Ä Ŏ/\H Ŏ=sO (.ins C c a)/\a.length<1000/\r=gb (Hg zD4)/\zu a:=by
 unfold Qam at e;split at e
 ·rename_i n;let#[fs,s,b]:=ģ e;split at b
  ·show ſ j b;let#[t,c,a,q,p,m,l,d]:=G8 i s g;show ì q #[n,c,a,fs,rfl,p,m,l,by rw[<-Ec d];show j,rfl,d]
  ·cases b
 ·cases e
#print"-"
section
variable{X:Cx}{C:Addr}{f m:Str}{o e value:Expr}{es:ā}{mo mv me:ME}{ms:MA}{pos pos' apos tpos:Pos}
def Qow(c:xz)(g:rX)(i:wI)(j:qad:=by rfl):ą zH2 (mUn (Z5 C f) me):=
 Q2 (QpG i j) λI H Q q=>Ju (un1 q) λx H1 z=>by
  let#[R,h,a,w,N,b,d,E,k]:=z;let#[fs,D,B]:=ģ E;show ū J A y B;let#[n,F,u,M,L,t,s,r]:=G8 b D d;show(Ϥ v p l r A,#[_,C,F,u,v,t,s,c,g,p,k R H1 v Ε b l])
def Qmf(c:xz)(u:rX)(B:Tt)(z:PM X value mv)(A:jU8:=by rfl):Am qb0 (GJ C f mo mv):=
 JH (QnO B z A) λD U H q=>by
  let#[R,a,h,r,t,st,e,k]:=q;show ĵ v l S Q e;show yM w E P N Q #[R,a,h,v,l,t,st,S,λR1 H1 y g i j=>#[R1,a,l,w,E,i,yn g,P,ϰ R2 H2 x d b s]];let#[n,p,M,fs,g1,g2,g3,L,J,I,F]:=QeZ b N s (Tc d j);show HC I #[_,C,p,M,g3,L,c,u,J,ϭ R2 (Ē g d) (b.put g2 #[p,_,rfl,F.put (Tc d j)]) ((st.mono g).mono d)]
#print"-"
structure Mal(P:Program)(w:World)(K:Nj)(mg:Ĕ)(base:Heap)(k:Nat)(C:Addr)(x:Str)(ps:Â)(g:FM):Prop where
 ex:∃(f:Addr) (fd:FuncData),jYd/\xpf/\iy
structure MetAt(K:Nj)(C:Addr)(x q:Str)(st:Stmt)(ps:Â):Prop where
 ex:∃(f:Addr) (fd:FuncData),tY q/\xpf/\iy
structure ClsAt(K:Nj)(mg:Ĕ)(C:Addr)(c:Str):Prop where
 cl:zgd
 ms:aP
 kp:zGe
 mg:mg c=υ C
def Wv{K:Nj}{C:Addr}{x q:Str}{st:Stmt}{f:Addr}{h:Value}{kV d pm cd ct:Value}
  (a:tN x=sO ű) (i:nT) (l:Ac f=sO #[h,m,.func (DJ x q xi BL jr .none kV d pm g cd ct),j]) (c:Lf K cd q=true) (k:i6)
  (b:∀(kV d pm:Value) (g:BC) (e ct:Value) (us:Ë),zA8 (zn3 q d g e)):qN3:=
 #[f,_,Qa8 l c k,Ŷ a i k,qM1]
section
variable{P:Program}{w:World}{K:Nj}{mg:Ĕ}{base:Heap}{C:Addr}
def Qox{st:Stmt}(d:qN3)(S:kB)(hN:zFb)
  (c:∀(f:Addr) (b:Value) (A:Around) (a:ϓ) (s:Shared) (H:Hp) (E:XK),pH k q b->Qcz (QfS CX0 P w K mg base N q jr f b A a s H E).nox BL m) :
  Mal P w K mg base (k+1) C x ps zS3:=by
 show zd1 g h d;show#[f,fd,Qpv F S hN (λb A a s H E e=>c f b A a s H E e),g,h]
#print"-"
section
variable{X:Cx}{C:Addr}{k n:Nat}{g:FM}{x c:Str}{ps:Â}{p pos apos:Pos}{o e:Expr}{es:ā}{mo:ME}{ms:MA}
def Qlf(cl:xz)(M:Mal X.prog X.w X.K X.mg X.base k C x ps g)(I:Tj)(J:Tt)(Y:qZ)(L:aX:=by rfl)(S:Ϧ:=by rfl)(m:ju:=by rfl)
  (E:Hh zxg=(do
   let y <-Hh o
   zJe
   let(f,first) <-holding [y] (getMethod y x pl)
   callWith pos f first (backTo pos qdi) (backToKw pos qi2)):=by rfl):ą zxg (UF C x n g mo ms):=by
 show zd1 N U M;subst L;refine Q2 (Qkz J cl N F I U .nil Qhy Y (Za S) (Z4 m) E) (Ł σ H Q q);let#[R,d,h,w,Z,D,st,e1,k]:=q;show ĵ a B e2 e3 e1;let#[fs,e4,s]:=ģ e3;split at s
 ·rename_i b;let#[#[as,z],e6,r]:=ģ s;split at r
  ·rename_i P;refine#[R,d,h,a,B,D,st,e2,CB v u i];let#[n,dx,fx,g1,g2,g3,g4,g5]:=G8 i e4 rv;show TY #[_,dx,fx,g3,g4,g5.none (IT.mp b),R1,d,B,as,z,i,yn u,e6,λR2 H2 vs t l j=>?_] #[R2,a::as,z,w,Z,P,l,Rws.cons (Rw.mono t _ _ rv) (by rw[EM];show j),r,k.ext (Ē u t)]
  ·cases r
 ·cases s
#print"-"
def QhD{K:Nj}{h:Heap}{c:Str}{C:Addr}(X:TQ)(G:S9 d)(f:Ip K mainGlobals c=sO (sO oj))(b:qGe)(hd:aM)(po:zUb)
  (a:zw6) (mk:aP) (e:zGe):ClsAt K d C c:=
 #[#[b,hd,po,a],mk,e,FY X G f]
def QtE{l:PySem.W.OpenLaw}{d:DefRec}{K:Params->Nj}{st:Stmt}{sem:Addr->FM}{k:Nat}(y:l.most=sO 63)(B:zI6)(U:zP3)(A:d.name="law")
  (hY:∀(w:World) (h:Heap),YP w h->br)
  (Z:∀(kV c pm:Value) (I:BC) (g ct:Value) (s:Shared) (u:Value),BindsTo s (DJ "law" "law" xi BL jr .none kV c pm I g ct) qEe [("script",u)])
  (F:∀(w:World) (i:Ĕ) (h:Heap),br->S9 i ->
   DefAt fZ i "law" st wm/\∀base:Heap,qJ7->zN7 i->∃C,Cal l.prog w fZ i base k "law" wm (sem C))
  (main:∀(C:Addr) (ns:Ũ),xj4->∃h',sem C [zE7] []=sO (Ϣ,h')) :
  Yb5 q t XP YP l.row.toRowW d [] zJ2:=by
 refine L2.QmP (n:=63) (k:=k) (x:="script") (CX:=λ_=>CX0) (sp:=λw vs H Q E=>vs.length=1/\∀C,spM fZ 1 (sem C) vs H Q E) y Ð B U hY ?_ ?_ λ_ _ _ _ _ z=>z
 ·intro w i fa h KX G b;let#[D,Fn]:=F w i h KX G;let#[f,fd,Fu,r,_]:=D.ex;rw[A]at b;show â r b;let#[oc,od,kV,c,pm,I,g,ct,L,e,lk,Y]:=Fu.ex;refine#[fd,Ô s u,λbase S P=>?_]
  rotate_left
  ·let#[C,CC]:=Fn base S P;let#[f',aa,F',p,_,_,N,M,J,j]:=CC.ex;show â r p;rw[lk]at j;cases j;show F'.imp λ_ _ _ _ z=>z.2 C
  rw[e];show Z kV c pm I g ct s u
 ·intro w H a ns X hO hS;refine#[rfl,è C];let#[h',e]:=main C ns X;refine#[#[λ_=>0,0,H,ξ],[zE7],[],Ϣ,h',rfl,#[rfl,jv z,λn y=>Sk y,λm n r=>Sk r,(λn o z=>ϥ z),jDa,iN,jDa],?_,e,λR' H' v _ _ rv=>rv.bl_eq];refine Rws.cons ?_ Rws.nil;show#[a,_,rfl,hS,Qan ns]
abbrev Qvy(a:W)(ws:Ã)(h:MH):Ú:=match ws with
 |[b]=>zp6 ((Xu c k).getD .non,h)
 |_=>nO
abbrev QmN(n:Nat)(k:Key)(v:W)(a:ü W)(h:MH):Ú:=match Xu a k with
 |ã x=>Ċ x h
 |none=>if uR then sO (v,Ű jA0)else nO
abbrev Qcy(a:W)(ws:Ã)(h:MH):Ú:=match a,ws with
 |Ä n,[b,v]=>(Kz h Φ).bind λc=>(K9 b).bind λk=>QmN n k v c h
 |_,_=>nO
abbrev Qbs:Ã->Option (List Int)
 |[]=>sO []
 |Á i::r=>(Qbs r).map (i::·)
 |_=>nO
section
variable{X:Cx}
def QkM(hu:ļ):QbA X "dict.setdefault" Qcy:=by
 intro L s σ H x xs v us Q I rx rv q;let#[R,h,a,ws,w,h',m,ra,l,e,k]:=q;unfold Qcy at e;split at e
 ·rename_i n b dv;show jIf f c;let#[n',r,hn]:=VZ e1;cases r;let#[y,B,rfl,rb,J]:=Qhf l;let#[uy,Y,rfl,Z,F]:=Wj rv;let#[t,ey,M,N,i]:=m.dicAt ra hn;let eb:=Vf rb e3;subst eb ey;show qu0;let#[z,hd,U,rel,dd]:=QlW I.hok N;let d:=rel.val f;refine LV Fg dd.typeIs Ob xo6 (kt_meets_setdefault zMf _ (Qai Z) hd Y) #[U,dd,?_,zb5,λo u g hs=>?_]
  ·rw[<-Ec rel];show z
  ·rw[hp]at d
   rcases MU f i with z|⟨S,E,D,j,C⟩
   ·rw[z.2]at d;show C7 d
   ·unfold QmN at c;show â D c;rw[j]at d;show#[E,H,ų,d,Ļ m C]
  ·rw [o]at d
   rcases MU f i with P|⟨S,E,D,j,C⟩
   ·unfold QmN at c;rw[P.1]at c;show uT c
    ·rename_i hl;cases c;let he:∃q,u.get? Ŏ=sO q:=let#[q,_,_,hq,_]:=g;#[q,hq]
     let hz:(Ua M f B).length<=sizeLine:=by
      let h1:=Xs M f B;let h2:=Ec i;lia
     show#[B,_,Gm (t':=A7) I (qc3 N) hs he (QiI hz hd (rel.put f F) g),F,ϭ R Ε (m.put t #[_,rfl,Qaa i J]) J]
    ·cases c
   ·rw[j]at d;show C7 d
 ·cases e
def Qen{K:Nj}:∀{a:Ã} {ns:Ũ} {xs:Ö},Qbs a=sO ns->Tq a->xs=ns.map V.int:=by
 intro a
 induction a with
 |nil=>
  intro _ _ e r;cases e;show(xB r,r)
 | cons y a d=>
  intro ns xs e r;show ϶ r v g b c;cases y with
  |int i=>
   show(Ϻ h f (show(Qbs a).map (i::·)=sO ns from e),Š b);rw[b,d f c];rfl
  |_=>cases e
#print"-"
#print"-Mi"
namespace Qd
open L2 Mi
section
variable{prog:Program}{w:World}{A:Around}{E:Ñ}
noncomputable abbrev Kv:=Tr×zU4
abbrev PairQ(prog:Program)(w:World)(h:Heap)(v:Value)(p:Kv):Prop:=∃a o n,ψ/\B8/\cO/\o.data=.seq #[Ha p,p.2.2,] n/\i4 h p
abbrev mrgQ(a ps:M8):M8:=ps.foldl (λb p=>storedH b p.1 p.2.1 p.2.2) a
def QnH(b:M8)(k:Tr)(a:Addr)(v:Value):(storedH b k a v).length<=b.length+1:=by
 unfold storedH;show zk6
def QsE(h1:∀x∈c,i4 h x)(h2:(Qh prog w).is h k a):∀x∈storedH c k a v,i4 h x:=by
 unfold storedH;intro x b;split at b
 ·show Ŭ y d b;unfold YbL;split<;>show h1 y d
 ·show zri b h1 x
  ·cases ĸ b;show h2
def Qey(e:Sb.Ex h h'):∀{n:Nat} (k:Tr) (v:Value),zo k->xl5
 |0,_,_,x=>x.elim
 |_+1,.i _,_,x=>x
 |_+1,.s _,_,x=>x
 |n+1,.t _,_,x=>by
  let#[a,its,rfl,h1,h2]:=x;show#[a,its,rfl,h1.at λo q=>e a o q,Paired.mapP h2 λk v z=>Qey e k v z]
def QeI(e:zc2)(hk:∀x∈a,i4 g x)(b:∀o,qt D o)(m:zdf h a):zdf h' a:=by
 let#[o,p,q,n,l,j,i,_,f,d]:=m;show#[o,p,q,b _ n,l,j,i,λx c=>Qey e _ _ (hk x c),f,d]
def QrF{ps:M8}(hu:qWj)(hh:iB)(M:l≠I)(r:D≠I)(Q:D≠l)(J:∀b o,zAh->b≠I/\b≠D)(z:nW)(hp:∀(j:Nat) (v:Value) (p:Kv),zba->aT->PairQ prog w g v p) :
  ∀(k i:Nat) (s:Shared) (c:M8),xda->xid->qDc->nM->Sb.Ex g s.heap->(∀x∈c,i4 g x)->DctE prog w s.heap D c->qJd ->
  (∀h' tk,zdf h' (mrgQ c xie)->zc2->qa1)->jP8:=by
 show qj8 M
 induction k with
 | zero=>
  intro i s c hk hi m h ex f hD hz P t;let N:xoj:=Í
  subst N
  refine E1 Dc.e_upd (by
   rw[xj5];refine(lc (qT0 (ĺ m h) y));let d:zc2:=qd4;refine(show jV3 from Na (Nl (Nl (P h' tk ?_ d))));rw[YaA (Nv z)]
   show jWf)
 | succ k ih=>
  intro i s c hk hi m h ex f hD hz P t;let q:xp0:=Í
  refine E1 Dc.e_upd (by
   rw[xj5];refine(lc (W.item i s _ _ q (ĺ m h) λv h' tk hv u y=>?_));let d:zc2:=qd4;let B:xvd:=BD z q
   let#[a,o,n,rfl,h1,Z,Y,h4]:=hp i v ps[i] hv (Nn B);let C:=d a o h1;refine(show jX5 from Na (N7 (Na jQh)));show(jpg C Z,Ν (Nl (show wpAny _ A.in1 (holding [.ref za7,za8] (dictSet D (.ref za7) za8)) _ _ _ from N7 ?_)));let X:zdf h' c:=jWf;refine UE (s:={ s with heap:=h',toks:=tk }) (show ve+8<cLine by lia) (Qey d _ _ h4) X É (Õ Z U H);let aa:Sb.Ex g Z:=λb o e=>by rw[H.2 b (J b o e).2];show d b o e
   show Ν #[xj6,ih (i+1) _ (storedH c zdh za7 za8) É q (u.1.at λo e=>fk H I (Eb r)) (jD7 u H) aa (QsE f h4) U (by let:=QnH c zdh za7 za8;lia) (λY F S L=>?_) _];refine P Y F ?_ L;rw[EF B]
   show S)
variable{s:Shared}
def call_pairsQ{ps:M8}(hu:A.units+16<cLine)(H:Ζ)(B:Ń l=js8 M)(z:nW)(hz:zI5)
  (J:∀(j:Nat) (v:Value) (p:Kv),zba->aT->PairQ prog w s.heap v p)
  (h:∀h' tk,DctE prog w h' s.heap.objs.size (mrgQ [] ps)->Sb.Ex s.heap h'->oT):ä qe9:=by
 show joc c i;let a:DctE prog w (s.heap.push { cls:=il,data:=d5 }) s.heap.objs.size []:=#[_,_,_,ŭ,v7,rfl,rfl,Å,Å,rfl]
 let ty:Shared.TypeIs { s with heap:=zwb } ϴ "dict":=Heap.DictOfH.typeIs (s:={ s with heap:=zwb }) a.of;show jEe f B d;refine#[ty,Ybt _ _,?_];show(ı (Na (Ft ty (show ż qs6 from Nl (show ż jVh from ?_)))),jAb d,ı (Dc.keys_miss d (ϟ H) (Õ q t n)),Ŕ wj,Æ (qh3 q t n d));let y:Sb.Ex s.heap ji9:=jK2 n
 let u:s.heap.objs.size<q.objs.size:=by
  show xa4 a n
 let D:DctE prog w ji9 s.heap.objs.size []:=QeI y Ç (λo e=>Ŗ (n _ _ e)) a;show Ν #[xj6,QrF (l:=l) (g:=s.heap) (items:=items) (ps:=ps) (by apply ve+12<cLine;lia) (ϟ H) (NL (NZ f u)) jf9 (EK f) (λb o e=>#[NL (NZ AK u),NL AK]) z J zO2 0 _ [] rfl Ŋ yB (zRc y B) y Ç D qHb (λL r C x=>?_) _];show#[rfl,h L r (Ģ C) x]
#print"-"
#print"-Qd"
namespace Mi
open L2
set_option backward.eqns.deepRecursiveSplit false in
abbrev prQ:Ã->Option (HF xpg)
 |[]=>sO []
 |zu3::r=>(nrm k).bind λt=>(prQ r).map ((t,k,x)::·)
 |_=>nO
abbrev mgQ(a:ε)(ps:fz):ε:=ps.foldl (λb p=>Uu b p.1 p.2.1 p.2.2) a
abbrev mgX(a:Ś)(ps:Ś):Ś:=ps.foldl (λb p=>QbZ b p.1 p.2.1 p.2.2) a
abbrev VJ(ws:Ã)(h:MH):Ú:=match ws with
 |[a]=>(lsW h a).bind λc=>(prQ c).bind λb=>if b.length<=10000000 then sO (ī,h++[Ο (mgQ [] b)])else nO
 |_=>nO
section
variable{X:Cx}{pins:Û}{σ:L2.St}{H:Hp}{s:Shared}{R:Rn}{h:MH}
noncomputable abbrev PrR(K:Nj)(R:Rn):fz->Ś->Prop:=Paired λp q=>zg9/\Rw K R p.2.1 zB7/\nrm p.2.1=MK/\Rw K R p.2.2 q.2.2
def QmS(I:ß)(m:Ϗ):∀{b:Ã} {ps:fz} {xs:Ö} {us:Ë},prQ b=sO ps->xf b->Ι ->
  ∃(kx:Ś) (vs:zY9),PrR X.K R ps kx/\Qca kx vs/\qMb/\∀(j:Nat) (u:Value) (p:Qd.Kv),xs9->xt9->Qd.PairQ X.prog X.w s.heap u p:=by
 intro b
 induction b with
 |nil=>
  show jw1
 | cons f b N=>
  show zL2
  obtain⟨k,x,rfl⟩:∃k x,f=zu3:=by
   cases f with
   |tup l=>
    cases l with
    |nil=>cases e
    |cons k l=>
    cases l with
    |nil=>cases e
    |cons x l=>
    cases l with
    |nil=>show xvc
    |cons _ _=>cases e
   |_=>cases e
  show(Ĭ y B U e,jx4 S Q U q J);cases v with
  |@cons _ u _ us hu tu=>
  let#[kx,vs,d1,d2,Z,Y]:=N S J tu;show Š q;let#[a,vz,rfl,L,q2]:=q;let#[M,P,#[o,g1,g2,n,g3],_]:=I.tuple (Zr m.sub L);show zt z1 C i F q2;let#[u1,g,rfl,E,D]:=Wj P;let#[c,rfl,rfl,d]:=Kj I m i E B;obtain rfl:yH:=hu;refine#[(y,c,C)::kx,(y,c,g)::vs,ĉ #[rfl,i,B,F] d1,ĉ (zf9 D) d2,ϩ Z,λj u p A t=>?_];cases j with
  |zero=>
   let f1:jQ a=u:=é A
   let f2:(y,c,g)=p:=é t
   subst f1;show Ao f2 #[a,o,n,rfl,g1,g2,g3,d]
  |succ j=>show Y j u p (Ģ A) (Ģ t)
def Qdt{K:Nj}:∀{ps:fz} {kx:Ś} {c:ε} {e:Ś},PrR K R ps kx->DctR K R c e->DctR K R (mgQ c ps) (mgX e kx)
 |_,_,_,_,.nil,d=>d
 |_,_,_,_,zFd,d=>by
  apply DctR K R (mgQ (Uu _ p.1 p.2.1 p.2.2) _) (qK5 q);rw[h.1];show Qdt t (GX d h.2.1 (jH h) h.2.2.2)
def Qc6:∀{kx:Ś} {vs:zY9} {c:Ś} {e:zY9},Qca kx vs->Qca c e->Qca (mgX c kx) (Qd.mrgQ e vs)
 |_,_,_,_,.nil,d=>d
 |_,_,_,_,zFd,d=>by
  apply Qca (qK5 p) (Qd.mrgQ (storedH _ q.1 q.2.1 q.2.2) _);rw[h.1,h.2.1];show Qc6 t (GO d h.2.2)
def Qlg:∀(kx a:Ś),(mgX a kx).length<=a.length+kx.length:=by
 intro kx
 induction kx with
 |nil=>
  intro a;show Nw _
 |cons p kx c=>
  intro a;let e:=c qA1;let d:=WX (kx:=a) (k:=p.1) (b:=p.2.1) (v:=p.2.2);apply(mgX qA1 kx).length<=_;rw[NS];lia
def Ud(hc:ĥ)(hu:ļ):ŀ zH7 (Fs X.K VJ):=by
 intro pins s σ H L us Q I r q;let#[R,h,ws,w,h',l,d,e,k]:=q;unfold VJ at e;split at e
 ·show zk9 B x
  ·rename_i hz;cases x;show(CL v U d,AB L Y S l U e1,jG9 P t n Y);let#[E,N,J,F,d3,d4]:=QmS I l e3 S rv;let l1:=Ec J;let l2:=Ec F;let#[#[oc,aa,ab,Z],m,n,D,C,c]:=n;dsimp only at D C c;subst D C c;let ae:10000000<=sizeLine:=ÿ
   refine Qd.call_pairsQ (ps:=N) (items:=t.toArray) yU kz n (Ģ d3) (by rw[Nz];lia) jZc qW8;show pQ;let#[R3,M,i,f]:=l.new (mo:=Ο (mgQ [] B)) (o:=.dT (mgX [] E)) hp (ŗ R' y #[_,rfl,Paired.mapP (Qdt J .nil) (qh9 y)])
   let#[o,es,ep,b1,b2,b3,b4,_,b6,b7]:=dd;refine#[ϋ s,_,I.laid (t':=tk) kp Č (k9 (.dT _) #[?_,?_,_,Qc6 F .nil,o,es,ep,b1,b2,b3,b4,b6,b7]),rfl,ϭ R3 M i f]
   ·let:=Qlg E [];show jb;lia
   ·show jV7
  ·cases x
 ·cases e
#print"-"
#print"-Mi"
namespace L2
def QgC:typeLookup qr5 "__len__"=SO:=by
 show RX
def QjK:typeLookup qr5 "__length_hint__"=pure (sO (.builtin "list_reverseiterator.__length_hint__")):=by
 show RX
section
variable{prog:Program}{w:World}{A:Around}{E:Ñ}{s:Shared}{r d:Addr}{its:Ķ}
def Ql3{Q:Cb}(e:s.TypeIs qh "list_reverseiterator")(h:wE):ä (xi8 qh):=by
 show Æ (DF e QgC (show wpAny _ A (specialOf (vM r) (Str.ofString "__length_hint__")>>=_) _ _ _ from Na (DF e QjK ?_)));generalize a:("list_reverseiterator.__length_hint__":String)=c
 show(qp8 ("list_reverseiterator","__length_hint__"),Na (Iw (b:=true) e nw zU2))
def QcQ{R:cF}(B:Ζ)(hit:qd7)(z:qN4)(S:Addr)(m:S≠r)(t:S≠d)(n:d≠r)(res:Value)(g:Nat)(hS:Ń S=sO { cls:=Ę,data:=.seq #[] g })(y:kU)
  (D:∀h' tk a j,(∀b o,b≠S->b≠r->yz)->yi S=jrb j->jW9->jdf R qw9 h') :
  wpAny Ĝ A.in1 (ju7 S r)
   (jTe h j) (qG9 h) s:=by
 let W:=Walks.listRev (prog:=prog) (w:=w) (A:=A.in1) B r d n its;show Æ (DK (T:="list_reverseiterator") hit.typeIs ?_);let F:Builtin.List.listSameRef p6 qh=false:=qo9
 rw[if_neg (by rw[F];decide)];show(Æ (L5 hit (Na (N7 (Ql3 hit.typeIs ?_)))),zK4);let q:S∉[r,d]:=g6 m t
 show Ν #[jgh,Ya3 W.toS y S q res its.size 0 _ #[] g rfl Ŋ #[NO _,by simpa using hit,z] hS qSh (ϰ h a j x u l)];rw[Moved.eq_with x];refine D h.heap h.toks a j (λb o C p e=>x.heap b o (TV c) e) u l
 rcases HE c with H|c
 ·show C H
 ·show p (ND.mp c)
def QmC{Q:Ñ}(B:Ζ)(hit:qd7)(x:qN4)(l:d≠r)(z:kU)
  (C:∀h' tk a q,(∀b o,b≠r->yz)->zL0 h'=jrb q->jW9->oT) :
  ä (call i7 [Ä r]):=by
 refine YaN (Q₁:=λobj c=>zu2/\c={ s with heap:=s.heap.push { cls:=Ę,data:=zfb } }) PySem.F.called_list (PySem.F.typeCall_list_1 _) PySem.F.entry_list_init (code_list_new _ ś) λobj c g=>?_;show uX g;let hS:(s.heap.push { cls:=Ę,data:=zfb }).get? s.heap.objs.size=sO { cls:=Ę,data:=zfb }:=ŭ;let u:r<s.heap.objs.size:=let#[_,j,_]:=hit;NN j
 let t:d<s.heap.objs.size:=let#[_,j,_]:=x;NN j
 refine#[zP8,PySem.F.args_list_init_2 _ _,?_];refine(show ż (do let old <-Builtin.List.listItems ϴ;Builtin.List.listUpdate ϴ xph;letGo old.toList.reverse;jU5) from Na ?_);show Æ (Fe hS rfl ζ);refine(show ż (updateSeq s.heap.objs.size xph>>=λ_=>letGo (#[]:Ķ).toList.reverse>>=λ_=>jU5) from Na (LZ hS rfl ?_));let n:=Ep jy2 hS rfl
 let f:∀b o,b≠s.heap.objs.size->ϙ->((s.heap.push { cls:=Ę,data:=zfb }).update s.heap.objs.size jy2).get? b=sO o:=
  λb o m e=>ze5 (Eb m) Tm
 show Æ (wpAny_letGo ?_);refine QcQ (A:=A.in1) B (hit.at λo e=>f r o jf9 e) (x.at λo e=>f d o (NL t) e) _ (EK u) (EK t) l .none _ n z λh' tk a q hk p h=>?_;show#[rfl,C h' tk a q (λb o m e=>hk b o fT m (f b o fT e)) p h]
#print"-"
#print"-L2"
namespace Mi
open L2
set_option backward.eqns.nonrecursive false in
abbrev Ge(ws:Ã)(h:MH):Ú:=match ws with
 |[a]=>fO (ī,h++[.lst ws.reverse])
 |_=>nO
def Rws.reverse{K:Nj}{R:Rn}:∀{ws:Ã} {vs:Ö},ϡ->Rws K R ws.reverse vs.reverse:=by
 intro ws
 induction ws with
 |nil=>
  intro _ h;show ztf
 |cons w ws a=>
  intro _ h;show vi h;let#[v,vs,rfl,c,b]:=h;rw[Lq,Lq];show Rws.append (a b) (Rws.cons c Rws.nil)
section
variable{X:Cx}
def QbT{p1 Z m l:Pos}(hc:ĥ)(hg:Gl X "list")(hm:X.mg "list"=nO)(D:zO1)(A:zKa)(he:wI)(hs:Ϧ:=by rfl) :
  ą (.Call (.Name "list" p1) [.Call (qD8 Z) [e] [] l] [] m) (mFn Ge zai):=by
 refine QcV (Ş þ) hg hm D3 D A boot_reversed þ he hs Ð λF g σ H1 Q R2 t I a w v u I1 P i S e3 kk=>?_;show(ū L e8 e9 e3,AB E Y U i S e8,qfd P z H Y C);let hk:∀b o,BM g b=sO o->(g.heap.push { cls:=zCh,data:=zxc }).get? b=sO o:=kP;let J:(g.heap.push { cls:=zCh,data:=zxc }).objs.size=g.heap.objs.size+1:=DR ..;let B:ad<g.heap.objs.size:=let#[_,ho,_]:=z.isList;NN ho
 refine QmC (s:={ g with heap:=g.heap.push { cls:=zCh,data:=zxc } }) (its:=d.toArray) qZj yB (z.isList.at λo e=>hk _ o e) (NL B) (tE C H) λI tk f c kp eL h=>?_
 let hv:Vals E.reverse f.toList:=by
  let:f.toList=d.reverse:=by
   show SI j;let t:=h.1;rw[Nz]at t
   show gh r j d
   ·let n:j<f.size:=Nf r (İ t);let:=h.2 j f[j] (NR n);rw[Nz,Fx]at this;rw[NT,NR n,LK r,this]
   ·rw[NX (by simpa[t]using N6.mp r),NX (by simpa using N6.mp r)]
  rw[this];show Vals.reverse rv
 let hp:=I1.hok.fresh (DW g.heap.objs.size);let#[R3,M,y,x]:=i.new (mo:=.lst L.reverse) (o:=.lst E.reverse) (p:=Rz g) hp (ŗ R' N #[_,rfl,Tf N (Rws.reverse U)])
 let q:=eL;rw[J]at q ⊢;show#[Ä (g.heap.objs.size+1),_,I1.laid (t':=tk) (λb o e=>kp b o fT (hk b o e)) Mh (m8 I iP  #[by rw[ED];show H,f.toList,c,hv,by rw[q]]),rfl,kk R3 _ _ M y x]
#print"-"
abbrev Qok(ws:Ã)(h:MH):Ú:=match ws with
 |[Î b]=>(txW b).bind λa=>if a.length<4000/\(St.uniq a).length<64 then sO (ī,h++[À (xJj a)])else nO
 |_=>nO
abbrev Yh(ns:Ũ):Int:=ns.getD (argBest jZh zPb) 0
abbrev Qcm(ws:Ã)(h:MH):Ú:=match ws with
 |[a]=>(lsW h a).bind λc=>(Qbs c).bind λb=>if 0<b.length then sO (Á (Yh b),h)else nO
 |_=>nO
section
variable{X:Cx}
def Qcn(U:ĥ):ŀ zL7 (Fs X.K Qcm):=by
 intro C s σ H D us Q I r q;let#[R,h,ws,w,Z,B,x,e,k]:=q;unfold Qcm at e;split at e
 ·show zk9 a z
  ·show(ſ N z,CL v L x,AB D M J B L e1,qf F r);let ex:=Qen e3 J;subst ex;let#[c,rv,y,hl]:=ϒ M;let d:c.length=a.length:=by rw[<-rv.length,Nr]
   let n:ad<s.heap.objs.size:=let#[_,S,_]:=y.isList;NN S
   refine call_max_walk (FC y.isList #[s.heap.objs.size,_,_,_,_,_,zy9,rfl,OV (show X.A.in1.handled=nO by simp[I.ok.hd U]) _ ad (NL n) c.toArray,#[yB,y.isList.push _],Ô b p,by rw[Nz,d];show N,CmpOf.ints_gt (λi=>a.getD i 0) (Õ i v P),λv Z tk Y hk=>?_])
   ·let l:=DR s.heap { cls:=mL,data:=.fields #[zgg,nB,] };simp only[NK,DQ,or_false]at p
    show mV p
    ·show Nf Af (İ l)
    ·show Nf (E9 n) (İ l)
   ·let m:c[i]?=sO v:=é P
    let f:=Ü m;rw[d]at f;let#[E,g1,g2]:=rv.get (show(a.map V.int)[i]?=sO (V.int a[i]) by rw[Nt,Nn f];rfl);show(â m g1,á g2);show#[t,by rw[EB,Nn f];rfl]
   ·let g:c[argBest zy9 (c.toArray.size-1)]?=sO v:=é Y
    rw[Nz,d]at g;let f:=Ü g;rw[d]at f
    let#[E,g1,g2]:=rv.get (show(a.map V.int)[argBest zy9 qp0]?=sO (V.int (Yh a)) by
     rw[Nt,Nn f];unfold Yh
     rw[EB,Nn f];rfl)
    show â g g1;refine#[Á (Yh a),H,I.kept (t':=tk) λb o e=>hk b o (TV p) Tm,g2,Ļ B wj];rw[ĸ p]at e;show ý AK vP
  ·cases z
 ·cases e
#print"-"
section
variable{X:Cx}
def QhV{k n:Nat}{C:Addr}{c:Str}{ps:Â}{g:FM}{p pos:Pos}(s:ClsAt X.K X.mg C c)(M:Mal X.prog X.w X.K X.mg X.base k C "__init__" ps g)(I:zMg)(N:Gl X c)(J:aX:=by rfl)
  (j:(c==b8)=false:=by decide):ą (.Call (.Name c p) [] [] pos) (Qij C n g Qc):=by
 show zd1 u P M;subst J;refine Q2 (Qhk #[s.ms,u.at_,u.fn,s.kp] F I N s.mg P .nil Qhy j) (Ł σ H Q q);let#[R,z,h,w,h',E,st,Z,k]:=q;let#[#[as,h1],Y,m]:=ģ Z;cases Y;split at m
 ·rename_i L;show ĵ r S U l m;intro x y nx nd ne;let#[B,i]:=E.fix (o:=.own x) nd;let#[R3,D,e,b]:=i.new (mo:=.ins C []) (o:=.ins C y []) (p:=x) (by rw[Qu (Eb ne)];show nx) λR' _=>#[y,[],rfl,.nil]
  rw[EM];split at l
  ·show(ſ a l,gc a);show HC a #[R3,[ī],h++dC,.non,S,L,e,Rws.cons b (by rw[Rws.nil_iff]),U,λR4 H4 v t d rv=>#[by show(zg5,rv),?_]];show k R4 H4 _ (uE B D t) d (Tc t b)
  ·cases l
 ·cases m
#print"-"
def Qd7:∀{vs:Ë} {a:Ũ},IntsAre vs a->Vals (a.map V.int) vs
 |_,_,.nil=>.nil
 |_,_,.cons _ t h=>ĉ Sd (Qd7 h)
def QpP{K:Nj}{h:Heap}{x:Str}{c:Addr}{n:Nat}(X:TQ)(G:S9 d)(a:zsa)
  (l:jwa) (hz:kU) (e:IntsAre its.toList b):Glob K d x (Ĩ (b.map .int)):=
 #[Ä c,_,xR,rfl,λR=>by
  show#[c,_,rfl,ê #[_,its,n,l,rfl,rfl,hz,Qd7 e],Qan b]]
#print"-Mi"
namespace L2
open PySem.SeqAt
def QlQ{prog:Program}{w:World}{A:Around}{E:Ñ}{s:Shared}{d:Addr}{xs:uK}{Q:Ñ}(hu:qT2)(hd:km)(a:qjj)(h:zt4 (.bool false)):ä (compareOp .In .none P7):=by
 apply wpAny _ _ (do return .bool (<-contains P7 .none)) Q E s;show jC;unfold contains
 show qj4
 show Æ (DF a.typeIs IH.lookup ?_);apply wpAny _ _ (BF (sO (Value.builtin "dict.__contains__")==xif)) _ E s;rw[qwe]
 refine Na (wpAny_callSpecialUnlessNone?_slot (name:=Str.ofString "__contains__") a.typeIs IH
  (Et IH a.typeIs PySem.F.entry_dict_contains ?_ (PySem.F.args_dict_contains_2 _ _)))
 apply ń qDd;let#[o,g,i,c,_,hD,e,b,f]:=a;show(jpd e b,zi0);apply ż (Builtin.Dict.pendingKey? d .none>>=_);show Na (wpAny_pendingKey_other hd (jK #[_,rfl,OI zU2]))
#print"-L2"
namespace Mi
open L2
abbrev Qbp(b a:W)(h:MH):Ú:=match b with
 |.non=>(XT h a).map λ_=>(vC,h)
 |b=>U8 false b a h
def Qhx{X:Cx}(hu:ļ):æ bL (F2 X.K Qbp):=by
 intro c s l H x y v u Q I i g m;let#[R,h,a,b,w,r,d,j,f,e,k]:=m;unfold Qbp at e;split at e
 ·show(ū o B t e,rK q B);let#[E,C,F,J,z,lo,D,dd]:=XG I d q;show(xp2 p x j v i,zoe g);show QlQ (show lO by show zBa) lo dd (jv6 ų d)
 ·show Qmt hu c s l H x y v u Q I i g #[R,h,_,_,w,r,d,j,f,e,k]
abbrev U2(ws:Ã)(h:MH):Ú:=match ws with
 |[a]=>(Kz h a).map λb=>(À (zTj b),h)
 |_=>nO
def Qkm(p:Pairs (ZY prog w) es vs):∀{kx:ü V},jdh->Vals (kx.map xwg) (es.map (·.key)):=by
 induction p with
 |nil=>intro kx h;show zj0 h
 |cons hk _ _ c=>
  intro kx h;obtain _|⟨e,d⟩:=h
  refine .cons ?_ (c d);apply RelV (kV _) (DictEntry.key _);rw[e.1]
  rcases Q1 hk with⟨i,t,b,a⟩|⟨x,t,b,a⟩
  show qDj
  show qDj
section
variable{X:Cx}
def Gy(hc:ĥ):zrg U2:=by
 intro D s σ H xs us Q I r q;let#[R,h,ws,w,F,C,x,e,k]:=q;show vB U2 e
 ·show ū c e1 e2 e;let#[n,rfl,hn]:=VZ e1;show(CL v P x,Pv N r);let#[_,rfl,m,E,L]:=C.dicAt P hn;show Cn u N;let#[z,lo,vs,rel,o,d,J,h1,h2,h3,_,h4,_]:=QlW I.hok E;let t:=Qkm h4 rel;let f:d.size=m.length:=by let:=t.length;simpa using this.symm
  refine O7 (zTh d J) kz #[o,h1,h2,h3] (j0 f z) λF tk b c' Y eL a=>?_
  let ha:b.toList=d.toList.map (·.key):=by
   show SI j;rw[Nt]
   by_cases i:j<d.size
   ·let g:j<b.size:=by rw[a.1];show i
    show qm2 B a;rw[NR i]at l;cases l;rw[NT,NR g,B,NT,NR i];rfl
   ·let U:qP9:=by rw[NP,a.1];show zZ6
    let S:d.toList.length<=j:=by rw[NP];show zZ6
    rw[NX U,NX S];rfl
  rw[<-ha]at t;show pQ
  let hr:SK (zTj c) (m.map xwg):=by
   let e:=QaS L;rw[show(zTj c)=(c.map (·.1)).map kW by rw[Ei];rfl,e,Ei];clear e L E rel t f z
   induction m with
   |nil=>show xn
   |cons q m Z=>show Rws.cons Qp9 Z
  let#[R3,M,A,y]:=C.lstI (p:=s.heap.objs.size) hp hr;refine#[ϋ s,_,I.laid (t':=tk) Y Č (m8 F iP  #[zK8 z,b.toList,c',t,qVg]),rfl,ϭ R3 M A y]
 ·cases e
#print"-"
open Sb
set_option backward.eqns.deepRecursiveSplit false in
abbrev Qnh:Ã->qX0
 |[]=>sO []
 |w::r=>(nrm w).bind λt=>(Qnh r).map (t::·)
abbrev Xw(ws:Ã)(h:MH):Ú:=match ws with
 |[a]=>(lsW h a).bind λc=>(Qnh c).bind λb=>if b.length<=300 then sO (.int (uq b).length,h)else nO
 |_=>nO
section
variable{X:Cx}
def QgV(I:ĳ d)(i:Ϗ):∀{ws:Ã} {c:jA} {xs:Ö} {us:Ë},Qnh ws=sO c->rp->Ι->Paired (λt u=>∃a,yH/\fJ t u) c us:=by
 intro ws
 induction ws with
 |nil=>
  show(zgj c,zu0,zj0 v)
 | cons w ws m=>
  show zgj c;unfold Qnh at e;show(Ĭ t p o e,Ϻ g n o,϶ r y q l j);cases v with
  |cons v1 f=>
   let#[b,rfl,rfl,hk]:=Kj I i l v1 p;show ĉ #[b,rfl,hk] (m n j f)
def QaY{g:Heap}:∀{b:jA} {us:Ë},Paired (λt u=>∃a,yH/\L2.IsT g 8 t u) b us->QrX g us.toArray b
 |_,_,.nil=>#[rfl,λi v e=>ϥ e]
 | t::b,u::us,ĉ (Ŷ a h q) p=>by
  let#[h1,h2]:=QaY p;refine#[by show(BW h1,h1),Õ i v e];cases i with
  |zero=>
   show(jo e,Ao h #[t,a,rfl,rfl,q])
  |succ i=>
   simp at e;let#[k,x,f,d,c]:=h2 i v ox;show#[k,x,é f,d,c]
def QbV{S P h g:Pos}(hu:ļ)(hc:ĥ)(hg:Gl X "len")(hm:X.mg "len"=nO)(r:Gl X "set")(p:xia)(he:wI)(hs:Ϧ:=by rfl) :
  ą (.Call (.Name "len" S) [xib P g] [] h) (mFn Xw zai):=by
 refine QcV (Ė þ) hg hm Yb3 r p boot_set þ he hs Ð λi y H H1 Q R2 h1 h' a w v u I1 I c J e3 U=>?_;show zmj e8 e9 e3 m x d
 ·rename_i hz;cases d;let#[ad,xs,rfl,M,L]:=c.lsAt J e8;cases I;let#[n,rv,N,hl]:=zT M;let B:=QgV I1 c x L rv;let q:n.length=m.length:=(Ec B).symm;refine Sb.set_tups (G₁:=λ_=>True) (by first|show zBa|(apply kK+12<cLine;omega)) qZj N.isList (QaY B) qHg (by rw[Nz,q];omega) (Ł g1 f j Y);let#[o,es,ep,t,ho,Z,hd,T,sz,E,ae,ab,C,D,_]:=j;let hf:uM:=T.fits (by rcases sz with⟨z,l⟩|⟨z,l⟩|⟨z,l⟩|⟨z,l⟩<;>rw[z]<;>omega);let aa:=QiV m;refine call_len_set (s:={ y with heap:=g1,toks:=f }) ho Z hd hf (by rw[C];omega) ?_;rw[C];let I2:Inv X i H H1 { y with heap:=g1,toks:=f }:=I1.kept λb u e=>Y b u e;show#[.int (uq m).length,H1,I2.tok _,þ,U R2 _ _ Ε c wj]
 ·cases d
#print"-"
section
variable{p:Ë->Prop}
def ar0(h:p [])(us:Ë)(e:us.length=0):p us:=List.eq_nil_of_length_eq_zero e▸h
def arS{n:Nat}(h:∀a us,us.length=n->p (a::us)):∀us:Ë,us.length=n+1->p us
 |a::us,e=>h a us (Nat.succ.inj e)
def ar1(h:∀a,p [a]):∀us:Ë,us.length=1->p us:=arS λa=>ar0 (h a)
def ar2(h:∀a b,p [a,b]):∀us:Ë,us.length=2->p us:=arS λa=>ar1 (h a)
def ar3(h:∀a b c,p [a,b,c]):∀us:Ë,us.length=3->p us:=arS λa=>ar2 (h a)
def ar4(h:∀a b c d,p [a,b,c,d]):∀us:Ë,us.length=4->p us:=arS λa=>ar3 (h a)
def ar5(h:∀a b c d e,p [a,b,c,d,e]):∀us:Ë,us.length=5->p us:=arS λa=>ar4 (h a)
def ar6(h:∀a b c d e f,p [a,b,c,d,e,f]):∀us:Ë,us.length=6->p us:=arS λa=>ar5 (h a)
#print"-"
section
set_option genInjectivity false
set_option backward.match.sparseCases false
abbrev JQ:Expr->Nat
 | .Call f a _ _=>match a with
  |[]=>match f with
   |xj7=>1
   |_=>2
  |_=>1
 |xn1=>3
 |.Compare ..=>4
 |.BoolOp ..=>4
 |.IfExp ..=>4
 |.UnaryOp o _ _=>match o with
  |.Not=>4
  |_=>1
 |.Tuple ..=>5
 |.Name ..=>1
 |.Constant ..=>1
 |.BinOp ..=>1
 |.Subscript ..=>1
 |xj7=>1
 |.List ..=>1
 |.Dict ..=>1
 |_=>0
structure EOk(e:Expr):Prop where
 fold:∀env x,foldedSetIterable e env x=pure x
 ix:WJ e
 star:Ϧ
 stE:∀env r,starEach (e::r) env=jMa::starEach r env
 mark:∀op,behindInMarks op e=false
 put:∀env o p v,assign (.Subscript o e p) env v=(do
   let ov <-holding [v] (SJ o)
   let iv <-holding [v,ov] (SJ e)
   standAt p
   holding [v,ov,iv] (setItem ov iv v)
   release [v,ov,iv] [])
 comp:xU->Tk
 attr:JQ e≠2->∀env f,qd2
 tru:JQ e≠4->∀env whole,PySem.isTrue e env whole=(jT8 e)
 sto:JQ e≠5->∀env es k p,swappedStores [.Tuple es k p] e env=SO
def Q5{e:Expr}(h:BN):EOk e:=by
 let no:∀n:Nat,n≠n->False:=λ_ z=>z rfl;cases e with
 |Call f a k p=>
  refine#[ş,ş,rfl,ş,Λ,ti,Λ,?_,AE,bF];intro b v g;cases a with
  |cons=>show Hu f
  |nil=>cases f<;>first|rfl|show(b rfl).elim
 |UnaryOp o a p=>cases o<;>show#[ş,ş,rfl,ş,Λ,ti,Λ,AE,jw2,bF]
 |_=>first|show(h rfl).elim|show#[ş,ş,rfl,ş,Λ,ti,by first|show Λ|show zE2,AE,jw2,by first|show bF|show zE2]
structure Fc where
 d:Nat
 x:Str
 C:Addr
 k:Nat
 ps:Â
 g:FM
structure Wd where
 P:Program
 w:World
 K:Nj
 mg:Ĕ
 base:Heap
abbrev Fc.okd(Z:Wd)(x:Str)(f:Fc):xF
 |0=>Z.mg x=nO
 |1=>Cal Z.P Z.w Z.K Z.mg Z.base f.k x f.ps f.g
 |2=>xwh/\Mal Z.P Z.w Z.K Z.mg Z.base f.k f.C x f.ps f.g
 |3=>ClsAt Z.K Z.mg f.C x/\Mal Z.P Z.w Z.K Z.mg Z.base f.k f.C "__init__" f.ps f.g
 |_=>xwh/\NoAttr Z.K f.C x
abbrev Fc.ok(Z:Wd)(f:Fc):Prop:=f.okd Z f.x f.d
structure Cf where
 N:Â
 sc:Scope
 k:Nat
 fn:Bool
 t:yl
structure CxOk(c:Cf)(X:Cx):Prop where
 N:X.N=c.N
 nd:X.N.Nodup
 sc:X.env.scope=c.sc
 cal:ĥ
 xe:pG
 rm:Room c.k X.A
 fn:c.fn=true->∀x,fL
 ce:∀x,(S3=j8\/S3=A9)->∃a,bJ x=sO a
 tb:∀f∈c.t,f.ok qr6
def CxOk.hu(k:ν):ļ:=k.rm.units
noncomputable abbrev MM(a:Type):=Nat->Option (a×Nat)
structure RM(c:Cf)(α:Type)(p:Cx->α->Prop) where
 m:α
 h:∀X,ν->p X m
section
variable{α β:Type}
abbrev Zh(x:MM α)(f:α->MM β):MM β:=λn=>match x n with
 |some (a,n)=>f a n
 |none=>nO
abbrev Zg(a:α):MM α:=λn=>Ċ a n
abbrev coMo(o:Ū α)(f:α->MM β):MM β:=λn=>match o with
 |ã a=>f a n
 |none=>nO
abbrev QaZ(f:Nat->MM α):MM α:=λn=>f (n%32) (n/32)
abbrev Vz(p:Prop)[Decidable p](f:p->MM α):MM α:=λn=>if h:p then f h n else nO
#print"-"
abbrev K7(x:Str):(l:Â)->Option {i:Nat // l[i]?=sO x}
 |[]=>nO
 |y::l=>if h:y=x then sO #[0,Tp h]else(K7 x l).map (AY r #[r.1+1,r.2])
abbrev GC(d:Nat)(x:Str):(t:yl)->Option {f:Fc // f∈t/\zSg}
 |[]=>nO
 |f::t=>if h:zSg then sO #[f,.head _,h]else(GC d x t).map (AY r #[r.1,.tail _ r.2.1,r.2.2])
def CxOk.fc(k:ν)(r:{f:Fc // f∈c.t/\zSg}):r.1.okd qr6 x d:=by
 let#[f,h,rfl,rfl]:=r;show k.tb f h
def CxOk.gl(k:ν)(h:S3=kR):Ϭ:=by
 apply pU=_;rw[k.sc];show h
abbrev Qjk{a:Type}(c:Cf)(x:Str)(f:(∀X,ν->Ϭ/\vV)->MM a):MM a:=
 Vz (S3=kR) λh=>coMo (GC 0 x c.t) λr=>f (ŗ X k #[k.gl h,k.fc r])
abbrev coLoB(c:Cf)(x:Str):Prop:=S3=CQ\/(c.fn=true/\S3=j8)
noncomputable instance:Decidable xj8:=by unfold coLoB;show zhh
def coLoB.loc(h:wJ)(k:ν):jS6:=by
 unfold L2.Loc;rw[k.sc]
 rcases h with h|⟨f,h⟩
 show č #[Ý h,ê h]
 show č #[ê h,Ý (k.fn f x)]
abbrev Qk7(sc:Scope)(x:Str):Prop:=Vis sc x
noncomputable instance:Decidable (Qk7 sc x):=by unfold Qk7 Vis;show zhh
def CxOk.ix(k:ν)(i:{i:Nat // c.N[i]?=sO x}):X.N[i.1]?=sO x:=by rw[k.N];show i.2
noncomputable abbrev RE(c:Cf)(e:Expr):=RM c ME λX m=>yL
noncomputable abbrev RT(c:Cf)(e:Expr):=RM c MT λX m=>PMT X e m
noncomputable abbrev RA(c:Cf)(es:ā):=RM c MA λX m=>PMA X es m
structure Ih where
 e:∀c e,xwi
 t:∀c e,xwj
abbrev Qwn(c:Cf)(x:Str)(p:Pos):MM (RE c Pw):=
 coMo dU λi=>Vz (Qk7 c.sc x/\zC5/\(x=="__classdict__")=false) λh=>
  Zg #[Qb i.1,λX k=>Qqo i.1 jb6 (by rw[k.sc];show h.1) h.2.1 h.2.2]
abbrev Qjo(i:Ih)(c:Cf):(es:ā)->MM (RA c es)
 |[]=>Zg #[Qc,λ_ _=>Qln]
 |e::es=>Vz (JQ e≠0) λh=>Zh BJ λa=>ę zR0 r #[Qa a.m r.m,λX k=>QhT Ā qi dD]
structure OB where
 op:Operator
 f:yC
 h:∀c X,ν->æ zP1 zV1
structure QB where
 op:CmpOp
 f:yC
 h:∀c X,ν->æ qeb zV1
structure FB where
 x:Str
 f:ŷ
 h:∀c X,ν->Ϭ->vV->∀{e es ms p pos},qZ->Ϧ->ju->zs6
structure YB where
 x:Str
 T:String
 id:String
 f:cf
 pa:db
 sl:Slot T x id
 ty:pB
 h:∀c X,ν->zXi
abbrev fbB{x:Str}{id:String}{f:ŷ}(b:ztd)(h:∀c X,ν->ŀ pO xo7)(d:Se:=by decide)(hd:ω:=by decide):FB:=
 #[x,f,λc X k g m _ _ _ _ _ a s n=>QhF (h c X k) Qbb g m b a d hd s n]
abbrev fbT{x:Str}{T:String}{f:ŷ}(b:zte)(h:∀c X,ν->ŀ fA xo7)(d:Se:=by decide)(hd:ω:=by decide):FB:=
 #[x,f,λc X k g m _ _ _ _ _ a s n=>Qfr (h c X k) Qbb g m b a d hd s n]
structure Tbl where
 o:List OB
 q:List QB
 f:List FB
 y:List YB
abbrev coTbl:Tbl where
 o:=[#[_,_,λ_ _ _=>QlA],#[_,_,λ_ _ _=>Qkh],#[_,_,λ_ _ _=>QkN],#[_,_,λ_ _ _=>QhY],#[_,_,λ_ _ _=>Qlk],#[_,_,λ_ _ _=>QkS]]
 q:=[#[_,_,λ_ _ k=>Qpy],#[_,_,λ_ _ k=>QoF k.hu],#[_,_,λ_ _ k=>QqI],#[_,_,λ_ _ k=>Qnv k.hu],#[_,_,λ_ _ k=>Qo0],#[_,_,λ_ _ k=>QnI],#[_,_,λ_ _ k=>QbF k.hu],#[_,_,λ_ _ k=>Qhx k.hu],#[_,_,λ_ _ k=>QbQ k.hu],#[_,_,λ_ _ k=>Qdx],#[_,_,λ_ _ k=>Qk9 k.hu],#[_,_,λ_ _ k=>Qdl k.hu],#[_,_,λ_ _ k=>QoB k.hu]]
 f:=[fbB Yb3 λ_ _ k=>Qdo,fbT PyProof.Rows.boot_tuple λ_ _ k=>GQ,fbT D3 λ_ _ k=>GP k.cal,fbT YaD λ_ _ k=>Ud k.cal k.hu,fbT YaD λ_ _ k=>Gp k.cal,fbT D3 λ_ _ k=>Gy k.cal,fbT D3 λ_ _ k=>GK,fbT D3 λ_ _ k=>UK k.cal,fbB YaP λ_ _ k=>Qcn k.cal,fbB YbA λ_ _ k=>G1 k.hu,fbB YaP λ_ _ k=>Qd6 k.cal,fbB PyProof.Rows.boot_min λ_ _ k=>QcT k.cal,fbT D3 λ_ _ k=>QbY]
 y:=[#[_,_,_,_,D6,LU,PySem.F.type_list_append,λ_ _ k=>QbI],#[_,_,_,_,D6,Ybr,PySem.F.type_list_pop,λ_ _ k=>Qmp],#[_,_,_,_,D6,Io,Qq,λ_ _ k=>Qcf],#[_,_,_,_,D6,Yai,PySem.F.type_list_index,λ_ _ k=>Qd2 k.hu],#[_,_,_,_,D6,Io,Qq,λ_ _ k=>G3],#[_,_,_,_,FX,Fg,On,λ_ _ k=>QkM k.hu],#[_,_,_,_,FX,Fq,YaQ,λ_ _ k=>Qgg k.hu],#[_,_,_,_,FX,Fg,On,λ_ _ k=>QkP k.hu],#[_,_,_,_,FX,Fq,YaQ,λ_ _ k=>QcF k.hu]]
abbrev G7(a:Scope):Â:=(a.names.filter (·.2==.free)).map (·.1)
abbrev Qab(sc a:Scope):Scope:={ a with names:=a.names.map λ(n,k)=>if(k==.free&&sc.kind==.function&&sc.names.lookup n==j8)then(n,.cell)else(n,k) }
abbrev Cf.inn(c:Cf)(Nb:Â)(a:Scope):Cf:={ c with N:=Nb,sc:=Qab c.sc a,fn:=false }
abbrev Qhj(c:Cf)(a:Scope)(cp:χ)(Nb:Â):Prop:=
 a.kind=.function/\QcM a=true/\Qiz a (G7 a).reverse=true/\zJ3/\Qoh c.N c.sc a cp Nb=true/\Nb.Nodup /\
 (a.names.all λy=>xnc ||qHh==j8 ||qHh==A9)=true
noncomputable instance:Decidable (Qhj c scope cp Nb):=by unfold Qhj;show zhh
def Qm4{env:Env}(b:zI8):(∀y∈b,y.2=.free->∃a,zOg y=sO a)->∀c:CA,(∀p∈c,zOg p=u5) ->
  ∃d,(forIn b c (λ(p:Str×NameKind) (r:CA)=>if(p.2==.free)=true then(do let a <-cellOf env p.1;pure (qJ ((p.1,a)::r)):Sem _)else jli))=pure d /\
   d.map (·.1)=((b.filter (·.2==.free)).map (·.1)).reverse++c.map (·.1)/\∀p∈d,zOg p=u5:=by
 induction b with
 |nil=>show λ_ c h=>#[c,rfl,rfl,h]
 | cons y r m=>
  intro h c o;show Đ n k y;cases hk:(k==NameKind.free)with
  |false=>
   let#[d,l,j,i]:=m qn5 c o;refine xj9
   ·rw[LP,if_neg (by rw[hk];nofun)];show l
   ·rw[j,DP,if_neg (by rw[show qC1=false from hk];nofun)]
  | true=>
   let#[a,q]:=h (n,k) xx0 (Fl hk)
   let#[d,l,j,i]:=m qn5 ((n,a)::c) (λp g=>by
    rcases HE g with e|g
    ·show Β e q
    ·show o p g)
   refine xj9
   ·rw[LP,zd5,show cellOf env n=pure a from by unfold cellOf;rw[q]];show l
   ·rw[j,DP,if_pos (show qC1=true from hk)];simp
def Qqq(k:ν)(h:Qhj c a cp Nb):∃d,dZ a d/\∀b e C u g,CxOk (c.inn Nb a) (blk X a d Nb b e C u g):=by
 let#[t,s,r,q,p,o,n]:=h
 let#[d,A,z,w]:=Qm4 (env:=X.env) a.names (λy i m=>k.ce y.1 (by
  let:=D9.mp n y i;rw[m]at this
  show ϻ)) [] (λ_ l=>A3 l)
 let hB:dZ a d:=Qqg (by unfold closureFor;show congrArg (·>>=pure) A) t s (Ē z (EM _)) r w k.N k.sc q p;let f:relabel a X.env=Qab c.sc a:=by unfold relabel Qab Env.kindOf;rw[k.sc]
 show#[d,hB,λ_ _ _ _ _=>#[rfl,o,f,k.cal,.never,k.rm,nofun,λx j=>hB.has x (j0 f j),k.tb]]
abbrev Qs1:Nat->Â->MM zah
 |0,_=>Zg []
 |n+1,fs=>QaZ λd=>coMo fs[d]? λx=>ę (Qs1 n (fs.eraseIdx d)) r vA
abbrev Qeo:Expr->Â
 |jb8=>[x]
 |xja=>es.filterMap λ|jb8=>sO x|_=>nO
 |_=>[]
noncomputable abbrev RG(c:Cf)(a:Expr):=RM c MG λX m=>PMG X a m
abbrev QqA(c:Cf):(es:ā)->Option {is:Ê // ∀X,ν->zHg/\jJe/\(assignEach es X.env).findIdx? (·.1)=nO}
 |[]=>sO #[[],λ_ _=>#[Qhb,rfl,rfl]]
 | TN p::es=>(K7 x c.N).bind λi=>if h:wJ then(QqA c es).map λr=>#[i.1::r.1,λX k=>
   have#[a,b,d]:=r.2 X k
   #[Qeb k.nd jb6 zVg a zVh,congrArg (·+1) b,by
    apply List.findIdx? _ ((false,_)::assignEach es X.env)=nO
    rw[List.findIdx?_cons,d];rfl]]else nO
 |_=>nO
abbrev Qtm(c:Cf):(f:Expr)->MM (RG c f)
 |TN p=>coMo dU λi=>Vz xj8 λh=>Zg #[QZ i.1,λ_ k=>Qf7 k.nd jb6 zVg zVh]
 | .Tuple es _ p=>QaZ λd=>coMo (QqA c es) λr=>Zg #[QL r.1,λX k=>
   have#[a,b,e]:=r.2 X k
   Qgs k.cal a b e]
 |_=>ξ
noncomputable abbrev RI(c:Cf)(a e:Expr):=RM c MI λX m=>PMI X a e m
abbrev Quu(i:Ih)(c:Cf)(l e:Expr):MM (RI c l e):=QaZ λd=>match d with
 |0=>ę BJ a #[Qm a.m,λX k=>QmF Ā]
 |1=>ę BJ a #[Xh a.m,λX k=>Qe9 Ā]
 | d=>match e with
  | .Call Pw o [] pos=>Qjk c x λg=>Zh (Qjo i c o) λr=>match o with
   | [a]=>Vz (JQ a≠0) λh=>match d with
    |2=>Vz (x="range") λf=>Zg #[W9 r.m,λX k=>by subst f;show Qo1 y9 ya qi bx]
    |3=>Vz (x="reversed") λf=>Zg #[QdN r.m,λX k=>by subst f;show Qmd y9 ya qi bx]
    |4=>match l with
     |xpi=>Vz qT7 λf=>Zg #[UZ r.m,λX k=>by subst f;show Qit y9 ya qi bx]
     |_=>ξ
    |5=>match l with
     |xpi=>Vz qT7 λf=>Zg #[ZV r.m,λX k=>by subst f;show Qfy y9 ya qi bx]
     |_=>ξ
    |_=>ξ
   | [a,b]=>Vz (x="range"/\JQ a≠0/\je4) λh=>Zg #[QfR r.m,λX k=>by
     let#[f,h,j]:=h
     subst f;show Qnu y9 ya qi (by rw[vJ h,vJ j];rfl) ((Q5 j).stE _ _)]
   | [a,b,q]=>Vz (x="range"/\JQ a≠0/\je4/\JQ q≠0) λh=>Zg #[Qge r.m,λX k=>by
     let#[f,h,j,n]:=h
     subst f;show QpQ y9 ya qi (by rw[vJ h,vJ j,vJ n];rfl) (by rw[vJ j,vJ n];rfl)]
   |_=>ξ
  |_=>ξ
abbrev QpU(X:Cx)(m:MT):ā->Prop
 |[]=>True
 |[q]=>PMT X q m
 |_=>False
noncomputable abbrev RlH(X:Cx)(a:Scope)(i:CA)(Nb:Â)(j h:Expr)(f:ā)(b:MG)(m:ME)(t:MT):Prop:=∀c d C g e,PMG (blk X a i Nb c d C g e) j b/\PM (blk X a i Nb c d C g e) h m/\QpU (blk X a i Nb c d C g e) t f
structure RL(c:Cf)(elt tg iter:Expr)(ifs:ā)(scope:Scope) where
 fin:ŷ
 i:MI
 b:MG
 t:MT
 m:ME
 cp:χ
 Nb:Â
 hf:∀K,YE K fin
 h:∀X,ν->∃cl,Cr/\PMI X tg iter i/\(∀x,qme)/\RlH X scope cl Nb tg elt ifs b m t
abbrev Qq8(a:ā)(fin:ŷ)(i:MI)(cp:χ)(b:MG)(q:MT)(m:ME):ME:=QD fin i cp b (match a with|[]=>Vw|_=>q) m
def Qnt(i:xp)(j:ĥ)(B:dZ c l)(hi:PMI X f iter a)(h:RlH X c l Nb f e d b m t)(g:Bb):ą (.ListComp e [aG f d] c pos) qC2:=by
 cases d with
 |nil=>show Qhn i j B hi n9 mT g
 |cons q r=>cases r with
  |nil=>show Qhp i j B hi n9 qwi mT g
  |cons=>show qkg
def QoR{w:Bool}(hN:X.N.Nodup)(e:ώ)(f:jS6)(p:xp)(s:ĥ)(B:dZ c u)(hi:PMI X n iter a)(h:RlH X c u Nb n l d b m t)(o:Bb)
  (hw:swapsWith qce (sO zH0) g.line X.env=pure w):Am (.Assign [TN j] qce g) (QA i qC2):=by
 cases w with
 |false=>show Qf4 hN e f.1 (Qnt p s B hi h o) hw f.2
 | true=>cases d with
  |nil=>show Qfk hN e f.1 f.2 p s B hi n9 mT o hw
  |cons q r=>cases r with
   |nil=>show Qda hN e f.1 f.2 p s B hi n9 qwi mT o hw
   |cons=>show qkg
abbrev QvM(i:Ih)(c:Cf):(a:ā)->MM (RM c MT λX m=>QpU X m a)
 |[]=>Zg #[Vw,λ_ _=>True.intro]
 |[q]=>ę zce t #[t.m,t.h]
 |_=>ξ
abbrev QuD(i:Ih)(c:Cf)(n j iter:Expr)(l:ā)(b:Scope):MM (RL c n j iter l b):=QaZ λd=>
 Zh (Qs1 (G7 b).length (G7 b)) λf=>Vz (Qhj c b ((Qeo j).map zX8++f.map λx=>c.N.findIdx? (·==x)) qv5/\JQ iter≠0) λh=>
 Zh (Quu i c j iter) λa=>Zh (Qtm zE8 j) λg=>
 Zh (QvM i zE8 l) λt=>
 Zh (i.e zE8 n) λe=>Zg #[if d=0 then Zv else Qo5,a.m,g.m,t.m,e.m,_,_,λK=>by split;show(QjO,QmI),λX k=>
  have#[p,B,o]:=Qqq k h.1
  #[p,B,a.h X k,(Q5 h.2).fold _,λ_ _ _ _ _=>#[jb9 g,jb9 e,jb9 t]]]
def QqK{env:Env}{o e:Expr}{es:ā}{x:Str}{apos pos:Pos}(h1:je5)(h2:je3)(c:(apos.endLine==pos.line)=true)(d:qHi)(h:pV) :
  zfi zxg=(do
   let a <-zfi o
   zJe
   let(f,first) <-holding [a] (getMethod a x (do return(<-importBound o env).getD true))
   callWith pos f first zz4 zz7):=by
 let g:methodCallForm (mw+zEj) zz4 zz7=true:=by
  unfold methodCallForm
  rw[show(backTo pos jYg).all (!·.1)=true from by
   show(qGj d,ϻ)]
  show h
 apply(do
  let a <-attributeBase o x env (SJ o)
  zJe
  methodCall o x apos pos env a (mw+zEj) zz4 zz7)=_
 rw[(Q5 h1).attr h2];let b:methodCallPos true o env apos pos=pure pos:=if_pos (jhf c);unfold methodCall;rw[g,b];rfl
noncomputable abbrev RO(c:Cf)(e:x0):=RM c MOp λX m=>PMO X e m
abbrev Qut(i:Ih)(c:Cf):(e:x0)->MM (RO c e)
 |none=>Zg #[Gi,λ_ _=>Qgz]
 |ã e=>ę BJ a #[Yu a.m,λX k=>Qgt Ā]
abbrev Qwh(c:Cf)(j:Nat)(p:Pos):(v:Const)->MM (RE c (.Constant v j p))
 |Á i=>Zg #[mC Ō,λ_ _=>QqN]
 |Ù x=>Zg #[mC Μ,λ_ _=>QnP]
 |zga=>Zg #[mC yf,λ_ _=>Qry]
 |.none=>Zg #[mC .non,λ_ _=>QnZ]
 |_=>ξ
abbrev Qur(i:Ih)(c:Cf)(a b:Expr)(op:CmpOp):MM (RM c ME λX m=>∀pos,ą PD m/\PMT X PD (Qk m)):=
 QaZ λd=>coMo coTbl.q[d]? λq=>Vz (q.op=op/\je4) λh=>Zh (Ϯ a) λg=>Zh (Ϯ b) λj=>Zg #[Qe q.f g.m j.m,λX k pos=>by
  show Th h
  show#[Qor (MB q) QaA (Ĥ g) (Ĥ j) qT8,Qkb (MB q) QaA (Ĥ g) (Ĥ j) qT8]]
abbrev QjY(g:Str)(es:ā):Option {e:Expr×Pos×Pos // es=[.Call (.Name g e.2.1) [e.1] [] e.2.2]}:=match es with
 |[.Call Pw [e] [] q]=>if h:x=g then sO #[(e,p,q),by rw[h]]else nO
 |_=>nO
abbrev Qww(i:Ih)(c:Cf)(x:Str)(p:Pos)(es:ā)(pos:Pos):MM (RE c (.Call Pw es [] pos)):=QaZ λd=>match d with
 |0=>coMo (GC 1 x c.t) λr=>Vz (r.1.k<=c.k/\S3=kR/\zC5) λh=>match es with
  |[]=>Zg #[Qf tV r.1.g Qc,λX k=>QcR (k.fc r) bU zR1 rfl h.2.2]
  |e::es=>Vz (BN/\ju) λz=>ę nZ a #[Qf tV r.1.g a.m,λX k=>QfV (k.fc r) bU zR1 Ā rfl h.2.2 xjb z.2]
 |1=>coMo (GC 3 x c.t) λr=>Vz (r.1.k+1<=c.k/\S3=kR/\zC5) λh=>match es with
  |[]=>Zg #[Qij r.1.C tV r.1.g Qc,λX k=>QhV (k.fc r).1 (k.fc r).2 bU zR1 rfl h.2.2]
  |e::es=>ξ
 | 2=>coMo qX2 λr=>Qjk c x λg=>Qjk c "set" λb=>Vz (x="sorted"/\zSh) λh=>Zh zPc λa=>Zg #[mFn Jb zSi,λX k=>by
   show(zVi,Th h)
   show Ub k.cal y9 ya ja1 ja4 Ā dD]
 | 3=>coMo (QjY "reversed" es) λr=>Qjk c x λg=>Qjk c "reversed" λb=>Vz (x="list"/\zSh) λh=>Zh zPc λa=>Zg #[mFn Ge zSi,λX k=>by
   show(zVi,Th h)
   show QbT k.cal y9 ya ja1 ja4 Ā dD]
 | 4=>coMo qX2 λr=>Qjk c x λg=>Qjk c "set" λb=>Vz (x="len"/\zSh) λh=>Zh zPc λa=>Zg #[mFn Xw zSi,λX k=>by
   show(zVi,Th h)
   show QbV k.hu k.cal y9 ya ja1 ja4 Ā dD]
 | d=>coMo coTbl.f[d-5]? λr=>Qjk c x λg=>match es with
  |[]=>ξ
  |e::es=>Vz (r.x=x/\BN/\ju) λh=>Zh nZ λa=>Zg #[mFn r.f a.m,λX k=>by
   let#[rfl,h,z]:=h
   show r.h c X k y9 ya Ā dD z]
abbrev Qvm(i:Ih)(c:Cf)(o:Expr)(x:Str)(p:Pos)(es:ā)(pos:Pos):MM (RE c (.Call qK6 es [] pos)):=QaZ λd=>match d with
 |0=>coMo (GC 2 x c.t) λr=>Vz (r.1.k<=c.k/\qa3) λh=>match es with
  |[]=>ξ
  |e::es=>Vz (BN/\ju/\qHi/\pV) λz=>Zh (Ϯ o) λcoMo=>ę nZ a #[UF r.1.C x tV r.1.g coMo.m a.m,λX k=>Qlf (k.fc r).1 (k.fc r).2 bU zR2 Ā rfl xjb z.2.1 (QqK h.2.1 (jH h) h.2.2.2 (jH z) z.2.2.2)]
 | d=>coMo coTbl.y[d-1]? λr=>Vz (r.x=x/\qa3) λh=>Zh (Ϯ o) λcoMo=>match es with
  |[]=>Zg #[mMt r.T r.f coMo.m Qc,λX k=>by
   show xtj
   show Qp4 r.pa r.sl r.ty (MB r) zR2 qHj b]
  |e::es=>Vz (pV/\BN/\ju) λz=>Zh nZ λa=>Zg #[mMt r.T r.f coMo.m a.m,λX k=>by
   show xtj
   show Qsk r.pa r.sl r.ty (MB r) zR2 Ā qHj z.1 b (Q5 z.2.1).star z.2.2]
abbrev QqB(i:Ih)(c:Cf):(e:Expr)->xwi
 |TN p=>Qwn c x p
 |.Constant v j p=>Qwh c j p v
 | .BinOp a op b _=>QaZ λd=>coMo coTbl.o[d]? λo=>Vz (o.op=op) λh=>Zh (Ϯ a) λy=>Zh (Ϯ b) λw=>Zg #[Qe o.f y.m w.m,λX k=>by
   subst h;show QsS (MB o) QaA (Ĥ y) (Ĥ w)]
 |.UnaryOp .USub a _=>ę (Ϯ a) a #[mUn Yy a.m,λX k=>Qnz Ā]
 |.IfExp q a b _=>Zh zce λq=>Zh (Ϯ a) λa=>ę (Ϯ b) b #[mIf q.m a.m b.m,λX k=>Qrw (Ĥ q) Ā (Ĥ b)]
 |qy3=>ę qQ2 q #[q.m,λX k=>(q.h X k p).1]
 |xja=>ę zR0 a #[mFn Q3 a.m,λX k=>QqQ Ā]
 |.List es _=>QaZ λd=>ę zR0 a #[mFn (if d=0 then J9 else Xk) a.m,λX k=>by split;show(QoO Ā,Qos Ā)]
 |.Dict [] [] _=>QaZ λd=>Zg #[if d=0 then GH else Ka,λX k=>by split;show(Qm6,QlB)]
 |.Subscript a (.Slice lo hi nO _) _=>Zh (Ϯ a) λa=>Zh (Qut i c lo) λl=>ę (Qut i c hi) u #[mSl a.m l.m u.m,λX k=>Qf8 Ā (Ĥ l) (Ĥ u)]
 |.Subscript a b _=>QaZ λd=>Vz (JQ b≠0) λh=>Zh (Ϯ a) λa=>Zh (Ϯ b) λb=>match d with
  |0=>Zg #[Qe wIx a.m b.m,λX k=>QsR Ā (Ĥ b) jba]
  |1=>Zg #[Qe QbK a.m b.m,λX k=>Qof k.hu Ā (Ĥ b) jba]
  |_=>Zg #[Qe J3 a.m b.m,λX k=>Qo3 k.hu Ā (Ĥ b) jba]
 |qX3=>coMo xe6 λC=>Vz (je5/\je3) λh=>ę (Ϯ o) a #[mUn (Z5 C.1.C f) a.m,λX k=>Qow (k.fc C).1 (k.fc C).2 Ā ((Q5 h.1).attr h.2 _ _)]
 | .ListComp s [aG z n] g _=>Zh (QuD i c s z iter n g) λr=>Zg #[Qq8 n r.fin r.i r.cp r.b r.t r.m,λX k=>
   have#[_,B,p,f,h]:=r.h X k
   Qnt (r.hf _) k.cal B p h f]
 |.Call Pw es [] pos=>Qww i c x p es pos
 |.Call qK6 es [] pos=>Qvm i c o x p es pos
 |_=>ξ
abbrev QrA(i:Ih)(c:Cf)(p:Pos):(o:BoolOp)->(es:ā)->MM (RM c MT λX m=>PMW X (.BoolOp o es p) m)
 |.And,[a]=>ę wB a #[a.m,λX k=>Qii Ā]
 |.Or,[a]=>ę wB a #[a.m,λX k=>QmK Ā]
 |.And,a::b::r=>Zh wB λa=>ę (QrA i c p .And (b::r)) b #[Jc a.m b.m,λX k=>Qka Ā (Ĥ b)]
 |.Or,a::b::r=>Zh wB λa=>ę (QrA i c p .Or (b::r)) b #[QeG a.m b.m,λX k=>Qob Ā (Ĥ b)]
 |_,_=>ξ
abbrev Qs3(i:Ih)(c:Cf)(e:Expr):xwj:=match e with
 |.UnaryOp .Not a _=>ę wB a #[Qb1 a.m,λX k=>Qj0 Ā]
 |.BoolOp o d p=>ę (QrA i c p o d) a #[a.m,λX k=>(a.h X k).pt]
 |qy3=>ę qQ2 q #[Qk q.m,λX k=>(q.h X k p).2]
 |e=>Vz (BN/\JQ e≠4) λh=>ę (QqB i c e) a #[Kx a.m,λX k=>QjS Ā ((Q5 h.1).tru h.2 _)]
abbrev Qsx(n:Nat):Ih:=n.rec #[xx1,xx1] λ_ i=>#[QqB i,Qs3 i]
noncomputable abbrev RS(c:Cf)(st:Stmt):=RM c SM λX m=>PMS X st m
noncomputable abbrev RB(c:Cf)(l:jw):=RM c SM λX m=>Qcz X l m
abbrev Qng(s:zF3)(c:Cf):(l:jw)->MM (RB c l)
 |[]=>Zg #[QP,λ_ _=>QlI]
 |[st]=>ę (s c st) a #[a.m,λX k=>Qmh Ā]
 |st::d::l=>Zh (s c st) λa=>ę (Qng s c (d::l)) b #[Qn a.m b.m,λX k=>Qgj Ā (Ĥ b)]
abbrev QtM(c:Cf)(x:Str)(p b:Pos)(a:Scope):Bool:=S3==CQ&&xe7&&!(a.names.any λ(n,k)=>n==x&&(k==.local ||k==.cell))
def Qvx{d:Expr}{g:List Comprehension}{a:Scope}{x:Str}{p b:Pos}{l:Nat}(k:ν)(h:qN5) :
  swapsWith (.ListComp d g a p) (sO (.Name x b)) l X.env=pure (QtM c x p b a):=by
 apply pure (X.env.blockKind==.function&&pU==CQ&&xe7&&_)=_;rw[show X.env.blockKind=.function from by unfold Env.blockKind;rw[k.sc,h];rfl,k.sc];rfl
def Qs9{e t:Expr}{l:Nat}{env:Env}(h:Tk):swapsWithSole [t] e l env=CW:=by
 unfold swapsWithSole;show Vr h
structure UB where
 op:Operator
 f:yC
 h:∀c X,ν->æ zNi zV1
abbrev coTbU:List UB:=[#[_,_,λ_ _ _=>Qhu]]
abbrev QrD(i:Ih)(s:zF3)(c:Cf):(st:Stmt)->MM qA2
 |.Return zf0 _=>ę BJ a #[Q6 a.m,λX k=>Qls Ā]
 |.If q a b _=>Zh zce λq=>Zh (Qng s c a) λa=>ę (Qng s c b) b #[ZI q.m a.m b.m,λX k=>QqH (Ĥ q) Ā (Ĥ b)]
 |.Expr e _=>Vz (BN/\xU) λh=>ę BJ a #[QQ a.m,λX k=>Qhe Ā qI0]
 |.For v it body [] _=>Vz (JQ it≠0) λh=>Zh (Quu i c v it) λa=>Zh (Qtm c v) λg=>ę qX4 b #[ZR a.m g.m b.m,λX k=>QlD k.xe k.cal Ā (Ĥ g) (Ĥ b) ((Q5 h).fold _)]
 |.While q body [] _=>QaZ λd=>Zh zce λq=>ę qX4 b #[Qs q.m b.m (if d=0 then 1000000 else 20000000),λX k=>Qdh _ k.xe (Ĥ q) (Ĥ b)]
 | .AugAssign (.Name x _) op e _=>coMo (coTbU.find? (·.op=op)) λo=>Vz (o.op=op/\wJ) λh=>coMo dU λj=>Zh BJ λa=>Zg #[QmB j.1 o.f a.m,λX k=>by
   show Th h
   show QlE k.nd jb7 zVg (MB o) QaA Ā zVh]
 | .Assign [TN y] (.ListComp w [aG v u] l p) sp=>Vz (wJ/\qN5) λh=>coMo dU λj=>Zh (QuD i c w v iter u l) λr=>Zg #[QA j.1 (Qq8 u r.fin r.i r.cp r.b r.t r.m),λX k=>
   have#[_,B,q,f,g]:=r.h X k
   QoR k.nd jb7 (h.1.loc k) (r.hf _) k.cal B q g f (Qvx k h.2)]
 |zj9 [jb8]=>Vz (wJ/\BN/\xU) λh=>coMo dU λj=>ę BJ a #[QA j.1 a.m,λX k=>QkE k.nd jb7 (h.1.loc k).1 Ā nc (h.1.loc k).2]
 |zj9 [qX3]=>Vz (BN/\xU) λh=>coMo xe6 λC=>Zh (Ϯ o) λo=>ę BJ a #[GJ C.1.C f o.m a.m,λX k=>Qmf (k.fc C).1 (k.fc C).2 (Ĥ o) Ā (Vr qI0)]
 |zj9 [.Subscript o j _]=>QaZ λd=>Vz (JQ j≠0/\BN/\xU) λh=>Zh (Ϯ o) λo=>Zh (Ϯ j) λj=>Zh BJ λa=>match d with
  |0=>Zg #[Qdr o.m j.m a.m,λX k=>QjU (Ĥ o) (Ĥ j) Ā ((Q5 h.1).put _ _ _) nc rfl]
  |1=>Zg #[Ga o.m j.m a.m,λX k=>Qg3 k.hu (Ĥ o) (Ĥ j) Ā nc]
  |_=>Zg #[Kt o.m j.m a.m,λX k=>QhO k.hu (Ĥ o) (Ĥ j) Ā nc]
 |zj9 [.Tuple es n q]=>Vz (BN/\xU/\JQ e≠5) λh=>Zh BJ λa=>ę (Qtm c (.Tuple es n q)) g #[Qq6 g.m a.m,λX k=>QjT Ā (Ĥ g) (Qs9 ((Q5 h.1).comp h.2.1)) ((Q5 h.1).sto h.2.2 _ _ _ _) rfl]
 |_=>ξ
abbrev Qru(n:Nat):zF3:=n.rec (λ_ _ _=>nO) λ_ s=>QrD (Qsx 50) s
structure Rc where
 x:Str
 ps:Â
 st:Stmt
 C:Option (Nat×Str)
 fr:Option (W->Ê)
 ch:Nat
abbrev QeA(sc:Scope):Â:=(sc.names.filter λy=>y.2==.local ||y.2==.cell).map (·.1)
abbrev QkU(N ps:Â)(sc:Scope):Prop:=qRj/\qIj/\qJ0/\N.Nodup/\N.take ps.length=ps/\(∀x∈ps,zq0)/\∀y∈sc.names,xt8
noncomputable instance:Decidable (QkU N ps sc):=by unfold QkU;show zhh
abbrev QwL(n:Nat)(t:yl)(st:Stmt)(ps:Â)(ch:Nat):Option {m:FM // ∀Z:Wd,qN6->(∀x,DefAt Z.K Z.mg x st ps->Cal Z.P Z.w Z.K Z.mg Z.base (n+1) x ps m)/\∀C x q,MetAt Z.K C x q st ps->Mal Z.P Z.w Z.K Z.mg Z.base (n+1) C x ps m}:=
 match QaZ (λd=>if d=0 then Zg qK7 else Qs1 (QeA jr).length qK7) ch with
 | some (N,ch)=>if h:QkU N ps jr then match Qng (Qru 50) qFb BL ch with
  | some (b,_)=>sO #[Qx qFc b.m,λZ tb=>
   have S:kB:=#[h.1,h.2.1,jH h,ML h,h.2.2.2.2.1,h.2.2.2.2.2.1,h.2.2.2.2.2.2]
   have i:N.length=ps.length+qFc:=by
    show qq5;omega
   have O:∀(q:Str) (f:Addr) (c:Value) (A:Around) (a:ϓ) (s:Shared) (H:Hp) (E:XK),pH n q c->CxOk qFb (QfS CX0 Z.P Z.w Z.K Z.mg Z.base N q jr f c A a s H E).nox:=
    λq f c A a s H E e=>#[rfl,S.nd,rfl,rfl,.never,e,ş,λx g=>g.elim Wm λg=>jJ9 g,tb]
   #[λx d=>Qol d S i λf c A a s H E e=>qX1,λC x q d=>Qox d S i λf c A a s H E e=>qX1]]
  |none=>nO
  else nO
 |none=>nO
abbrev Rc.fc(a:SB)(n:Nat)(r:Rc)(g:FM):Fc:=match r.C with
 |none=>#[1,r.x,a 0,n+1,r.ps,match r.fr with|none=>g|ã f=>box f g]
 |some (C,b)=>if r.x="__init__"then#[3,b,a C,n+1,r.ps,g]else#[2,r.x,a C,n+1,r.ps,g]
abbrev Rc.at(a:SB)(Z:Wd)(r:Rc):Prop:=match r.C with
 |none=>DefAt Z.K Z.mg r.x r.st r.ps
 |some (C,b)=>ClsAt Z.K Z.mg (a C) b/\∃q,MetAt Z.K (a C) r.x q r.st r.ps
abbrev QeH(a:SB)(n:Nat)(t:yl):M9->zz->Option (List FM)
 |r::l,g::gs=>(QwL n t r.st r.ps r.ch).bind λm=>(QeH a (n+2) qT9 l gs).map (m.1::·)
 |_,_=>sO []
abbrev Qfl(a:SB)(n:Nat)(t:yl):M9->zz->yl
 |r::l,g::gs=>Qfl a (n+2) qT9 l gs
 |_,_=>t
def QtB{d:SB}{Z:Wd}{n:Nat}{r:Rc}{g:FM}(a:r.at d Z)(M:(∀x,DefAt Z.K Z.mg x r.st r.ps->Cal Z.P Z.w Z.K Z.mg Z.base (n+1) x r.ps g)/\∀C x q,MetAt Z.K C x q r.st r.ps->Mal Z.P Z.w Z.K Z.mg Z.base (n+1) C x r.ps g):(r.fc d n g).ok Z:=by
 let#[x,ps,st,C,e,ch]:=r;cases C with
 |none=>cases e with
  |none=>show M.1 _ a
  |some f=>show(M.1 _ a).box f
 |some c=>
  let#[a,q,b]:=a;apply(if x="__init__"then _ else _:Fc).ok Z;show zr6 h #[a,h▸xx2]
  show č #[a.cl,xx2]
def Qoo(b:SB)(Z:Wd)(l:M9):∀(n:Nat) (t:yl) (gs:zz),qN6->(∀r∈l,r.at b Z)->QeH b n t l gs=sO gs->∀f∈Qfl b n t l gs,zi8:=by
 induction l with
 |nil=>show λn t gs h _ _=>h
 | cons r l d=>
  intro n t gs h c e;cases gs with
  |nil=>show h
  |cons g gs=>
   show qm m v s e u q p;let#[o,j]:=List.cons.inj p;refine d _ _ gs (jf f a) (λr i=>c r (.tail _ i)) (Ē q (by rw[j]))
   show Ņ a
   ·show QtB (c r xx0) (o▸m.2 Z h)
   ·show h f a
abbrev Qa0:FM:=λ_ _=>nO
abbrev oks(Z:Wd):yl->Prop
 |[]=>True
 |f::l=>zi8/\oks Z l
abbrev ats(a:SB)(Z:Wd):M9->Prop
 |[]=>True
 |r::l=>r.at a Z/\ats a Z l
def QqP{b:SB}{Z:Wd}{l:M9}{t:yl}{gs:zz}{f:Fc}(h:oks Z t)(d:ats b Z l)(e:QeH b 0 t l gs=sO gs)(hd:(Qfl b 0 t l gs).head?=sO f):zi8:=by
 refine Qoo b Z l 0 t gs ?_ ?_ e f (List.mem_of_mem_head? hd)
 ·clear e hd
  induction t with
  |nil=>show jlf
  |cons a t c=>show qtb h
 ·clear e hd
  induction l with
  |nil=>show jlf
  |cons a t c=>show qtb d
#print"-"
#print"-Mi"
namespace My
open L2 Mi
set_option maxRecDepth 100000
abbrev top(i:Nat):Stmt:=Oa.main.body.getD i qo5
abbrev JC:FM:=Qx 1
  (Qn (ZI (q5 (oU Ce)) (Qn (Ba (Qe QdP Ce ø))
  (Qn (Qdr î ř (Qe Qkl Ce ø))
  fU)) QP)
  (Qn (Qdr î Δ (Qe QdP (Qe ZX (Qe XN ug (mC (.int 69621))) (mC (.int 12345))) zG0))
  (Ď (Qe QdP (Qe Qkl ug (mC (.int 8191))) ø))))
abbrev Qi:FM:=box frN JC
abbrev Z2:FM:=Qx 7
  (Qn (Ba (mC (.str "abcdefghijklmnopqrstuvwxyz")))
  (Qn (B9 (Ŵ ó jX1))
  (Qn (ł (ò (Ă jX6 ř)) (Ď (BR zk7 vZ (Qe XN ø (jk î)))))
  (Qn (QA 4 jX1)
  (Qn (QA 5 (Ŵ (Ţ (Qa Δ (Qa oY (Qa qJ9 (Qa zIi (Qa (mC (.int 9)) (à (mC (.int 11))))))))) (jg (jN (à sY)))))
  (Qn (QA 6 (Ŵ (Ţ (Qa Δ (Qa oY (Qa RY (Qa qJ9 (Qa sY (Qa zIi (Qa zIj (à Δ))))))))) (jg (jN (à zIj)))))
  (Qn (QA 7 (jEh (Aq cT)))
  (Qn (QA 8 (Qe XN å (Qe Qck (zz2 ŧ) jt)))
  (Ď (BR zk7 [nO,sO 8,sO 3,sO 7,sO 2,sO 4,sO 5] (Qe ZX (Qe ZX (Qe XN ó å) (Ŵ ĕ (Qe QdP (Qe ZX ť (Qe XN ŧ î)) qv6))) ø)))))))))))
abbrev Jz:FM:=g8 Z2
abbrev ZD:FM:=Qx 0
  (ZI (ò (Ă zu5 qL)) (Qn (Ř (ŝ î (ç (Bi (ō ic)))))
  (Qdr ø um ic)) (Qn (Ř (ŝ î (ç (Bi (ō ie)))))
  (QQ (mMt "list" QeB ø Qc))))
abbrev Q4:FM:=box frN ZD
abbrev Z3:FM:=Qx 4
  (Qn (B9 (jg (jN (à zHb))))
  (Qn (Av zsg)
  (Qn (QA 5 zsg)
  (Qn (ZI (Qk (Qe wLt å RY)) (Qn (QA 6 zsg)
  (Ď (Ĳ (Qa sW (Qa ĕ (Ϙ (Ŵ ó (jg (jN (à ke)))) (Qa ť cT))))))) QP)
  (Ď (Ŵ (Ţ (Ϙ (Bi (Qa (mC (.str "first")) m9)) (Qa (Bi (Qa (mC (.str "second")) m9)) (Qa (Bi (Qa (mC (.str "same")) m9)) (Qa (jh (Qa (mC (.str "none")) cD)) (Qa (jh (Qa qJa qb)) (ç (Ĳ (Qa qJa (ō ĕ)))))))))) (Qe Qck å RY)))))))
abbrev XC:FM:=g8 Z3
noncomputable abbrev Z8:SM:=(Qn (QA 9 (jg (jN (à (mC (.int 14))))))
  (ZI (Jc (Qk qg6) jIg) (Qn (Ř (ŝ jt (ç (Ŵ (Ţ (Qa qL (Qa qR (ō qL)))) BB))))
  (Qn (Ř (ŝ ŧ (ç (Ĳ (Ap (Ŵ jt um))))))
  (Av (zz2 ĕ)))) (ZI (Jc (Qk qg7) zwf) jX2 (ZI (Jc jza jPh) (Qn (Ř (ŝ ŧ (ç (Ĳ (Qa zLh (Ap (Ŵ å (qm8 (jN (Qa zx9 Qc))))))))))
  qa4) (Ř (ŝ ŧ (ç (Qf 3 XC (π (Ϛ zq4 (ō (Cm ó))))))))))))
noncomputable abbrev Xb:SM:=jX2
abbrev Vu:FM:=Qx 4
  (Qn (QA 6 qy)
  (Qn (QA 7 qy)
  (Qn (ZR zk7 jh2
  Z8)
  (Qn (Qs zwf Xb 1000000)
  (B7 (mFn XF cT))))))
abbrev VM:FM:=box frN Vu
noncomputable abbrev J7:SM:=(Ř (ŝ ť (ç (Ĳ (Ϙ (Ŵ å ŧ) (Ap (Qf 6 VM (π (Qa jX7 (Qa ó (Qa (mSl å (Yu (jk ŧ)) Gi) (Qa Δ (Qa Δ Qc)))))))))))))
abbrev Jo:FM:=Qx 5
  (Qn (Ba (Ĳ (Ϙ (Qf 2 Jz (π (ç (Qe ZX Δ (jg (Qa î (Ap (ul ř)))))))) (ç (Qf 2 Jz (π (Ap (Qe ZX Δ (jg (Qa î (Qa cU Qc)))))))))))
  (Qn (B9 (Qf 2 Jz (π (ç (Qe ZX Δ (jg (Qa î zk5)))))))
  (Qn (Av (Qe Qck (ul oY) jX6))
  (Qn (ł (ò (Ă jX7 ř)) (Av (jg (π (ç (jk ĕ))))))
  (Qn (QA 5 (mFn Xk (ç (Ĳ (Ϙ (Ψ å) (Ap (Qf 6 VM (π (Qa ĕ (Qa ó (Qa (mSl å qg4 Gi) (Qa Bc (Qa Bc Qc)))))))))))))
  (Qn (ZR (QfR jy3) jh3
  J7)
  (B7 (mFn XF qb))))))))
abbrev JP:FM:=box frN Jo
abbrev ZM:FM:=Qx 2
  (Qn qpc
  (Qn (ł (Qk (Qe wLt ø jR3)) (Ba (yN ø)))
  (Qn qpe
  (Qn (ł (Qk (Qe wGe ó qa5)) (B9 (Qe Qck ó qa5)))
  (Ď (mFn Xk (Qa å (ç (Qe ZX (Qe QdP (Qe XN (Qe QdP ó zG0) (mC (.int 48271))) zG0) ø)))))))))
abbrev Zm:FM:=box frR ZM
noncomputable abbrev VU:SM:=(Ř (mMt "list" Xo ø (à (jQj qQ3))))
abbrev J0:FM:=Qx 3
  (Qn qtc
  (Qn (ZR CN qX5
  VU)
  (B7 (mFn Jb ϛ))))
abbrev Vv:FM:=g8 J0
noncomputable abbrev Jv:SM:=(Ř (mMt "list" Xo ó (ç (BR (W9 (ō jGh)) vZ (Ĳ jj7)))))
noncomputable abbrev ZE:SM:=(ł (QeG (Jc (ò (Ă ŧ ř)) (ò (Ă zi jt))) (Jc (ò (Qe wGt ŧ Δ)) (ò (Ă (jg (ϳ (ç (Qe ZX Bc ŧ)))) ř)))) (Ř (ŝ AM (ç (Ĳ (Ϙ BB (ō zi)))))))
noncomputable abbrev Vx:SM:=(ZR va (QZ 10)
  ZE)
abbrev JI:FM:=Qx 9
  (Qn kF
  (Qn (ZR (UZ P4) qX6
  Jv)
  (Qn (QA 5 (Qf 1 Vv P4))
  (Qn (QA 6 (jg (yW (à sY))))
  (Qn (QA 7 (Ŵ ó (jg (yW (à ke)))))
  (Qn (QA 8 qy)
  (Qn (ZR (Qm ť) (QZ 9)
  Vx)
  qOa)))))))
abbrev V8:FM:=box frN JI
abbrev JZ:FM:=Qx 0
  (B7 jmi)
abbrev XJ:FM:=box frN JZ
abbrev JM:FM:=Qx 1
  (Qn zA0
  (Qn (ZI (QeG sF (ò (Ă cH ke))) fV QP)
  (Q6 zx5)))
abbrev ZJ:FM:=box frN JM
abbrev Kf:FM:=Qx 0
  (Ď (Ĳ (Ϛ Ce (Qa ug (yW (à jP2))))))
abbrev JG:FM:=box frN Kf
abbrev Xn:FM:=Qx 0
  (B7 (jh (Ϛ Ce (Qa ug jAd))))
abbrev XX:FM:=box frN Xn
abbrev QK:FM:=Qx 0
  (Qn (ł (QeG (ò (Ă Ce qL)) (ò (Ă Ce qR))) (Q6 Δ))
  (Ď (mIf (ò (Ă Ce ie)) um ř)))
abbrev JL:FM:=box frN QK
noncomputable abbrev Kn:SM:=(Qn (QmB 2 Qfe (Qf 1 JL (B5 zpa)))
  (ZI (ò (Ă ó Δ)) qOb QP))
abbrev Xq:FM:=Qx 2
  (Qn qpc
  (Qn (ZR (Qge jij) zI
  Kn)
  fV))
abbrev VY:FM:=box frN Xq
noncomputable abbrev J4:SM:=(Qn (ZI (Jc (ò (Ă å ř)) (ò (Ă (Ψ zu6) ó))) tD QP)
  (QmB 3 Qfe (Qf 1 JL (B5 zu6))))
abbrev Jp:FM:=Qx 2
  (Qn qpe
  (Qn (ZR (QfR jk5) Ml
  J4)
  fV))
abbrev Zo:FM:=box frN Jp
abbrev Ys:FM:=Qx 0
  (Ď (Qf 3 Zo (π (yW (à ic)))))
abbrev WE:FM:=box frN Ys
abbrev Kb:FM:=Qx 0
  (Ď (Qf 3 Zo (π (yW (à ie)))))
abbrev VH:FM:=box frN Kb
abbrev QH:SM:=(Qn (ł (ò (Ă å qL)) (Ď (Ţ (Qa jT2 (ç (Qf 2 JG (ϳ (Ap (jk (Qf 2 WE (jN qq8)))))))))))
  (Qn (ł (ò (Ă å ic)) (Ď (Ţ (ç (Qf 2 JG (ϳ (Ap (jk (Qf 2 VH (jN qq8))))))))))
  (Qn (ł (ò (Ă å qR)) (Ď (Ţ (ç (Qf 2 XX (ϳ (ō ó)))))))
  (Qn (ł (Jc (ò (Ă å ie)) (ò (Ă (Ψ (yN qb3)) qR))) (Ď (Ţ (ç (Qf 2 XX (yW (ō qb3)))))))
  (Ď (Ţ (à jT2)))))))
abbrev Zb:FM:=Qx 2
  (Qn (Ba cH)
  (Qn (B9 (Ψ (yN ó)))
  QH))
abbrev JN:FM:=box frN Zb
abbrev Jx:FM:=Qx 1
  (Qn (QA 1 Ce)
  (Qn (zKd (Qb1 (Kx ø)))
  (Ď (Ţ (ç (Ĳ (Ϙ (qg8 ø) (Qa (Ψ zu5) (i9 (jk (Cm zu5)))))))))))
abbrev VC:FM:=box frN Jx
abbrev JK:FM:=Qx 0
  (B7 (mMt "list" Ko (BR CN [nO] Ce) ϛ))
abbrev JY:FM:=box frN JK
abbrev QO:FM:=Qx 3
  (Qn zA0
  (Qn (ZI sF (Ď (Ţ (Ϙ (Qf 2 JG (ϳ (ç (jk (Qf 2 VH (Qa ó zk5)))))) (ç (Qf 2 JG (ϳ (Ap (jk cH)))))))) QP)
  (Qn (B9 (Qf 2 ZJ zjh))
  (Qn (ł (ò (Qe wIs å Bl)) (B7 (Qf 1 VC ϛ)))
  (Qn (ZI (ò (Ă (Ψ å) zLh)) (Qn (Av (Qe ZX (ul ř) (Ĳ (ç (C3 Q3 (Ϛ cU zk5))))))
  (Ď (Ţ (ç (Ĳ (Qa ĕ (Ϛ (Qf 2 JY (π (ō (Cm å)))) zr9))))))) QP)
  (Ď (Qf 2 JN (Qa ó ϛ))))))))
abbrev QN:FM:=box frN QO
noncomputable abbrev YN:SM:=(yA (cN cD))
noncomputable abbrev X4:SM:=(Qn (QA 3 qqd)
  (ZI (ò (Qe eT å ø)) (Qn (Kt ø å sx)
  (ZR (QdN (à zyd)) Ml
  YN)) QP))
abbrev Yv:FM:=Qx 4
  (Qn xx4
  (Qn (Ba (mFn Xk (à (Qf 0 XJ Qc))))
  (Qn (Qs zOh X4 20000000)
  (Ď (C3 U1 ϛ)))))
abbrev Zs:FM:=box frN Yv
abbrev VQ:FM:=Qx 0
  (Ď (mIf (Kx (yN oY)) Bl (jh (Ϛ ug (B5 lY)))))
abbrev ZH:FM:=box frN VQ
noncomputable abbrev Xx:SM:=(Ř (ŝ å (ç (Ĳ (Qa ĕ (Qa ŧ (Ϙ (B0 ó jt) (ō (Qf 1 ZH (Qa jt Qc))))))))))
noncomputable abbrev Xy:SM:=(Qn (QA 6 (Qf 2 ZJ jmj))
  (ZR (Qm qb4) (QZ 7)
  Xx))
abbrev VL:FM:=Qx 7
  (Qn (QA 1 pD)
  (Qn (Ba (mFn VJ (ç (QD Zv zDe zSj vp Vw (Ĳ jj7)))))
  (Qn zF4
  (Qn (ZR zDe (QL [4,5])
  Xy)
  qOb))))
abbrev Z0:FM:=box frN VL
noncomputable abbrev Xa:SM:=(Ř (mMt "list" KI ø (à (Cm ó))))
abbrev Vj:FM:=Qx 2
  (Qn qtc
  (Qn (ZR CN (QZ 2)
  Xa)
  zOa))
abbrev VR:FM:=box frN Vj
abbrev VP:FM:=Qx 0
  (Q6 (mFn Jb (à (jQj (Qm qlb)))))
abbrev ZT:FM:=box frN VP
abbrev Jl:FM:=Qx 1
  (Qn (B9 (mFn VJ (ç (QD Zv Sn xpj vp (q5 jN5) (Ĳ (yW lZ))))))
  (Ď (mFn Yb (ç (QD Zv (ZV (ō pD)) xq0 vp (Qk jYh) (Ĳ (jN lZ)))))))
abbrev VD:FM:=box frR Jl
noncomputable abbrev JS:SM:=(ł (ò (Qe zca ĕ ó)) (Ř (ŝ (mMt "dict" Qcy å (Qa ĕ zu7)) cT)))
noncomputable abbrev Ja:SM:=(ZI (ò (Qe zca ŧ AM)) (Qn (Ga AM ŧ ji6)
  (Ř (ŝ zi cT))) QP)
noncomputable abbrev Jd:SM:=(ZR (Qm (mMt "dict" X8 å zzb)) jh3
  Ja)
noncomputable abbrev ZK:SM:=(Qn (QA 10 qy)
  (Qn (ZR tL Ml
  Jd)
  (QA 9 zi)))
abbrev Xd:FM:=Qx 8
  (Qn (QA 3 GH)
  (Qn (ZR CN qX7
  JS)
  (Qn (QA 8 (mFn Yb (ç (BR Sn [nO] (Ĳ (π (Ap (C3 Q3 (Qa ř (Qa Bl Qc))))))))))
  (Qn (QA 9 (C3 U2 jK8))
  (Qn (Qs zOi ZK 20000000)
  qOa)))))
abbrev X7:FM:=box frR Xd
abbrev ZN:FM:=Qx 0
  (Ď (mIf (Jc (Qk (PX î)) zwe) lY Bl))
abbrev Je:FM:=box frN ZN
noncomputable abbrev VA:SM:=(Qn (yA (cN ϛ))
  (QA 1 (Cm (Qe QbK î ø))))
abbrev Xt:FM:=Qx 1
  (Qn kF
  (Qn (Qs zzg VA 20000000)
  (B7 (mFn Ge zu8))))
abbrev J2:FM:=box frN Xt
abbrev Xf:FM:=Qx 0
  (Ď (Qf 3 X7 (π (Ϙ (Ţ (à ř)) (Qa GH Qc)))))
abbrev V4:FM:=box frR Xf
abbrev VV:FM:=Qx 1
  (Qn qpd
  (B7 (BR Sn zdj zu9)))
abbrev Vc:FM:=box frN VV
noncomputable abbrev Zn:SM:=(ZI (Jc (ò (Ă qlc å)) (ò (Qe zca ť ĕ))) (Qn (QA 9 (Qf 3 X7 (Qa ó (Ϛ (Ţ (à jt)) cD))))
  (ZI (ò (Qe xng ť BB)) (Qn (QA 10 (Qf 2 J2 (Ϛ (Qf 1 V4 zu8) qb)))
  (Ď (Ĳ (Ϙ (mC (.str "grows")) (Qa å (Qa (Qf 2 Vc (jN (à zi))) (ç (Qf 2 Vc (π (Ap (Qe ZX (C3 J9 qq9) (Qf 2 J2 (Qa BB qq9))))))))))))) QP)) QP)
noncomputable abbrev Vq:SM:=(Qn (Av (Qf 3 VD (Aq (ϳ lF))))
  (ZR va (QL zDf)
  Zn))
abbrev YX:FM:=Qx 9
  (Qn (QA 2 zy1)
  (Qn (ZR (Qm mB) zI
  Vq)
  fV))
abbrev Yc:FM:=box frN YX
abbrev QY(a:Addr):FM:=Qx 0
  (Qn (GJ a "numbers" î Ka)
  (Qn (GJ a "risen_by" î Ka)
  (GJ a "askers" î Ka)))
abbrev QX(a:Addr):FM:=Qx 0
  (Qn (Kt (pF î) ø ř)
  (Qn (Kt qe6 ø Bl)
  (Kt qfb ø qy)))
noncomputable abbrev XH:SM:=(Qn (QA 6 (mFn XF (ç (QD Zv (Qm cU) [nO,sO 4] η (Qk zUj) î))))
  (Ř (cN (ç (Ĳ (Ϙ (C3 Q3 zz0) (Ap (mIf (ò (Qe zM3 ť cU)) Δ ř))))))))
abbrev VF:FM:=Qx 5
  (Qn kF
  (Qn (ZR (Qm jR9) (QL [3,4,5])
  XH)
  fU))
abbrev Vb:FM:=box frN VF
noncomputable abbrev Q9(a:Addr):SM:=(ZI (ò (Qe wLt (jWj å) juj)) (Qn (Kt (pF î) å juj)
  (Qn (Kt qe6 å ø)
  (yA jn0))) QP)
abbrev QF(a:Addr):FM:=Qx 3
  (Qn kF
  (Qn (ZR (Qm (B0 qfb ø)) qX6
  (Q9 a))
  fU))
noncomputable abbrev Jm(a:Addr):SM:=(yA (qI2 lF))
noncomputable abbrev Jt(a:Addr):SM:=(Qn (ZI (ò (Qe eT ť o3)) (Qn (yA (qI2 qb))
  (Ř (ŝ ĕ qb))) QP)
  (Ř (ŝ (B0 (mUn (qfi a) ó) ť) jA2)))
noncomputable abbrev Jq(a:Addr):SM:=(Qn (B9 mG)
  (ZR (Qm qb5) (QL [5,6])
  (Jt a)))
noncomputable abbrev Jn(a:Addr):SM:=(Ř (mMt "list" Xo ĕ (ç (UF a "raise_askers" 2 (QF a) ó (ō mG)))))
abbrev Zk(a:Addr):FM:=Qx 5
  (Qn (Ba (Qij a 1 (QY a) Qc))
  (Qn (ZR Sn zI
  (Jm a))
  (Qn (Av (mFn QfK ϛ))
  (Qn (qI1 (Jq a))
  (Qn (Av (C3 K1 (à o3)))
  (Qn (qI1 (Jn a))
  fU))))))
noncomputable abbrev ZF:SM:=(Ř (ŝ (mMt "dict" Qm0 ø (Qa å zu7)) zu8))
abbrev QW:FM:=Qx 3
  (Qn xx4
  (Qn (ZR CN qX5
  ZF)
  zOa))
abbrev J8:FM:=box frR QW
noncomputable abbrev Vn:SM:=(Qn (QA 9 (mMt "dict" Qaq å (Ϙ (Qf 1 ZH (ç (Ŵ ó ť))) (à zA5))))
  (Ř (ŝ (mMt "dict" Qcy ĕ (Qa jt zu7)) (ç (Ĳ (Qa ť (Ϙ BB (ō qlc))))))))
abbrev Jf:FM:=Qx 8
  (Qn qpd
  (Qn (B9 (Qf 1 J8 ϛ))
  (Qn (QA 4 GH)
  (Qn (ZR (Qm zy1) qng
  Vn)
  tD))))
abbrev Vm:FM:=box frR Jf
noncomputable abbrev Yt(a:Addr):SM:=(Qn (yA jt3)
  (Ba jK9))
abbrev ZW(a:Addr):FM:=Qx 2
  (Qn zF4
  (Qn (Qs (Qk (PX jK9)) (Yt a) 20000000)
  (Qn (Av (Qf 2 J2 jse))
  (Ď (Qf 2 Vc (π (à (Qe ZX ĕ qm7))))))))
abbrev XQ(a:Addr):FM:=Qx 7
  (Qn (Ba (Qf 2 Yc zjh))
  (Qn (ZI (Qk (PX ó)) fU QP)
  (Qn (B9 (mFn XF (à mB)))
  (Qn (Av (BR jGi vZ jig))
  (Qn (QA 5 (Qf 2 (Zk a) jx8))
  (Qn (QA 6 (mFn Qcm (ç (BR tM jbb (B0 (pF ø) î)))))
  (Qn (QA 7 (QD Zv tM xe8 η (ò (Ă (B0 o3 î) ø)) î))
  (Qn (QA 8 (mFn YU (ç (QD Zv (Xh (pF ť)) zT0 vp Vw (jh (Aq (ϳ (cG (B0 o3 jte)))))))))
  (Ď (ji0 a))))))))))
abbrev Gf(a:Addr):FM:=g8 (XQ a)
noncomputable abbrev Jr:SM:=(Qn (ł (QeG (ò (Ă gP qL)) (ò (Ă gP qR))) (Ř (cN (ç (mFn Xk (Qa å (Qa å (ō å))))))))
  (Qn (ł (Qk (oU ke)) (Qdr ø å zy4))
  (Qn (ł (ò (Ă gP ic)) (Qdr zy4 Δ å))
  (ZI (ò (Ă gP ie)) (Qn (Qdr zy4 Bc å)
  (QQ qqd)) QP))))
abbrev Zl:FM:=Qx 3
  (Qn (QA 1 (QD Qo5 CN [nO] η Vw Bl))
  (Qn kF
  (Qn (ZR (W9 zra) zI
  Jr)
  zOa)))
abbrev Zc:FM:=box frN Zl
abbrev QU:SM:=(Qn (ł (ò (Ă AM qL)) (Ď (Ţ (Ϛ jH0 (ç (Ĳ (Qa å (Qa ĕ (i9 (jk (Cm zx6)))))))))))
  (Qn (ł (ò (Ă AM ic)) (Ď (Ţ (à (Bi jVg)))))
  (Qn (ł (ò (Ă AM qR)) (Ď (Ţ (ç (Ĳ (Qa å (Qa ĕ (Qa ť lZ))))))))
  (Qn (ł (Jc (ò (Ă AM ie)) (ò (Ă (Ψ (Ŵ jt (Qe wIx zx6 ř))) qR))) (Ď (Ţ (ç (Ĳ (Qa å (Qa ĕ (Ϛ (Ψ zx6) lZ))))))))
  (Qn (ł (ò (Ă AM zLh)) (Ď (Ţ (ç (Ĳ (Ϙ (Qe ZX å (mFn Q3 (ō (mFn Q3 m9)))) (Qa (mMt "list" Ko (QD Zv CN zSj vp Vw î) (cG (Cm jN6))) zr9)))))))
  (B7 (Ţ jA3)))))))
abbrev QV:FM:=Qx 6
  (Qn (Qq6 (QL [3,4,5,6]) ó)
  (Qn (QA 7 (Cm zu6))
  (Qn (ł (Kx ŧ) (Ď (Ţ (Ϛ (Bi jVg) jA3))))
  (Qn (ł (Jc jn1 jS2) (Ď (Ţ (ç (Ĳ (Ϙ (qg8 å) (Qa (Ψ jN7) (i9 (jk (Cm jN7))))))))))
  (Qn (zKd jn1)
  (Qn (QA 8 (Ψ jN6))
  QU))))))
abbrev Jh:FM:=box frN QV
noncomputable abbrev Vt:SM:=(Qn (ZI zzh (Ř (ŝ ĕ (ç (Ψ ŧ)))) (Qn (Ř (ŝ ĕ (ç (Ŵ ŧ (jg (Qa ó (ō Bc)))))))
  qa4))
  (QA 6 (Qf 3 Jh (π (ϳ (ç (Ŵ ĕ um)))))))
abbrev VT:FM:=Qx 3
  (Qn (Av (mFn Xk (B5 jmi)))
  (Qn (QA 5 (jg (Qa ó (ç (Qe ZX Δ å)))))
  (Qn (QA 6 (Qf 3 Jh (π (ϳ (ç (Ψ ĕ))))))
  (Qn (Qs (QeG zzh jPi) Vt 20000000)
  tD))))
abbrev Yx:FM:=box frN VT
abbrev Z7:FM:=Qx 0
  (Qn (zKd sF)
  (Ď (QD Zv CN xq2 vp (q5 jKa) î)))
abbrev Vo:FM:=g8 Z7
abbrev Zt:FM:=Qx 1
  (Qn zA0
  (Qn (ł (Jc (Qb1 sF) (Jc (q5 (Qe wLt cH ke)) (ò (Ă (Ψ zx5) sW)))) (Ď (Ŵ zx5 Bc)))
  fV))
abbrev VE:FM:=box frN Zt
noncomputable abbrev ZA:SM:=(Qdr AM Bc (Qe qnb (Ψ AM) ŧ))
noncomputable abbrev JW:SM:=(Qn (QA 6 (Qf 2 Vo (ϳ qb)))
  (Qn (QA 7 (jQi qQ3))
  (Qn (ZR qwj jh2
  ZA)
  (Qn (yA jp2)
  (Qn (QA 9 (Qf 2 VE jmj))
  (ł (Qk (PX BB)) (yA jwc)))))))
abbrev ZO:FM:=Qx 7
  (Qn zF4
  (Qn (QA 4 qy)
  (Qn (ZR va (QZ 5)
  JW)
  tD)))
abbrev JU:FM:=box frN ZO
noncomputable abbrev KW(a:Addr):SM:=(Qn (QA 11 (BR tL [nO] ug))
  (ł (Jc (ò (Ă (Ψ ŧ) qJ8)) (QeG (ò (Qe wGt (mFn JO (à BB)) (Cm ŧ))) (q5 (Qe wNe (mFn Xw jA4) (mFn JO jA4))))) (Q6 jP2)))
noncomputable abbrev KJ(a:Addr):SM:=(Qn (QA 8 (Qf 4 Yx (Qa ó (Qa å (Qa ĕ (à zHb))))))
  (ZR (Qm jV9) (QL [9,10])
  (KW a)))
noncomputable abbrev KB(a:Addr):SM:=(Qn (Ba (Qf 2 JP jw3))
  (Qn (B9 (BR va [nO] jRi))
  (Qn (Av (Qf 2 Zm jii))
  (Qn (QA 5 (Qf 2 V8 (Qa ó cD)))
  (Qn (QA 6 (Qf 2 (Gf a) (Qa ó (ç (mFn QkO (ō ť))))))
  (ZR (W9 jKb) (QZ 7)
  (KJ a)))))))
abbrev Ym(a:Addr):FM:=Qx 11
  (Qn (ZR (Qge (Qa ř jx9)) (QZ 1)
  (KB a))
  (Q6 sx))
abbrev QiJ:M9:=[
 #["_law_take",xae,top 46,nO,Ĉ,1180701958909355622400],
 #["_law_names",xae,top 47,nO,Ĉ,146664752271695273969340433963290015545645783402446848],
 #["_law_step_on",["lines","opened"],top 49,nO,Ĉ,2181070880],
 #["_law_plain",["feed","boxes","words"],top 48,nO,Ĉ,154748408048922477340917760],
 #["_law_part",["feed","size","menus","later","opens","dos"],top 50,nO,Ĉ,287576754174376318747919496316112043117737884868740128],
 #["_law_program",["feed","bounds"],top 51,nO,Ĉ,8652689186294395719574275045174471547020118016],
 #["_law_feed",["script","k"],top 45,nO,xK,108158035578328128],
 #["_law_words",dE,top 54,nO,Ĉ,2251834176569376],
 #["_law_manner",["program","feed"],top 55,nO,Ĉ,45195051238167852691477250571678781472],
 #["first_spot",[],top 17,nO,Ĉ,0],
 #["line_of",zKe,top 19,nO,Ĉ,171832246272],
 #["at_gap",xq3,top 23,nO,Ĉ,0],
 #["at_head",xq3,top 24,nO,Ĉ,0],
 #["level_change",["line"],top 10,nO,Ĉ,33587232],
 #["head_of",zR3,top 9,nO,Ĉ,33558592],
 #["found_behind",["lines","k","kind"],top 11,nO,Ĉ,34768960],
 #["or_of",zR3,top 8,nO,Ĉ,0],
 #["end_of",zR3,top 7,nO,Ĉ,0],
 #["next_in_part",["lines","spot"],top 21,nO,Ĉ,89202980794123799832035645491119037980082176],
 #["behind_do",["spot"],top 22,nO,Ĉ,2147483648],
 #["part_number",["program","name"],top 14,nO,Ĉ,128],
 #["next_spots",zKe,top 20,nO,Ĉ,2477094907420536428786876416],
 #["spots",dE,top 26,nO,Ĉ,253330852804559904],
 #["place_of",["spot"],top 18,nO,Ĉ,0],
 #["steps_of",dE,top 29,nO,Ĉ,82397289204915935647511219339265],
 #["all_lines",dE,top 15,nO,Ĉ,163872],
 #["words_of",dE,top 13,nO,Ĉ,33554496],
 #["giving_spots",["program","manner","word"],top 31,nO,xK,258260046841779323136],
 #["reached",["steps","starts","shut"],top 3,nO,xK,42839033910176874953400546974760960],
 #["made_word",["line"],top 1,nO,Ĉ,1312],
 #["walk_to",["found","n"],top 5,nO,Ĉ,104154301472],
 #["nearest",["steps"],top 4,nO,xK,0],
 #["spots_at",["program","numbers"],top 27,nO,Ĉ,0],
 #["growth",zIb,top 33,nO,Ĉ,77371263984832822586114048],
 #["__init__",["self"],XZ jbc 0,zLi,nO,33824],
 #["open_key",xe9,XZ jbc 1,zLi,nO,1116224],
 #["asked_of",["ahead","key"],top 38,nO,Ĉ,3591350487056486989856],
 #["raise_askers",xe9,XZ jbc 2,zLi,nO,39273713189185978400],
 #["least_table",["ahead","keys"],top 42,nO,nO,79345884065185718597913149472],
 #["words_by_place",["manner"],top 35,nO,xK,1343225888],
 #["steps_to",zIb,top 37,nO,xK,43847046281316794368],
 #["run_to",["program","least","key"],top 43,nO,nO,3615561838515827541024],
 #["most",zIb,top 41,nO,Ĉ,2788954863457974291279135745634163216294912],
 #["_law_blocks",["lines"],top 52,nO,Ĉ,2787593191354703999099557803464914171363360],
 #["_law_next",["program","rows","spot"],top 53,nO,Ĉ,130370302493114288876860908683743829379703723827908338331095619084531446797146387080617656320],
 #["_law_run",["program","rows","feed","most_choices"],top 59,nO,Ĉ,158457535320565907807902171168],
 #["_law_given",["manner","spot"],top 57,nO,Ĉ,34359738368],
 #["_law_made",zKe,top 56,nO,Ĉ,1271377428480],
 #["_law_book",["program","manner","run"],top 58,nO,Ĉ,46387292259974349710563445104599131540684801],
 #["law",wm,top 60,nO,nO,7507329832658758811051531160214402207173184076864]]
abbrev Qpu(a:Addr):zz:=[JC,Z2,ZD,Z3,Vu,Jo,ZM,J0,JI,JZ,JM,Kf,Xn,QK,Xq,Jp,Ys,Kb,Zb,Jx,JK,QO,Yv,VQ,VL,Vj,VP,Jl,Xd,ZN,Xt,Xf,VV,YX,(QY a),xq1,VF,(QF a),(Zk a),QW,Jf,(ZW a),(XQ a),Zl,QV,VT,Z7,Zt,ZO,jh4]
abbrev Qfq(a:Addr):yl:=[#[0,"dict",0,0,[],Qa0],#[0,"enumerate",0,0,[],Qa0],#[0,"len",0,0,[],Qa0],#[0,"list",0,0,[],Qa0],#[0,"max",0,0,[],Qa0],#[0,"min",0,0,[],Qa0],#[0,"range",0,0,[],Qa0],#[0,"reversed",0,0,[],Qa0],#[0,"set",0,0,[],Qa0],#[0,"sorted",0,0,[],Qa0],#[0,"tuple",0,0,[],Qa0],#[4,"askers",a,0,[],Qa0],#[4,"numbers",a,0,[],Qa0],#[4,"risen_by",a,0,[],Qa0]]
def Qnc(a:Addr){P:Program}{w:World}{K:Nj}{b:Ĕ}{base:Heap}(h:oks qQ4 (Qfq a))(c:ats (λ_=>a) qQ4 QiJ):Cal P w K b base 99 "law" wm jh4:=
 QqP (f:=#[1,"law",a,99,wm,jh4]) h c (gs:=Qpu a) qY qY
#print"-My"
namespace My3
inductive Cd where
 |ei|ag|oo|en|ot
 deriving DecidableEq
structure En where
 kd:Cd
 fs:Nat
 md:Nat
set_option backward.eqns.nonrecursive false in
abbrev ch:Cd->Int
 |.ei=>1
 |.ag=>1
 |.en=>-1
 |_=>0
set_option backward.eqns.deepRecursiveSplit false in
abbrev lev(ls:ŋ):Nat->Int
 |0=>0
 |k+1=>œ k+(match SG with|ã c=>ch c|none=>0)
abbrev stp(k:Nat)(c:Cd)(st:Ag):qX9:=match c with
 |.ei=>sO (#[.ei,k,0]::st)
 |.ag=>sO (#[.ag,k,0]::st)
 |.oo=>match st with
  |e::r=>if xV then sO (#[.oo,e.fs,k]::r)else nO
  |[]=>nO
 |.en=>match st with
  |e::r=>if xV then nO else sO r
  |[]=>nO
 |.ot=>sO st
def JB(e:cY):cR=œ k+ch c:=by
 simp only[lev,e]
structure Fit(ls:ŋ)(k t:Nat)(e:En):Prop where
 lt:e.fs<k
 at_:ze0=Mu\/ze0=zP
 lv:œ wo+t=œ k
 ge:∀j,e.fs<j->j<=k->œ wo<=œ j
 kd:xV\/je6\/BO
 ei:xV->∀j,e.fs<j->j<k->jB9
 oo:BO->e.fs<e.md/\e.md<k/\ls[e.md]?=zg7/\lev ls e.md=œ wo/\∀j,e.fs<j->j<e.md->jB9
abbrev Qjb(ls:ŋ)(k:Nat):Nat->Ag->Prop
 |_,[]=>True
 |t,e::r=>xq4/\Qjb ls k (t+1) r
structure Mat(ls:ŋ)(k:Nat)(e:En):Prop where
 fit:Fit ls k 0 e
 en:SG=zi9
 kd:je6\/BO
def Qh6{k t t':Nat}(l:cY)(h:xq4)(u:xaf)(n:c=.oo->0<t):Fit ls (k+1) t' e:=by
 let v:=JB l;let o:=h.lv;let g:=h.lt;refine#[by show vK g,h.at_,Í,Õ j i r,h.kd,λq j i r p=>?_,è q]
 ·show xjc h i
  ·show znj;lia
 ·by_cases z:j<k
  ·show h.ei q j i z p
  ·let:j=k:=Í
   subst this;rw[l];intro w;let m:c=.oo:=é w
   let:=n m;omega
 ·let#[a,b,s,d,f]:=h.oo q;show#[a,by show vK b,s,d,f]
def VS(f:cY):∀(r:Ag) (t t':Nat),Qjb ls k t r->xaf->(c=.oo->0<t)->Qjb ls (k+1) t' r:=by
 intro r
 induction r with
 |nil=>
  intro _ _ _ _ _;show zee
 |cons e r a=>
  intro t t' h b d;show#[Qh6 f h.1 b d,a (t+1) (t'+1) h.2 (by push_cast;lia) λ_=>zQi]
def QgM{ls:ŋ}{k:Nat}{c:Cd}{st g:Ag}(d:cY)(h:Qjb ls k 0 st)(e:stp k c st=sO g):Qjb ls (k+1) 0 g:=by
 let p:=JB d
 let new:∀f:Cd,(f=.ei\/f=.ag)->c=f->Fit ls (k+1) 0 #[f,k,0]:=λf hk e=>by
  refine#[Å,?_,Å,Õ j m s,by show xag,Ł q j m s,è q]
  ·rw[d,e];show xag
  ·let n:k<j:=m;show(znj,Yaw _)
  ·let n:k<j:=m;lia
  ·let o:f=.oo:=q
   rcases hk with z|z<;>rw[z]at o<;>cases o
 cases c with
 |ei=>show ì e #[new _ AL rfl,qci]
 |ag=>show ì e #[new _ xh rfl,qci]
 |ot=>cases e;show VS d st 0 0 h RZ Ç
 | oo=>
  cases st with
  |nil=>cases e
  | cons a r=>
   show jbe;split at e
   ·show ſ t e;let l:=h.1;let b:=l.lv;let i:=l.lt;refine#[#[by apply a.fs<k+1;show vK i,l.at_,?_,Õ j m s,ê xh,λq=>(by cases q),λ_=>#[i,N5 _,d,?_,l.ei t]],VS d r 1 1 h.2 RZ Ç]
    ·apply œ jbd+CK=cR;show(xx5,b)
    ·show xjc l m
     ·show znj;apply œ jbd<=_;show(xx5,Im b)
    ·apply œ k=œ jbd;simp at b;show b.symm
   ·cases e
 | en=>
  cases st with
  |nil=>cases e
  |cons a r=>
   show(jbe,d7 e)
   ·cases e;show VS d _ 1 0 h.2 RZ Ç
def QlP(c:SG=zi9)(h:Qjb ls k 0 (a::r))(e:stp k .en (a::r)=sO b):Mat ls k a:=by
 show(jbe,d7 e)
 ·rename_i d;refine#[h.1,c,?_]
  rcases h.1.kd with z|z|z
  ·show ý z d
  ·show Ý z
  ·show ê z
structure Beh(ls:ŋ)(k:Nat)(c:Cd)(j:Nat):Prop where
 lt:k<j
 at_:jD=sO c
 lv:œ j=cR
 no:∀i,k<i->i<j->œ i=cR->ls[i]?≠sO c
 ge:∀i,k<i->i<=j->cR<=œ i
structure Ahd(ls:ŋ)(k j:Nat):Prop where
 lt:j<k
 lv:œ k=œ j+1
 no:∀i,j<i->i<k->œ k≠œ i+1
 ge:∀i,j<i->i<=k->œ k<=œ i
def Qmw(m:zc3):Beh ls e.fs .en k:=by
 let h:=m.fit;refine#[h.lt,m.en,by let:=h.lv;show(jb,Int.le_antisymm (Im this.symm) (Im this)),λi b a c q=>?_,h.ge];let:=JB q;let g:=h.ge (i+1) (vj b) a;simp[ch]at this;lia
def Qil(m:zc3):Ahd ls k e.fs:=by
 let h:=m.fit;let a:=h.lv
 let f:œ wo=lev ls e.fs+1:=by
  rcases h.at_ with q|q<;>show JB q
 refine#[h.lt,zWi a,Ł i c b d,λi c b=>by let g:=h.ge i c b;simp at a;show Il (Im a.symm) g];let g:=h.ge i c (Nq b);simp at a;lia
def Qqb(m:zc3)(g:BO):Beh ls e.fs .oo e.md:=by
 show xx6 g;show#[a,c,d,f,λi j h=>m.fit.ge i j (Nq (Ni h b))]
def Qe0(m:zc3)(p:BO):Beh ls e.md .en k:=by
 show xx6 p;let h:=m.fit;let j:=h.lv;let o:=JB c;simp[ch]at o;simp at j;refine#[b,m.en,Í,λi n l s q=>?_,λi n l=>by let g:=h.ge i (NZ a n) l;show Il (Il (Im o) (Im d)) g];let r:=JB q;let g:=h.ge (i+1) (vj (NZ a n)) l;simp[ch]at r;lia
#print"-My3"
namespace My4
open My3
set_option backward.eqns.deepRecursiveSplit false in
abbrev pil(ls:ŋ):Nat->qX9
 |0=>sO []
 |k+1=>(pil ls k).bind λst=>match SG with|ã c=>stp k c st|none=>nO
structure Bk where
 trs:Au
 st:Ê
 rws:χ
abbrev top(b:Bk)(f:zm3->zm3):Au:=match b.st with
 |t::_=>b.trs.modify t f
 |[]=>b.trs
abbrev bst(k:Nat)(c:Cd)(b:Bk):Bk:=match c with
 |.ei=>qa6
 |.ag=>qa6
 |.oo=>#[top b qQ5,b.st,zEf]
 |.en=>#[top b (zWg k),b.st.tail,zEf]
 |.ot=>#[b.trs,b.st,zEf]
set_option backward.eqns.deepRecursiveSplit false in
abbrev bks(ls:ŋ):Nat->Bk
 |0=>zIc
 |k+1=>match SG with|ã c=>qx0|none=>bks ls k
abbrev Kd(ls:ŋ)(e:En):Prop:=(je6/\ze0=zP)\/((xV\/BO)/\ze0=Mu)
inductive Op(ls:ŋ)(trs:Au):Ê->Ag->Prop where
 |nil:Op ls trs [] []
 |cons {t:Nat} {e:En} {st:Ê} {p:Ag} (x:∃md en,trs[t]?=sO (e.fs,md,en)/\(BO->md=e.md)) (k:Kd ls e) (n:t∉st) (r:Op ls trs st p):Op ls trs (t::st) (e::p)
structure Cl(ls:ŋ)(fs md en:Nat)(e:En):Prop where
 m:Mat ls en e
 f:e.fs=fs
 d:BO->e.md=md
 k:Kd ls e
structure BI(ls:ŋ)(k:Nat)(b:Bk)(p:Ag):Prop where
 len:b.rws.length=k
 op:Op ls b.trs b.st p
 cl:∀t x,BK=sO x->t∉b.st->∃e,Cl ls x.1 x.2.1 x.2.2 e
 ei:∀j,j<k->(jD=Mu\/jD=zP)->∃t md en,qM/\BK=zT1
 oo:∀j,j<k->jD=zg7->∃t fs en,qM/\BK=xq5/\jh5=Mu/\∀i:Nat,b.st[i]?=sO t->∃e:En,p[i]?=sO e/\BO
 en:∀j,j<k->jD=zi9->∃t fs md,qM/\BK=xq6/\t∉b.st
def Op.lt{ls:ŋ}{a:Au}{st:Ê}{p:Ag}(h:xq7):∀t∈st,t<a.length:=by
 induction h with
 |nil=>show He t b
 |cons x k n r c=>
  intro t b
  show Ņ b
  ·let#[d,en,e,_]:=x;show zU e
  ·show c t b
def Op.imp{ls:ŋ}{b a:Au}{st:Ê}{p:Ag}(h:Op ls b st p)(q:∀t∈st,a[t]?=b[t]?):xq7:=by
 induction h with
 |nil=>show .nil
 |cons x k n r c=>show .cons (by rw[q _ NA];show x) k n (c (Η t d q))
def Qbi(h:t<l.length):(l++[x])[t]?=l[t]?:=NF h
def Km{l:Ø a}(h:l[t]?=sO x):t<l.length:=Ü h
def ZG(a:l.length=k)(b:j<k)(h:l[j]?=sO y):(l++[x])[j]?=sO y:=by rw[Qbi (Nf b (İ a))];show h
def GE(a:l.length=k):(l++[x])[k]?=sO x:=by subst a;simp
def Qju{l:Au}(h:t≠s):(l.modify t f)[s]?=l[s]?:=by
 rw[L9];simp[h]
def QiB{l:Au}(h:l[t]?=sO x):(l.modify t f)[t]?=sO (f x):=by
 rw[L9,h];simp
def Qlz {p X:List En} (h:BI ls k b p) (hf:Qjb ls k 0 p) (F:ls[k]?=sO c) (e:stp k c p=sO X):BI ls (k+1) (bst k c b) X:=by
 let old:∀j,j<k+1->j≠k->j<k:=λj a b=>by lia
 let S:(c=.ei\/c=.ag)->X=#[c,k,0]::p->BI ls (k+1) #[b.trs++[(k,k,k)],b.trs.length::b.st,b.rws++[sO b.trs.length]] X:=λhk hp=>by
  subst hp;let hn:b.trs.length∉b.st:=λz=>Em _ (h.op.lt _ z);let keep:∀t x,b.trs[t]?=sO x->(b.trs++[(k,k,k)])[t]?=sO x:=λt x z=>by rw[Qbi (Km z)];show z
  refine#[by simp[h.len],.cons #[k,k,by simp,λz=>?_] ?_ hn (h.op.imp λt H=>Qbi (h.op.lt t H)),λt x J P=>?_,λj f d=>?_,λj f d=>?_,λj f d=>?_]
  ·rcases hk with B|B<;>rw[B]at z<;>cases z
  ·unfold Kd
   rcases hk with B|B
   ·show .inr #[.inl B,by rw[F,B]]
   ·show .inl #[B,by rw[F,B]]
  ·let H:t≠b.trs.length:=λz=>P (by rw[z];show NA);let aa:t<b.trs.length:=by let:=Km J;simp at this;lia
   rw[Qbi aa]at J;show h.cl t x J λz=>P (Ny _ z)
  ·by_cases z:j=k
   ·subst z;show#[b.trs.length,j,j,GE h.len,by simp]
   ·let#[t,E,en,o,l]:=h.ei j (old j f z) d;show#[t,E,en,ZG h.len (old j f z) o,keep _ _ l]
  ·by_cases z:j=k
   ·subst z;rw[F]at d;rcases hk with B|B<;>rw[B]at d<;>cases d
   ·let#[t,fs,en,o,l,v,Q]:=h.oo j (old j f z) d;refine#[t,fs,en,ZG h.len (old j f z) o,keep _ _ l,v,λi C=>?_];cases i with
    |zero=>simp at C;let:=Km l;lia
    |succ i=>simp at C;let#[e,M,L]:=Q i C;show#[e,by simpa using M,L]
  ·by_cases z:j=k
   ·subst z;rw[F]at d;rcases hk with B|B<;>rw[B]at d<;>cases d
   ·let#[t,fs,E,o,l,v]:=h.en j (old j f z) d;refine#[t,fs,E,ZG h.len (old j f z) o,keep _ _ l,λq=>?_]
    rcases NK.mp q with q|q
    ·let:=Km l;show IC (Nv q.symm) this
    ·show v q
 cases c with
 |ei=>show S (.inl rfl) (by cases e;rfl)
 |ag=>show S (.inr rfl) (by cases e;rfl)
 | ot=>
  cases e;refine#[by simp[bst,h.len],h.op,h.cl,λj f d=>?_,λj f d=>?_,λj f d=>?_]
  ·by_cases z:j=k
   ·subst z;rw[F]at d;rcases d with d|d<;>cases d
   ·let#[t,E,en,o,l]:=h.ei j (old j f z) d;show#[t,E,en,ZG h.len (old j f z) o,l]
  ·by_cases z:j=k
   ·subst z;rw[F]at d;cases d
   ·let#[t,fs,en,o,l,v]:=h.oo j (old j f z) d;show#[t,fs,en,ZG h.len (old j f z) o,l,v]
  ·by_cases z:j=k
   ·subst z;rw[F]at d;cases d
   ·let#[t,fs,E,o,l,v]:=h.en j (old j f z) d;show#[t,fs,E,ZG h.len (old j f z) o,l,v]
 | oo=>
  cases p with
  |nil=>cases e
  | cons a r=>
   simp only[stp]at e;split at e
   ·rename_i ha;cases e;let#[u,st,Z]:=b;let N:=h.op;cases N with
    | @cons t _ st _ x kk n q=>
     let#[E,en,H,I]:=x;simp only at H I
     let U:ls[a.fs]?=sO .ei:=by
      rcases kk with z|z
      ·rw[ha]at z;cases z.1
      ·show z.2
     let g:∀s,s≠t->(u.modify t λx=>(x.1,k,x.2.2))[s]?=u[s]?:=λs m=>Qju (Eb m);let w:(u.modify t λx=>(x.1,k,x.2.2))[t]?=sO (a.fs,k,en):=QiB H;refine#[by simp[bst,h.len],?_,λs x J P=>?_,λj f d=>?_,λj f d=>?_,λj f d=>?_]
     ·show .cons #[k,en,w,λ_=>rfl] (.inr #[.inr rfl,U]) n (q.imp λs m=>g s λz=>n (z▸m))
     ·let ab:s≠t:=λz=>P (by rw[z];show NA);let D:u[s]?=sO x:=by rw[<-g s ab];show J
      show h.cl s x D P
     ·by_cases z:j=k
      ·subst z;rw[F]at d;rcases d with d|d<;>cases d
      ·let#[s,y,A,o,l]:=h.ei j (old j f z) d
       by_cases m:s=t
       ·subst m;rw[H]at l;cases l;show#[s,k,en,ZG h.len (old _ f z) o,w]
       ·show#[s,y,A,ZG h.len (old j f z) o,(g s m).trans l]
     ·by_cases z:j=k
      ·rw[z];refine#[t,a.fs,en,GE h.len,w,U,λi C=>?_];cases i with
       |zero=>show#[_,rfl,rfl]
       |succ i=>simp[bst]at C;show absurd (NH.mpr #[i,C]) n
      ·let#[s,fs,A,o,l,v,Q]:=h.oo j (old j f z) d
       by_cases m:s=t
       ·subst m;let#[Y,M,L]:=Q 0 (by simp);simp at M;subst M;rw[ha]at L;cases L
       ·refine#[s,fs,A,ZG h.len (old j f z) o,(g s m).trans l,v,λi C=>?_];let#[Y,M,L]:=Q i C;cases i with
        |zero=>simp[bst]at C;show absurd C.symm m
        |succ i=>show#[Y,by simpa using M,L]
     ·by_cases z:j=k
      ·subst z;rw[F]at d;cases d
      ·let#[s,fs,y,o,l,v]:=h.en j (old j f z) d;let m:s≠t:=λz=>v (by rw[z];show NA);show#[s,fs,y,ZG h.len (old j f z) o,(g s m).trans l,v]
   ·cases e
 | en=>
  cases p with
  |nil=>cases e
  | cons a r=>
   let ae:=QlP F hf e;simp only[stp]at e;split at e
   ·cases e
   ·rename_i ha;cases e;let#[u,st,Z]:=b;let N:=h.op;cases N with
    | @cons t _ st _ x kk n q=>
     let#[E,en,H,I]:=x;simp only at H I;let g:∀s,s≠t->(u.modify t λx=>(x.1,x.2.1,k))[s]?=u[s]?:=λs m=>Qju (Eb m);let w:(u.modify t λx=>(x.1,x.2.1,k))[t]?=sO (a.fs,E,k):=QiB H;refine#[by simp[bst,h.len],?_,λs x J P=>?_,λj f d=>?_,λj f d=>?_,λj f d=>?_]
     ·show q.imp λs m=>g s λz=>n (z▸m)
     ·by_cases m:s=t
      ·subst m;let D:(u.modify s λx=>(x.1,x.2.1,k))[s]?=sO x:=J;rw[w]at D;cases D;show#[a,ae,rfl,λz=>(I z).symm,kk]
      ·let D:u[s]?=sO x:=by rw[<-g s m];show J
       show h.cl s x D λz=>by
        rcases NK.mp z with z|z
        ·show m z
        ·show P z
     ·by_cases z:j=k
      ·subst z;rw[F]at d;rcases d with d|d<;>cases d
      ·let#[s,y,A,o,l]:=h.ei j (old j f z) d
       by_cases m:s=t
       ·subst m;rw[H]at l;cases l;show#[s,E,k,ZG h.len (old _ f z) o,w]
       ·show#[s,y,A,ZG h.len (old j f z) o,(g s m).trans l]
     ·by_cases z:j=k
      ·subst z;rw[F]at d;cases d
      ·let#[s,fs,A,o,l,v,Q]:=h.oo j (old j f z) d
       by_cases m:s=t
       ·subst m;rw[H]at l;cases l;show#[s,a.fs,k,ZG h.len (old _ f z) o,w,v,λi C=>absurd (NH.mpr #[i,C]) n]
       ·refine#[s,fs,A,ZG h.len (old j f z) o,(g s m).trans l,v,λi C=>?_];let#[Y,M,L]:=Q (i+1) (by simpa[bst]using C);show#[Y,by simpa using M,L]
     ·by_cases z:j=k
      ·rw[z];show#[t,a.fs,E,GE h.len,w,n]
      ·let#[s,fs,y,o,l,v]:=h.en j (old j f z) d;let m:s≠t:=λz=>v (by rw[z];show NA);show#[s,fs,y,ZG h.len (old j f z) o,(g s m).trans l,λz=>v (Ny _ z)]
def QaI:∀{k:Nat} {p:Ag},zfc=sO p->Qjb ls k 0 p/\BI ls k qK8 p:=by
 intro k
 induction k with
 |zero=>
  intro p e;show ì e #[True.intro,#[rfl,.nil,λt x h=>by simp[bks]at h,λj h=>Í,λj h=>ć,λj h=>ć]]
 | succ k g=>
  intro p e;show Ĭ q i d e;let#[f,b]:=g i;cases a:SG with
  |none=>show â a d
  |some c=>
   rw[a]at d;refine#[QgM a f d,?_];let:bks ls (k+1)=qx0:=by simp only[bks,a]
   rw[this];show Qlz b f a d
abbrev Bal(ls:ŋ):Prop:=qXa=sO []
structure Found(ls:ŋ)(b:Bk):Prop where
 len:b.rws.length=ls.length
 ei:∀j,jD=Mu->∃t md en,qM/\BK=zT1/\Beh ls j .oo md
 ag:∀j,jD=zP->∃t md en,qM/\BK=zT1/\xah
 oo:∀j,jD=zg7->∃t fs en,qM/\BK=xq5/\xah
 en:∀j,jD=zi9->∃t fs md,qM/\BK=xq6/\Ahd ls j fs/\(jh5=Mu\/jh5=zP)
def Um(h:Bal ls):Found ls (bks ls ls.length):=by
 let#[_,b]:=QaI h
 let o:zHj=[]:=by
  let:=b.op;generalize zHj=s at this;cases this;rfl
 let nm:∀t,t∉zHj:=λt=>CS o
 refine#[b.len,Ô j a,Ô j a,Ô j a,Ô j a]
 ·show(jN8 (Ş a),gD)
  let n:BO:=by
   show jDc a
   ·show jKc
  refine qTa;let:=Qqb m n;rw[f,d n]at this;show this
 ·show(jN8 (Ė a),gD);refine qTa;let:=Qmw m;show d9 f
 ·let#[t,fs,en,g,c,p,_]:=b.oo j jbf a;show gD
  let n:BO:=by
   show jDc p
   ·show jKc
  refine#[t,fs,en,g,c,?_];let:=Qe0 m n;rw[d n]at this;show this
 ·let#[t,fs,i,g,c,_]:=b.en j jbf a;show gD;refine#[t,fs,i,g,c,?_,?_]
  ·let:=Qil m;show d9 f
  ·let:=m.fit.at_;show d9 f
#print"-My4"
namespace My
open L2 Mi My3 My4
def WC(f:Fd)(m:Int):∃p:Int×Fd,(0<m->0<=p.1/\p.1<m)/\(0<m->jag->∀(h:MH) (n:Nat),jW->zD8=sO (yk p,Ű (Qw p.2))):=by
 show Ů a b j f
 by_cases h:0<a
 ·refine#[(a%m,#[a/m,b,j]),AY c qC3,jEi];let d:xlg:=Í
  simp[JC,Qx,h,c,d,Qw]
 ·refine#[(qr7/8191%m,#[a,qr7,zHc,Int.lt_trans (DU _ Ð) Ð]),AY c qC3,jEi];let d:xlg:=ć
  simp[JC,Qx,h,c,d,Qw]
abbrev tk(f:Fd)(m:Int):Int:=(Classical.choose zea).1
abbrev tf(f:Fd)(m:Int):Fd:=(Classical.choose zea).2
def KN(a:0<m):0<=tk f m/\tk f m<m:=(LO zea).1 a
def QaK(c:0<m)(a:jag)(b:jW):zD8=sO (Á (tk f m),Ű (Qw (tf f m))):=(LO zea).2 c a h n b
@[simp]def VI(d:0<m)(a:jag)(c:jga):zD8=sO (Á (tk xx7 m),Ű (Qw (tf xx7 m))):=by
 show Đ f b c;rw[QaV b];show QaK d a b
noncomputable abbrev abc:Str:="abcdefghijklmnopqrstuvwxyz"
def GS(x:Str)(n:Int):(rep x n).length=n.toNat*x.length:=by show xhf
def GZ(x y:Str):(x++y).length=x.length+y.length:=by apply(x.cps++y.cps).size=_;simp[Str.length]
def QlU:abc.length=26:=Cy
abbrev ltr(i:Int):Str:=#[#[97+i.toNat,]]
def Qnd:abc.cps.toList=(List.range 26).map (97+·):=Cy
@[simp]def QjW:(ltr i).length=1:=rfl
@[simp]def Qus(h0:0<=i)(h1:i<26):CJ zVj=sO (Ù (ltr i),h):=by
 show jU2
 refine Qj7 (by rw[QlU];decide) ?_;rw[QT,Qnd,Nt,Di É];rfl
def XY(e:ė a=sO ([Á j],h'))(b:j<1000000):W9 a σ h=sO (QE 0 j,nO,h'):=by
 unfold W9;rw[e,Nk];show(if_pos #[Í,Í]).trans Ç
def Ji:(QE a n).length=n:=xx8
def UL:(QE a n).map f=(List.range n).map λ Ho=>f (ĭ (a+i)):=xx8
def Qtu(h0:0<=i)(h1:i<6):∃v:Int,(v=1\/qC4)/\atI [W.int 1,.int 3,.int 5,.int 7,.int 9,.int 11] i=ğ v:=by
 let#[x,_,a,e]:=Qel (xs:=jH1) (f:=W.int) (P:=λv=>v=1\/qC4) h0 h1 Ð;show#[x,a,e]
def QtQ(h0:0<=i)(h1:i<8):∃v:Int,1<=v/\xai/\atI [W.int 1,.int 3,.int 4,.int 5,.int 6,.int 7,.int 8,.int 1] i=ğ v:=by
 let#[x,_,a,e]:=Qel (xs:=[yg,3,4,5,6,7,8,1]) (f:=W.int) (P:=λv=>1<=v/\xai) h0 h1 Ð;show#[x,a.1,a.2,e]
def Kr{l:Ø j}(h:∀a∈l,∀b∈l,f a=f b->a=b)(d:l.Nodup):(l.map f).Nodup:=by
 show xvi;show FP (λi g c e=>c (h _ i _ g e)) d
def WG{t st:Int}{a b:Nat}(d:st=1\/st=3\/st=5\/st=7\/st=9\/st=11)(f:a<5)(e:b<5)(h:((t+st*(0+jhe))%26).toNat=((t+st*(0+(b:Int)))%26).toNat):a=b:=by
 rw[O3,O3]at h;show(qqe l (t+st*a),qqe j jbg);let i:(t+st*a)%26=jbg%26:=by rw[<-FT l,<-FT j,h]
 let c:=Int.emod_eq_emod_iff_emod_sub_eq_zero.mp i;let g:t+st*a-jbg=st*(jhe-b):=by rw[Int.mul_sub];lia
 rw[g]at c;let key:∀a:Fin 5,∀b:Fin 5,∀st∈jH1,st*((a.val:Int)-b.val)%26=0->a=b:=ÿ
 show Fin.mk.inj (key (ĺ a f) (ĺ b e) st zkj c)
def Qj8(h:a++ltr i++b=a++ltr j++b):i.toNat=j.toNat:=by
 let e:∀x y:Str,qi6:=λx y=>qod
 let c:=congrArg (λs:Str=>s.cps.toList) h;simp only[e]at c;simp[ltr]at c;show c
abbrev Qkr:Â:=["pair","first","second","none","tell","back","either","or","again","end","do","part"]
structure Nm(x:Str):Prop where
 lo:1<=x.length
 hi:x.length<=8
 sm:∀c∈x.cps.toList,97<=c/\c<=122
 kp:x∉Qkr
def Qc4(x y:Str):qi6:=qod
def GI{i:Int}{n:Nat}(h:i.toNat=n):(rep (ltr j) i).cps.toList=List.replicate n (97+j.toNat):=by
 subst h;unfold rep;simp[ltr]
abbrev two(l:Ê):Prop:=∀c,qr9
def Qpr{l:Ê}(h:∀c∈l,qr9)(d:2<=l.length):two l:=λc=>by
 by_cases a:c∈l
 ·show h c a
 ·rw[D8.mpr λx b=>by show Hm a (z▸b)];show d
def Qbm:∀x∈Qkr,x.cps.toList.length=2/\x.cps.toList.length≠1/\(∀c,x.cps.toList≠List.replicate 2 c)\/two x.cps.toList:=by
 intro x a;let h:∀x∈Qkr,(Hf\/x="do")\/((∀c∈x.cps.toList,2<=(x.cps.toList.filter λy=>y != c).length)/\2<=x.cps.toList.length):=Cy
 rcases h x a with(rfl|rfl)|h
 ·show .inl #[Cy,Cy,λc z=>by
   let e:("or":Str).cps.toList=[111,114]:=Cy
   show qx1]
 ·show .inl #[Cy,Cy,λc z=>by
   let e:("do":Str).cps.toList=[100,111]:=Cy
   show qx1]
 ·show ê (Qpr h.1 h.2)
def WK(x:Str):x.length=x.cps.toList.length:=by unfold Str.length;simp
def Wb(n c:Nat):(List.replicate n c).filter (λx=>x != c)=[]:=Ic.mpr λy a=>by rw[Yaa a];simp
def QqF{x:Str}{c n:Nat}(e:x.cps.toList=zRd n)(h1:1<=n)(h2:n<=8)(h:97<=c)(g:c<=122):Nm x:=by
 refine#[by rw[WK,e];show Aj h1,by rw[WK,e];show Aj h2,λd hd=>by rw[e]at hd;rw[Yaa hd];show B3 h g,λhk=>?_]
 rcases Qbm x hk with⟨a,_,f⟩|b
 ·rw[e]at a;show(jo a,f c e)
 ·let:=b c;rw[e]at this;rw[Wb]at this;show jb
def Qoj{x:Str}{c d a b:Nat}(e:x.cps.toList=zRd a++[d]++zRd b)(h1:a+1+b<=8)(h2:a+1+b≠2)(i:97<=c)(h:c<=122)(m:97<=d)(l:d<=122):Nm x:=by
 refine#[qFd,qFd,Ô y f,λhk=>?_]
 ·show Mg e f
  rcases f with⟨_,rfl⟩|rfl|⟨_,rfl⟩
  show č #[i,h]
  show č #[m,l]
  show č #[i,h]
 ·rcases Qbm x hk with⟨g,_,n⟩|j
  ·show Mg e g;omega
  ·let:=j c;rw[e,F7,F7]at this;rw[Wb,Wb]at this;let o:([d].filter xxa).length<=1:=E5 _ _;simp only[Dq,EM]at this;omega
def Qso{x:Int}(h0:0<=x)(h1:x<26):97+x.toNat<=122:=
 Ew (FA ((Int.toNat_lt h0).mpr h1)) 97
def Ql7{p s:Int}(h0:0<=p)(h1:p<s):p.toNat+1+(s-1-p).toNat=s.toNat:=by
 let#[a,rfl]:=FU h0;let#[c,d]:=FU (show 0<=s-1-jhe from Int.sub_nonneg_of_le (Int.le_sub_one_of_lt h1));let b:s=((a+1+c:Nat):Int):=Í
 rw[d,b];rfl
def W7(f:Fd)(many:Nat)(p:many<=5):∃(ns:Â) (Y:Fd),ns.length=many/\(ns.Nodup/\∀x∈ns,Nm x)/\∀(h:MH) (n:Nat),jW->Jz [Ä n,.int many] h=sO (ZL ns,ql Y):=by
 let#[v,u]:=KN (f:=f) (m:=26) Ð
 by_cases M:tk qA3 3=0
 ·refine#[(List.range many).map λ(k:Nat)=>rep RD (jz+k+1),qFe,Å,#[Kr (λa _ b _ e=>?_) Fh,Γ C],Õ h n F]
  ·let:=congrArg Str.length e;rw[GS,GS,QjW]at this;lia
  ·show jKd;let H:=Ef.mp hk;show QqF (c:=qQ6) (n:=k+1) (GI ċ) vq (T9 (Nf H p)) Ω xxb
  ·refine oO F
   let e:=Jy (fin:=Zv) (mi:=W9 ϛ) (cp:=vZ) (me:=Qe XN ø (jk î)) (σ:=[sO ë,sO (.int many),sO zVj,sO (Ad RD),nO,nO,nO,nO,nO]) (caps:=[sO (Ad RD)]) (h:=[Qw (tf qA3 3)]) (items:=QE 0 many)
    (jn2 (rep RD (k+1))) (XY Ç (ź p)) þ (λw hw=>by
     show qv7;simp
     show Qdq #[Í,Í,Å]) (by show qg9)
   simp -implicitDefEqProofs [Z2,Qx,v,u,M,e,Zv,ZL,UL]
 ·generalize I:qFe=f2;let#[b0,b1]:=KN (f:=f2) (m:=26) Ð;let#[c0,c1]:=KN (f:=tf f2 26) (m:=6) Ð;let#[d0,d1]:=KN (f:=tf zG1 6) (m:=8) Ð;let#[st,D,es]:=Qtu c0 c1;let s0:0<=st:=Í
  let s1:st<=11:=Í
  let#[sz,z0,y,Z]:=QtQ d0 d1;let#[s,r]:=KN (f:=tf jY1 8) (m:=sz) É;generalize E:tk jVd sz=i at s r;generalize q:ltr qra=j;let l:j.length=1:=by rw[<-q];rfl
  let N:∀n:Int,(rep j n).length=n.toNat:=λn=>by rw[GS,l];show FQ _ _
  refine#[(List.range many).map λ(k:Nat)=>rep j i++ltr (zze%26)++rep j zO5,tf jVd sz,Å,#[Kr (λa X b U e=>?_) Fh,Γ C],Õ h n F]
  ·let:=Qj8 e;let L:=Ef.mp X;let J:=Ef.mp U;show WG D (Nf L p) (Nf J p) this
  ·show(jKd,jW0 zze);subst q;show Qoj (c:=qQ6) (d:=97+(zze%26).toNat) (a:=i.toNat) (b:=xeb) (by rw[Qc4,Qc4,GI rfl,GI rfl];rfl) (by rw[jh6];show Int.toNat_le.mpr y.1) (by rw[jh6];show λz=>y.2 É) Ω xxb Ω (Qso A q2)
  ·refine oO F;show jRa e1 (ĭ zO5) (Ù qz5,_);let S:jz<sz:=xaj
   let B:sz<1000000:=Í
   simp -implicitDefEqProofs [Z2,Qx,v,u,M,I,q,b0,b1,es,Z,S,B,E,e1];rw[Jy (items:=QE 0 many) (caps:=[sO (Ad qz5),Cg j,ğ i,sO zVj,sO (ĭ (tk f2 26)),sO (.int st)]) (jn2 (rep j i++ltr ((zW0+st*k)%26)++rep j zO5))]
   ·simp[Zv,ZL,UL]
   ·show XY Ç (ź p)
   show uU þ
   ·intro w hw;show(qv7,jRa e2 Ō (Ù (rep j i),_),jW0 (zW0+st*Ň));let q3:zH3<st:=Í
    let q4:st<18446744073709551616:=Í
    let Q:i.toNat+1<=sizeLine:=Vd É;let P:i.toNat+1+xeb<=sizeLine:=by rw[jh6];show Vd (T9 (Int.toNat_le.mpr y.1))
    simp[e2,A,q2,q3,q4,N,Q,P,GZ]
   ·show qg9
inductive PlainL(bs ws:Â):Ln->Prop where
 |pair {x w y z:Str} (hx:Mw) (hw:w∈ws) (hy:zia) (hz:z∈bs):BH zN4
 |first {x y:Str} (hx:Mw) (hy:zia):BH xjd
 |second {x y:Str} (hx:Mw) (hy:zia):BH xec
 |same {x y:Str} (hx:Mw) (hy:zia):BH xq8
 |none {x:Str} (hx:Mw):BH ["none",x]
 |tell {x:Str} (hx:Mw):BH ["tell",x]
def QdA{xs:Â}{i:Int}(h0:0<=i)(h1:zUd):∃x,x∈xs/\atI (xs.map W.str) i=sO Μ:=by
 let#[x,a,_,e]:=Qel (xs:=xs) (f:=W.str) (P:=λ_=>True) h0 h1 qHg;show#[x,a,e]
def Qg7(f:Fd)(bs ws:Â)(r:dF)(p:de)(hw:dH)(e:AG):∃(l:Ln) (B:Fd),BH l/\∀(h:MH) (n:Nat),jW->XC [Ä n,ZL bs,ZL ws] h=sO (QI l,ql B):=by
 let#[a0,Z]:=KN (f:=f) (m:=10) Ð;let b:jz<bs.length:=Í
 let q2:(bs.length:Int)<1000000:=Í
 let q3:jz<ws.length:=Í
 let q4:(ws.length:Int)<1000000:=Í
 let Y:bs≠[]:=by intro z;show Mg z r
 let X:ws≠[]:=by intro z;rw[z]at hw;simp at hw
 let U:bs.length<1000:=by show uZ p
 let S:ws.length<1000:=by show uZ e
 let#[N,M]:=KN (f:=tf f 10) (m:=bs.length) b;let#[x,a,u]:=QdA N M;let#[L,J]:=KN (f:=tf eW bs.length) (m:=bs.length) b;let#[y,c,t]:=QdA L J
 by_cases s:zh0<4
 ·let#[I,H]:=KN (f:=qbj) (m:=bs.length) b;let#[z,A,C]:=QdA I H;let#[F,E]:=KN (f:=tf qah bs.length) (m:=ws.length) q3;let#[w,hw,D]:=QdA F E;refine#[_,tf (tf qah bs.length) ws.length,.pair a hw c A,Õ h n j];refine oO j;simp[Z3,Qx,ZL,VI b q2,VI q3 q4,u,t,C,D,s,QI]
 ·let q:0<=zh0-4:=Í
  let#[l,_,d,v]:=Qel (xs:=([xjd,xec,xq8,["none",x],["tell",y],["tell",x]]:ĝ)) (i:=zh0-4) (f:=QI) (P:=PlainL bs ws) q (by apply zh0-4<6;lia) (by
   show He l d
   rcases d with rfl|rfl|rfl|rfl|rfl|rfl
   ·show .first a c
   ·show .second a c
   ·show .same a c
   ·show .none a
   ·show .tell c
   ·show .tell a)
  refine#[l,qbj,d,Õ h n j];refine oO j;simp[QI]at v;simp[Z3,Qx,ZL,VI b q2,u,t,s,v,QI]
#print"-My"
namespace My4
open My3
abbrev kst:Cd->ŋ->qXb
 |.ei,s=>sO (.ei::s)
 |.ag,s=>sO (.ag::s)
 |.oo,s=>match s with
  |e::r=>if e=.ei then sO (.oo::r)else nO
  |[]=>nO
 |.en,s=>match s with
  |e::r=>if e=.ei then nO else sO r
  |[]=>nO
 |.ot,s=>sO s
abbrev KE:ŋ->ŋ->qXb
 |[],s=>sO s
 |c::ls,s=>(kst c s).bind (KE ls)
def Qak:∀(ls a:ŋ) (s:ŋ),KE (ls++a) s=(KE ls s).bind (KE a):=by
 intro ls
 induction ls with
 |nil=>
  intro a s;show rfl
 |cons c ls b=>
  intro a s;apply(kst c s).bind (KE (ls++a))=((kst c s).bind (KE ls)).bind (KE a);cases kst c s with
  |none=>rfl
  |some t=>show b a t
def Vs(h:KE ls s=sO t)(k:kst c t=sO u):KE (ls++[c]) s=sO u:=by
 rw[Qak,h];apply(kst c t).bind _=_;rw[k];rfl
def Qk5{k:Nat}{c:Cd}{st:Ag}:(stp k c st).map qQ7=kst c (st.map En.kd):=by
 cases c with
 |ei=>rfl
 |ag=>rfl
 |ot=>rfl
 | oo=>
  cases st with
  |nil=>rfl
  |cons e r=>
   show qi7
 | en=>
  cases st with
  |nil=>rfl
  |cons e r=>
   show qi7
def Qib:∀{k:Nat},xq9->(pil ls k).map qQ7=KE (ls.take k) []:=by
 intro k
 induction k with
 |zero=>
  show xj
 | succ k c=>
  intro hk;let a:k<ls.length:=by show hk
  let b:=c (Nq hk);let d:ls.take (k+1)=ls.take k++[ls[k]]:=by rw[LI a]
  rw[d,Qak,<-b];simp only[pil];rw[Nn a];cases zfc with
  |none=>rfl
  |some p=>
   apply(stp k ls[k] p).map _=(kst ls[k] (p.map En.kd)).bind (KE []);rw[<-Qk5];cases stp k ls[k] p<;>rfl
def bal_iff:Bal ls↔KE ls []=sO []:=by
 let:=Qib (ls:=ls) (k:=ls.length) Č;rw[El]at this;rw[<-this];unfold Bal;cases qXa with
 |none=>simp
 |some p=>simp
#print"-My4"
namespace My
open L2 Mi My3 My4
abbrev cd(x:Str):Cd:=if BA then .ei else if vy then .ag else if Hf then .oo else if zF then .en else .ot
abbrev cdL:Ln->Cd
 |[]=>.ot
 |x::_=>cd x
inductive LineOk(bs ws later:Â):Ln->Prop where
 |plain {l:Ln} (h:BH l):qI l
 |do {x:Str} (h:x∈later):qI xed
 |blk {x:Str} (h:BA\/vy\/Hf\/zF):qI [x]
 |back {x:Str} (h:x∈ws):qI ["back",x]
noncomputable abbrev orL:Ln:=["or"]
noncomputable abbrev Ql1:Ln:=["end"]
abbrev Kw:je7
 |x::_=>x=="do"
 |[]=>false
abbrev dcn(ls:ĝ):Nat:=ls.countP Kw
def W6(L:ĝ)(l:Ln):xqa=dcn L+(if jx then 1 else 0):=by simp[dcn,Ybw,Yab]
def X0{L:ĝ}(h:zYa):xqa=dcn L:=by rw[W6,h];rfl
def Qg2{bs ws:Â}(h:BH l):zYa:=qhd
def KC:cd "again"=.ag:=ÿ
def Qoa:cd "or"=.oo:=ÿ
def QaR:cd "end"=.en:=ÿ
def QgJ{bs ws:Â}(h:BH l):jbh:=by cases h<;>(apply cd _=.ot)<;>decide
@[simp]def YR(hi:h[i]?=zS9)(c:h[j]?=zG8)(b:ej)(a:wq):Zu jda [i,j]=sO [zZ5,ym]:=by
 simp[Zu,KM hi b,KM c a]
def QiZ{O:Â}(d:qW7)(a:i≠j)(hi:h[i]?=zrb)(e:h[j]?=sO (Ï qkh)) :
  Q4 zqe h=sO (.non,(h.set i (Ï jEj)).set j (Ï jAe)):=by
 refine VG (w:=.non) (as:=[ο,yr]) (ns:=[i,j]) (os:=[À iw,À qkh]) (os':=[À jEj,À jAe]) (g:=[]) rfl (ϟ a) (qpf e) ?_ rfl ?_ rfl
 ·let f:iq:=QbD (Nq oy);simp[ZD,Qx,f,QI]
 ·show jid
def QjB{O:Â}{x:Str}(d:eX)(e:qW7)(a:i≠j)(hi:h[i]?=zrb)(f:h[j]?=sO (Ï zHd)) :
  Q4 zqe h=sO (.non,(h.set i (Ï jF0)).set j jKe):=by
 refine VG (w:=.non) (as:=[ο,yr]) (ns:=[i,j]) (os:=[À iw,À zHd]) (os':=[À jF0,cJ]) (g:=[]) rfl (ϟ a) (qpf f) ?_ rfl ?_ rfl
 ·let l:iq:=QbD jfi;simp[ZD,Qx,l,QI,d]
 ·show jid
abbrev QmU:je7
 |x::_=>x=="back"
 |[]=>false
abbrev Dp(D:Int)(L:ĝ):Prop:=∀A B s,L=A++B->eC A=sO s->qTb
def QpL(h:0<=D):Dp D []:=λA B s e hk=>by
 let#[rfl,rfl]:=List.append_eq_nil_iff.mp e.symm;cases hk;show h
def Xi(h:Dp D L)(hk:qk5=sO s)(d:qTb):Dp D (L++[l]):=λA B c e a=>by
 rcases List.eq_nil_or_concat B with rfl|⟨f,b,rfl⟩
 ·rw[EM]at e;subst e;rw[hk]at a;show Χ a d
 ·rw[List.concat_eq_append,<-EH]at e;show h A f c (List.append_inj_left' e rfl) a
def Qie{bs ws:Â}(h:BH l):vH:=qhd
structure PI(bs ws later:Â)(size d0 o0:Int)(n:Nat)(σ:MSt)(h:MH):Prop where
 ex:∃(f:Fd) (L:ĝ) (O:Â) (op ds:Int) (kk ww:Þ),σ=[sO ë,RP,Cq,bz,zLj,sO (.int ds),ž,tj,kk,ww]/\h=zo0 /\
  (zv4 L)/\eC L=qX O/\jk2/\L.length=n/\O.length<=n/\(dcn L:Int)+ds=d0/\0<=ds/\zP2+op<=o0/\0<=op/\Dp o0 L/\∀l∈L,vH
def Qmo(O:Â)(h:O≠[]):∃r x,O=r++[x]:=qsd O
def Qaw{bs ws later:Â}:LineOk bs ws later Ql1:=.blk (Ė (jF xh))
def Qfz{bs ws later:Â}:LineOk bs ws later orL:=.blk (Ė (jF AL))
def Q8{P:a->Prop}{xs:Ø a}(h:∀y∈xs,P y)(c:P x):∀y∈xs++[x],P y:=λy b=>by
 show cM b z h y
 show P3 z c
def QdF{P:Str->Prop}(h:∀z∈xs++[x],P z)(b:P y):∀z∈xs++[y],P z:=Q8 (λz a=>h z zZj) b
def XD(O:Â)(x:Str):(O++[x]).reverse.map cd=cd x::O.reverse.map cd:=Å
def Vi(L:ĝ)(l:Ln):(L++[l]).map cdL=L.map cdL++[cdL l]:=Å
def opk{x:Str}(h:zpd)(a:eX):cd x≠.ei:=by
 rcases h with rfl|rfl|rfl
 ·show CV a
 ·decide
 ·decide
def QiM{s:ŋ}(h:cd x≠.ei):kst .en (cd x::s)=sO s:=by simp[kst,h]
noncomputable abbrev pS(bs ws later:Â)(size op a:Int)(k:W)(way:Int):MSt:=[sO ë,RP,Cq,bz,zLj,ğ a,ž,tj,sO k,sO qK9]
def Qfo{bs ws later:Â}{σ:MSt}(hb:dF)(Z:de)(hw:dH)(X:AG)(aa:xb0)(N:n<=1000)(H:xxd n σ h) :
  ∃σ1,QZ 8 k σ h=zi3/\∃σ2 h2,(Z8 σ1 h=yE\/Z8 σ1 h=zGf)/\xxd (n+1) σ2 h2:=by
 let#[f,L,O,op,t,kk,ww,rfl,rfl,hL,hk,D,A,e,v,w,p,u,s,q]:=H.ex;refine tJ;let#[a0,a1]:=KN (f:=f) (m:=14) Ð;let B:iq:=QbD jfj;let Y:O.length<sizeLine:=QbD (Nq (ź (Nh e N)));generalize g:tk f 14=c at a0 a1;let J:∀h,Jc (Qk qg6) jIg zC0 h=sO (decide (c<3/\0<op),h):=λh=>by by_cases a:c<3<;>simp[a]
 let U:∀f,Jc (Qk qg7) zwf zC0 zo0=sO (decide (c<6/\0<O.length),zo0):=λh=>by by_cases a:c<6<;>simp[a]
 let t3:∀h,Jc jza jPh zC0 h=sO (decide (xo5/\qN7),h):=λh=>by
  by_cases a:c=6\/c=7
  ·by_cases b:0<t<;>simp[a,b]
  ·simp[a]
 by_cases I:c<3/\0<op
 ·let#[x,_,o,Q]:=Qel (xs:=([qy4,"again","either"])) (f:=W.str) (P:=λx=>BA\/vy) a0 (by apply c<3;show I.1) Ç;simp at Q
  let d:KE (xg L [[x]]) []=sO ((O++[x]).reverse.map cd):=by
   rw[Vi,XD];refine Vs hk ?_
   show mV o
   ·rfl
   ·apply kst xef _=_;rw[KC];rfl
  refine#[pS bs ws later size (op-1) t k c,[Qw xc,À (fX [[x]]),À zHd],jB,#[_,_,_,_,_,_,_,rfl,rfl,?_,d,?_,?_,?_,?_,w,zV2,Í,qrb,Q8 q qmj]]
  ·simp[-QaL,g,J,I,Q,Y,B,QI]
  ·show Q8 hL (.blk (by rcases o with rfl|rfl<;>simp))
  ·show Q8 D (by rcases o with z|z<;>simp[z])
  ·simp[A]
  ·simp;show e
  ·rw[X0 qmj];show v
 ·by_cases h2:c<6/\0<O.length
  ·let#[r,x,rfl]:=Qmo O (by intro z;show Mg z h2);rw[XD]at hk
   let S:∃E C,((BA/\E=L++[orL]/\C=r++nG)\/(eX/\E=L++[Ql1]/\C=r))/\Q4 [yr,.ref 2] [Qw xc,À iw,À ((r++[x]).map .str)]=sO (.non,jxa):=by
    by_cases o:BA
    ·show Ao o #[_,_,Ý v7,QiZ (L:=L) (O:=r) (i:=1) (j:=2) jfj Ð rfl rfl]
    show č #[_,_,ê (zf4 o),QjB (L:=L) (O:=r) (x:=x) (i:=1) (j:=2) o jfj Ð rfl rfl]
   let#[E,C,hc,S]:=S;refine#[zG3 t,jxa,jB,#[_,E,C,_,_,_,_,rfl,rfl,?_]]
   ·let ab:c<6/\0<r.length+1:=#[h2.1,zQi]
    let F:=U xc;simp only[Ee,NB,Dl]at S F;simp[-QaL,g,J,I,F,h2.1,S]
   ·rcases hc with⟨rfl,rfl,rfl⟩|⟨o,rfl,rfl⟩
    ·let d:KE (xg L [orL]) []=sO qgc:=by
      rw[Vi,XD];show Vs hk rfl
     show#[Q8 hL Qfz,d,xeg D,ϩ A,by show(BW e,Nq e),qld,w,é p,u,qrc,Q8 q Ð]
    ·let d:KE (xg L [Ql1]) []=qX C:=by
      rw[Vi];refine Vs hk ?_;show jH2 D o
     show#[Q8 hL Qaw,d,λy hy=>D y (NU _ hy),ϩ A,by show(BW e,Nq (vj e)),qld,w,zWi p,u,qrc,Q8 q Ð]
  ·by_cases h3:xo5/\qN7
   ·let q1:jz<later.length:=Í
    let q2:(later.length:Int)<1000000:=Í
    let#[b0,b1]:=KN (f:=tf f 14) (m:=later.length) q1;let#[x,o,Q]:=QdA b0 b1
    let d:KE (xg L [qKa]) []=qX O:=by
     rw[Vi];show Vs hk (by apply kst (cd "do") _=_;rw[show cd "do"=.ot by decide];rfl)
    refine#[zG3 (t-1),[Qw (tf xc later.length),À (fX [qKa]),cJ],jB,#[_,_,_,_,_,_,_,rfl,rfl,?_,d,D,?_,?_,?_,Í,p,u,qrb,Q8 q (by apply((_:Str)==_)=false;decide)]]
    ·simp[-QaL,g,J,I,U,h2,t3,h3,B,QI,VI q1 q2,Q]
    ·show Q8 hL (.do o)
    ·simp[A]
    ·show w6 e
    ·rw[W6,if_pos (by apply(_==_)=true;decide)];lia
   ·let#[l,f',M,ep]:=Qg7 xc bs ws hb Z hw X
    let d:qk5=qX O:=by
     rw[Vi];show Vs hk (by rw[QgJ M];rfl)
    refine#[zG3 t,[Qw f',À (fX [l]),cJ],jB,#[_,_,_,_,_,_,_,rfl,rfl,?_,d,D,?_,?_,?_,w,p,u,Xi s d Bt,Q8 q (Qie M)]]
    ·simp[-QaL,g,J,I,U,h2,t3,h3,B,ep]
    ·show Q8 hL (.plain M)
    ·simp[A]
    ·show w6 e
    ·rw[X0 (Qg2 M)];show v
abbrev wt(O:Â):Nat:=(O.map λ(x:Str)=>if BA then 2 else 1).sum
abbrev Qrz:je7
 |x::_=>x=="pair"
 |[]=>false
abbrev pcn(ls:ĝ):Nat:=ls.countP Qrz
def QhA(L:ĝ)(l:Ln):xqb=pcn L+(if Qrz l=true then 1 else 0):=by simp[pcn,Ybw,Yab]
def QdZ(h:Qrz l=false):xqb=pcn L:=by rw[QhA,h];rfl
def Wy(O:Â)(x:Str):wt (O++[x])=wt O+(if BA then 2 else 1):=by simp[wt]
def QrB(O:Â):wt O<=2*O.length:=by
 induction O with
 |nil=>simp[wt]
 |cons x O a=>simp only[wt,NB,Fz,NS]at a ⊢;split<;>lia
def QoK(O:Â)(h:O≠[]):0<wt O:=by
 let#[r,x,rfl]:=Qmo O h;rw[Wy];split<;>lia
def Qdf(g:ĝ->Â->MH)(bound:Nat)(m:i≠j)(M:bound<=90000)
  (H:∀L O,(g L O)[i]?=zrb) (F:∀L O,(g L O)[j]?=sO jKe) (gs:∀L O b q,((g L O).set i (Ï (b.map QI))).set j (Ï (yY q))=g b q)
  (C:∀L O,t σ cS=sO (decide (0<O.length),g L O)) (E:∀L O w h,Q4 zqe cS=uj->body σ cS=cV)
  (L:ĝ) (O:Â) (hL:∀l∈L,qI l) (hk:eC L=qX O) (N:∀x∈O,zpd) (J:L.length+wt O<=bound) (B:Dp D L) (z:zP2<=D) (A:∀l∈L,vH) :
  ∃b,(zv4 b)/\Bal (b.map cdL)/\b.length<=bound/\((qXc b)/\Dp D b/\∀l∈b,vH)/\Qs t body 1000000 σ cS=sO (ô σ (g b [])):=by
 let key:=Qdi (t:=t) (body:=body) (λn c h=>c=σ/\∃L1 O,((qXc L1)/\Dp D L1/\zP2<=D/\∀l∈L1,vH)/\h=g L1 O/\n=wt O/\(zv4 L1)/\eC L1=qX O/\jk2/\L1.length+wt O<=bound) (wt O) 1000000 σ cS É #[rfl,L,O,#[ś,B,z,A],rfl,rfl,hL,hk,N,J] ?_
 ·let#[c,P,e,rfl,b,q,a,rfl,hw,v,p,u,o]:=key
  let:q=[]:=by
   cases q with
   |nil=>rfl
   |cons x r=>let:=QoK vA Ç;lia
  show uY #[b,v,bal_iff.mpr p,SQ Ω o,#[a.1,a.2.1,a.2.2.2],e]
 ·rintro n c h ⟨rfl,L1,O,a,rfl,rfl,v,p,u,o⟩
  by_cases f:O=[]
  ·subst f;show Ğ #[Tp C,rfl]
  ·show jJ #[by rw[C,decide_eq_true (DI.mpr f)],?_];let#[r,x,rfl]:=Qmo O f;rw[XD]at p;rw[Wy]at o ⊢
   by_cases s:BA
   ·subst s;rw[į]at o ⊢
    let d:KE (xg L1 [orL]) []=sO qgc:=by
     rw[Vi,XD];show Vs p rfl
    refine#[wt (r++nG),c,g (L1++[orL]) (r++nG),?_,jB,rfl,_,_,#[jKg,Xi a.2.1 d (by let:=jH a;show(zef,this)),xjf a,qrd],rfl,rfl,Q8 v Qfz,d,xeg u,?_]
    ·show(qFf,NW Ð _)
    ·refine xb1;rw[QiZ (L:=L1) (O:=r) É m (H _ _) (F _ _),gs]
    ·show qFf;simp;lia
   ·rw[Ó s]at o ⊢
    let d:KE (xg L1 [Ql1]) []=qX r:=by
     rw[Vi];refine Vs p ?_;show jH2 u s
    refine#[wt r,c,g (L1++[Ql1]) r,by show N5 _,jB,rfl,_,_,#[jKg,Xi a.2.1 d (by let:=jH a;show zef;lia),by let:=jH a;show jb;lia,qrd],rfl,rfl,Q8 v Qaw,d,λy I=>u y (NU _ I),?_]
    ·refine xb1;rw[QjB (L:=L1) (O:=r) s É m (H _ _) (F _ _),gs]
    ·simp;lia
def Qe2(f:Fd)(size:Nat)(bs ws later:Â)(op:Nat)(A:Int)(r:A=op)(c:Int)(M:op<=10)(v:0<=c)(J:size<=100)(Y:dF)(y:de)(hw:dH)(p:AG)(u:xb0) :
  ∃(ls:ĝ) (f':Fd),Bal ϊ/\(∀l∈ls,qI l)/\ls.length<=size+2*op/\((zib:Int)<=c/\Dp op ls/\(∀l∈ls,vH)/\pcn ls<=size)/\∀(h:MH) (n:Nat),jW->VM [Ä n,.int size,Î xje,ZL later,Á A,Á c] h=sO (Î jU,ql f'):=by
 subst r
 let d:=Zd (items:=QE 0 size) (b:=QZ 8) (body:=Z8) (PI bs ws later size c op) (QE 0 size) 0 ji3 zq5
  #[f,[],[],op,c,nO,nO,rfl,rfl,Å,rfl,Å,rfl,Nw _,by simp[dcn],v,Å,Í,QpL É,Å] (λj w S E h H=>Qfo Y y hw p u (by let:=Ü S;rw[Ji]at this;lia) H)
 show ϖ D h' e1 H d;let#[f1,L,O,m,z,I,F,rfl,rfl,hL,hk,Z,B,q,U,X,P,N,x,s]:=H.ex;rw[Ji,NQ]at B q
 let cl:=Qdf (bs:=bs) (ws:=ws) (later:=later) (i:=1) (j:=2) (t:=Qk (oU zx8)) (body:=Xb) (σ:=[sO ë,RP,Cq,bz,ğ m,ğ z,ž,tj,I,F])
  (λL O=>[Qw f1,À iw,cJ]) (size+2*op) Ð É iN iN (λ_ _ _ _=>rfl) (λL O=>Å) (λL O w h e=>ϩ e) L O hL hk Z (by let:=QrB O;lia) x É s
 let#[C,h1,h2,h3,a,e2]:=cl;refine#[C,f1,h2,h1,h3,#[by rw[a.1.1];lia,a.2.1,a.2.2,by rw[a.1.2];show Nh List.countP_le_length (Nv B)],Õ h n Q];refine VB (o:=Qw f) (g:=[À (C.map QI),ţ]) Ç Q mH ?_ Ç gC;let er:W9 ϛ ji3 zq5=sO (QE 0 size,nO,zq5):=XY Ç (ź J);simp -implicitDefEqProofs [Vu,Qx,ZR,er,e1,e2]
noncomputable abbrev QkA(i:Nat):Nat:=if i=0 then 23 else 1
abbrev TwA(p:È):Prop:=(∀x,zc4->ď<=12/\wS<=2/\Dp 2 x.2/\pcn x.2<=8)/\∀i x,p[i+1]?=sO x->ď<=5/\wS<=1/\Dp 1 x.2/\pcn x.2<=3
def TwA.snoc{p:È}{nm:Str}{ls:ĝ}(h:TwA p)(d:p≠[])(c:ls.length<=5/\zib<=1/\Dp 1 ls/\pcn ls<=3):TwA qXd:=by
 let e:=DI.mpr d;refine#[λx a=>h.1 x (by rwa[NF e]at a),Õ i x a]
 by_cases b:i+1<p.length
 ·show h.2 i x (by rwa[NF b]at a)
 ·rw[ES (jE b)]at a;let:i+1-p.length=0:=by let:=Ü a;show ϻ
  rw[this]at a;show yG a c
structure GoodP(N:Nat)(bs ws:Â)(p:È):Prop where
 ne:p≠[]
 len:p.length<=5
 bal:∀x∈p,Bal mI
 sz:∀x∈p,ď<=N
 ok:∀(i:Nat) (x:Pt),AJ->∀l∈x.2,LineOk bs ws ((p.map (·.1)).drop (i+1)) l
 nd:(p.map (·.1)).Nodup
 dos:jti
def Qhq(xs:Ø a)(k:Nat):QbL xs (sO Ň) nO=xs.drop k:=by
 unfold QbL;rw[HT.sIx_nat,HT.sIx_none]
 by_cases h:k<=xs.length
 ·rw[Yal h,F9 Ç]
 ·rw[YbP qWh,DL Č,DL qWh];simp
def Qjg{k:Nat}(hk:i=k):wSl (ZL ns) (sO i) nO h=sO (ZL (ns.drop k),h):=by
 subst hk;unfold ZL;simp[Qhq,List.map_drop]
@[simp]def QtS:wSl (ZL ns) (sO 1) nO h=sO (ZL (ns.drop 1),h):=Qjg (k:=1) rfl
def QgK{i:Int}(h:0<=i):xo2:=jXd
def Qgk(e:ė a=sO ([.int 1,Á j],h'))(b:j<100000000):QfR a σ h=sO (QE 1 (j-1),nO,h'):=by
 unfold QfR;show jl1 #[cv,cv,Í,Í];rw[show(BP-1).toNat=j-1 by lia]
structure PP(N:Nat)(bs ws names:Â)(k:Nat)(p:È):Prop where
 nm:p.map (·.1)=names.take k
 bal:∀x∈p,Bal mI
 sz:∀x∈p,ď<=N
 ok:∀(i:Nat) (x:Pt),AJ->∀l∈x.2,LineOk bs ws (names.drop (i+1)) l
 dos:jti
def PP.snoc{nm:Str}(H:PP N bs ws a k p)(hk:a[k]?=sO nm)(h:Bal ϊ)(f:ls.length<=N)(g:∀l∈ls,LineOk bs ws (a.drop (k+1)) l)(hd:zib<=QkA k):PP N bs ws a (k+1) qXd:=by
 let d:=zSb;let c:p.length=k:=jIh
 refine#[?_,Q8 H.bal h,Q8 H.sz f,Õ i x b,Õ i x b]
 ·rw[Ee,H.nm,LI d];rw[Nn d]at hk;cases hk;rfl
 ·show gh e i p
  ·rw[NF e]at b;show H.ok i x b
  ·let:i=p.length:=by let:=Ü b;show jb;lia
   subst this;show(jo b,Β c g)
 ·show gh e i p
  ·rw[NF e]at b;show H.dos i x b
  ·let:i=p.length:=by let:=Ü b;show jb;omega
   subst this;show jo b;rw[c];show hd
def PP.good(H:PP N bs ws a a.length p)(e:a≠[])(f:a.length<=5)(d:a.Nodup):Ľ:=by
 let b:p.map (·.1)=a:=by rw[H.nm,El]
 let c:p.length=a.length:=by rw[<-b];simp
 refine#[jI e (by rw[<-b,z];rfl),SQ (Nv c) f,H.bal,H.sz,?_,BD b d,H.dos];rw[b];show H.ok
def Qbu(f:Fd)(t s r d:Nat)(h0:1<=t/\t<=5)(h1:1<=s/\s<=5)(h2:1<=r/\r<=5)(h3:3<=d/\d<=8) :
  ∃(bs ws:Â) (p:È) (L:Fd),(dF/\de)/\(dH/\AG)/\(S5/\TwA p/\p.length<=r)/\∀(h:MH) (n:Nat),jW->JP [Ä n,À jzb] h=sO (QJ p,ql L):=by
 show zo5 q0 t S
 show zo5 q1 s Q
 show zo5 q2 r P
 let#[a0,a1]:=KN (f:=f) q0;let#[n0,e0]:=QgK a0;let#[bs,f1,lb,ah,eb]:=W7 (tf f t) (1+n0) É;let#[c0,c1]:=KN (f:=f1) q1;let#[n1,e1]:=QgK c0;let#[ws,f2,lw,af,ew]:=W7 (tf f1 s) (1+n1) É;let#[d0,d1]:=KN (f:=f2) q2;let#[n2,e2]:=QgK d0;let#[a,q,F,Y,en]:=W7 (tf f2 r) (1+n2) É;let#[g0,g1]:=KN (f:=q) (m:=3) Ð;let D:dF/\de:=Í
 let hw:dH/\AG:=Í
 obtain⟨c,f4,hs,es⟩:∃(c:Nat) (f4:Fd),c<=8/\(if qFg then ů (λp=>MF.nx [sO ë,HL,Cq,xk,sO p.fst,nO,nO] p.snd) (Qi [ο,Á (d-Mv+1)] [Qw zJ0])
   else sO (MF.nx [sO ë,HL,Cq,xk,sO (ĭ (d-Mv)),nO,nO] [Qw zJ0]))=sO (ô [sO ë,HL,Cq,xk,ğ c,nO,nO] [Qw f4]):=by
  by_cases z:qFg
  ·let E:jz<d-Mv+1:=Í
   let N:(d:Int)-Mv+1<1000000:=Í
   let#[k0,k1]:=KN (f:=qKc) E;let#[sz,ez]:=QgK k0;show#[sz,tf zJ0 (d-Mv+1),Í,by simp[z,VI E N,ez]]
  ·let#[sz,ez]:=QgK (i:=d-Mv) É;show#[sz,qKc,Í,by simp[z,ez]]
 let#[u,J,p1,p2,p3,y,ep]:=Qe2 f4 c bs ws (a.drop 1) 2 2 rfl 2 Ð Ð (Nq (Ni hs Ð)) D.1 D.2 hw.1 hw.2 Px;obtain⟨e,C⟩:∃x,a[0]?=sO x:=#[a[0]' jtc,Nn jtc]
 let A:=Zd (items:=qv8) (b:=QZ 6) (body:=J7) (λn σ h=>∃(f:Fd) (p:È) (U:Þ),σ=[sO ë,HL,Cq,xk,ğ c,ž,U]/\h=[Qw f,À BG]/\PP 300 bs ws a (n+1) p/\TwA p/\∀x∈p,∀l∈x.2,vH)
  (QE 1 qp0) 0 jie zp4
  #[J,[(e,u)],nO,rfl,rfl,PP.snoc (p:=[]) #[rfl,Å,Å,Å,Å] C p1 É p2 (by apply _<=23;let:=y.1;lia),#[λx I=>by show yG I #[by apply u.length<=12;lia,by apply dcn u<=2;let:=y.1;lia,y.2.1,by apply pcn u<=8;let:=y.2.2.2;lia],λi x I=>ϥ I],xjf y] (by
   rintro j w hj σ h ⟨f,p,U,rfl,rfl,H,H0,H1⟩
   let Z:=(Nd.mp hj).1;rw[Ji]at Z;obtain rfl:w=Á zm4:=by rw[(Xv hj).2,Int.add_comm]
   refine tJ;let#[t0,t1]:=KN (f:=f) (m:=4) Ð;let#[m,em]:=QgK t0;let#[ls,L,E,N,r3,v,M]:=Qe2 (tf f 4) m bs ws qKb 1 1 rfl 1 Ð Ð É D.1 D.2 hw.1 hw.2 Px;obtain⟨nm,B⟩:∃x,a[j+1]?=sO x:=#[a[j+1]' É,Nn ċ]
   refine#[[sO ë,HL,Cq,xk,ğ c,ž,sO (ĭ zm4)],[Qw L,À ((p++[(nm,ls)]).map JJ)],jB,L,_,_,rfl,rfl,?_]
   ·let ea:atI zm1 zm4=sO zQ4:=by rw[show BP+1=((j+1:Nat):Int) by show rfl,QT,Nt,B];rfl
    let aa:∀h,wSl (ZL a) (sO (BP+1+1)) nO h=sO (ZL qKb,h):=λh=>Qjg rfl;let X:p.length<sizeLine:=by show(zy2,QbD É)
    simp[ea,aa,em,M,X,JJ]
   ·rw[NQ]at H ⊢
    show#[H.snoc B E É N (by rw[QkA,if_neg (EK zcj)];let:=v.1;lia),H0.snoc (by intro z;rw[z]at H;show zy2;lia) #[Í,by let:=v.1;lia,v.2.1,by let:=v.2.2.2;lia],Q8 H1 (jH v)])
 let#[ae,h',el,f6,p,U,rfl,rfl,H,H0,H1]:=A;rw[Ji,NQ,show zXc+1=a.length by lia]at H;refine#[bs,ws,p,f6,D,hw,#[H.good (by intro z;show Mg z F;lia) É Y.1,H0,jIh],zT2];refine VB (o:=Qw f) (g:=[À BG]) Ç hn mH ?_ Ç gC;let M:QfR jy3 jie zp4=sO (qv8,nO,zp4):=Qgk Ç É;let ea:atI zm1 0=Cg e:=by rw[Qvn,Nt,C];rfl
 push_cast at eb ew en;rw[List.drop_one]at ep;let ab:qKd=Î [Ù e,.tup (u.map QI)]:=rfl;rw[ab]at M el;simp -implicitDefEqProofs [Jo,Qx,ZR,VI q0 S,VI q1 Q,VI q2 P,e0,e1,e2,eb,ew,en,es,ea,ep,M,el,QJ]
def Jg(h:LineOk bs ws a l):iK:=by
 cases h with
 |plain h=>cases h<;>show AF
 |«do» h=>show AF
 |blk h=>show AF
 |back h=>show AF
def UN(h:Ľ)(b:N<=M):GoodP M bs ws p:=#[h.ne,h.len,h.bal,λx a=>Nh (h.sz x a) b,h.ok,h.nd,h.dos]
def Qed(ns:Ũ)(k:Nat)(hk:k<100):∃f:Fd,∀h:MH,qc5=sO (ī,h++M6):=by
 let fin:∀(a b:Int) (g:qH7),ZM zsh []=sO (ο,[À [Á a,Á b]])->∀h:MH,qc5=sO (ī,h++[Qw (Ŷ a b g)]):=by
  intro a b g e h;unfold Zm box;let i:V1 0 zsh=sO (zsh,[]):=ϩ V1
  rw[i,Nk];show(fb,sh);simp[frR,th,res,JV,Zu,thO,ths,Qz,Qw]
 obtain⟨c,d⟩:∃c:Int,(if Ň<xc1 then ů (λp=>MF.nx [sO PF,ğ k,sO p.fst,nO] p.snd) (@om _ _ (λw=>(w,([]:MH))) (atI (zA7 W) Ň))else sO (MF.nx [sO PF,ğ k,sO oJ,nO] []))=sO (MF.nx [sO PF,ğ k,ğ c,nO] []):=by
  by_cases j:k<ns.length
  ·refine#[ns[k],?_];rw[if_pos ċ,QT,Nt,Nn j];simp
  show č #[0,by rw[if_neg ċ]]
 let m:0<=mD:=zHc;let l:mD<2147483647:=DU _ Ð
 by_cases hd:(1000000000000000000:Int)<=c
 ·refine#[#[c-1000000000000000000,mD+k,ć],xqd];show xjg
 ·refine#[#[0,mD+k,ć],xqd];show xjg
abbrev rW:A4->W
 |ã t=>Ä (t+2)
 |none=>.non
abbrev tO(x:zm3):MO:=À zBg
abbrev hB(b:Bk)(n:Nat):MH:=À (xqe++List.replicate n .non)::À qgd::xqf
def Qfg(h:pil ls (k+1)=sO p):∃q c,zfc=sO q/\cY/\stp k c q=sO p:=by
 show Ĭ q d a h;cases b:SG with
 |none=>show â b a
 |some c=>rw[b]at a;show#[q,c,d,rfl,a]
def QmD:∀{n:Nat} {p:Ag},pil ls n=sO p->∀k,k<=n->∃q,zfc=sO q:=by
 intro n
 induction n with
 |zero=>
  intro p h k hk;show#[p,by rw[Nat.le_zero.mp hk];show h]
 |succ n a=>
  intro p h k hk
  by_cases z:k=n+1
  ·show Β z #[p,h]
  ·let#[q,c,b,_]:=Qfg h;show a b k É
def Qny(ls:ŋ):∀k,(∀t∈(bks ls k).st,qE0)/\∀t,sO t∈(bks ls k).rws->qE0:=by
 intro k
 induction k with
 |zero=>
  show#[zT3,zT3]
 | succ k l=>
  show Đ e h l;simp only[bks];split
  ·rename_i c m;generalize bks ls k=b at e h;let#[g,st,i]:=b
   let hd:∀t,st.head?=sO t->t<g.length:=by
    intro t d;cases st with
    |nil=>simp at d
    |cons a r=>
     show(jo d,e _ NA)
   let j:∀f,(My4.top #[g,st,i] f).length=g.length:=λf=>by unfold My4.top;cases st<;>simp
   cases c<;>simp only[bst]
   ·refine jDd
    ·show jk6
    ·show jpe
   ·refine jDd
    ·show jk6
    ·show jpe
   ·rw[j];show jia
   ·rw[j];refine#[λt d=>e t (List.mem_of_mem_tail d),Ô t d];simp at d
    show jk7
   ·show jia
  show č #[e,h]
def QjR(h:a.length=k):(a++x::b).set k y=a++y::b:=by subst h;simp
def QfB{l:Au}(h:l[t]?=sO x):(l.map tO).set t (tO (f x))=(l.modify t f).map tO:=by
 show SI i;rw[Ig,Nt,Nt,L9];let a:=Ü h
 show Ě z t i
 ·subst z;rw[h];simp[a]
 ·simp[z]
noncomputable abbrev bS(ls:ĝ)(k:Þ):MSt:=[lh,sO ë,ž,k]
def ZZ{x:Str}:(BA/\cd x=.ei)\/(vy/\cd x=.ag)\/(Hf/\cd x=.oo)\/(zF/\cd x=.en)\/((eX/\x≠"again"/\x≠"or"/\x≠"end")/\cd x=.ot):=by
 unfold cd
 by_cases d:BA
 ·show Ğ #[d,Ò d]
 rw[Ó d]
 by_cases c:vy
 ·show Ć (΢ #[c,Ò c])
 rw[Ó c]
 by_cases b:Hf
 ·show Ć (Υ (΢ #[b,Ò b]))
 rw[Ó b]
 by_cases a:zF
 ·show Ć (Υ (jF (΢ #[a,Ò a])))
 rw[Ó a];show Ć (Υ (jF (c9 #[#[d,c,b,a],rfl])))
def GY{b:Bk}{p P:Ag}(X:SG=sO l)(U:l=x::r)(hk:k<=5000)(A:b.st.length<=5000)(B:BI ϊ k b p)(w:stp k je8 p=sO P) :
  Jr zCi (hB b (n+1))=sO (ô zCi (hB (bst k je8 b) n)):=by
 subst U;let M:atI jU Ň=sO zV7:=tx X
 let Y:jta:=rfl;rw[Y]at M;let c:∀h,Qe wIx zpa ř zCi h=sO ztj:=λh=>ϩ M
 let#[j,st,d]:=b;let o:(d.map rW).length=k:=by simp;show B.len
 let C:d.length=k:=B.len;let e:ixN (d.length+(n+1)) Ň=sO k:=QjQ É;let u:∀v,(d.map rW++List.replicate (n+1) W.non).set k v=d.map rW++v::List.replicate n W.non:=λv=>by rw[Ybi,QjR o]
 let F:qQ9:=QbD (T9 (show st.length<=5000 from A));let D:cdL vA=cd x:=rfl;rw[D]at w ⊢
 show qii s L J I H
 all_goals rw[s]at w ⊢
 show qQ8
 show qQ8
 ·cases p with
  |nil=>cases w
  | cons a N=>
   let i:=B.op;cases i with
   |@cons t _ m _ y S Q q=>
    show(jNa,QfB (f:=qQ5) g)
 ·cases p with
  |nil=>cases w
  | cons a N=>
   let i:=B.op;cases i with
   |@cons t _ m _ y S Q q=>
    show(jNa,QfB (f:=zWg k) g)
 ·cases st with
  |nil=>
   simp[hB,bst,c,L,J,I,H,rW];rw[Ybi]
  |cons t m=>simp[hB,bst,c,L,J,I,H,e,u,rW]
abbrev rv(b:Bk):A4->W
 |ã t=>match BK with
  |ã x=>À zBg
  |none=>.non
 |none=>.non
abbrev QcC(b:Bk):W:=À zGg
def QpF:pln (rv b o)=true:=by
 cases o with
 |none=>rfl
 |some t=>
  simp only[rv];split<;>rfl
@[simp]def QrM:pln (QcC b)=true:=by show JT λ_=>QpF
def QhQ(l:g=A::B::xqf)(c:zT4):∀(os:χ),(∀t,sO t∈os->t<b.trs.length)->ths xeh (os.map rW)=sO (os.map qXe):=by
 intro os
 induction os with
 |nil=>
  show xj
 | cons o os f=>
  show zt8 f t i;cases o with
  |none=>rfl
  | some t=>
   let a:=yx t;let e:BK=sO b.trs[t]:=Nn a
   let d:g[t+2]?=sO (Ï [.int b.trs[t].1,.int b.trs[t].2.1,.int b.trs[t].2.2]):=by
    rw[l];simp only[Lm,Nt,e];rfl
   let:th xeh (rW rB)=sO (rv b rB):=by
    simp only[rW,th,res,c,d,rv,e];rfl
   show Ξ
def Qrr(ls:ŋ):∀k,(bks ls k).st.length<=k:=by
 intro k
 induction k with
 |zero=>
  show Nw _
 |succ k b=>
  let a:=b;simp only[bks];split
  ·rename_i c d;cases c<;>simp[bst]<;>omega
  ·show w6 a
def QdG(ls:ĝ)(X:Bal ϊ)(z:∀l∈ls,iK)(o:xb2)(h:MH):Zc zm5 h=sO (QcC (bks ϊ ls.length),h):=by
 let C:pil ϊ ls.length=sO []:=by let:=X;unfold Bal at this;show zA
 let f:=Zd (items:=xei) (b:=QZ 3) (body:=Jr) (λn s h=>∃u,s=bS ls u/\h=hB (qKe n) (ls.length-n)/\n<=ls.length) (QE 0 ls.length) 0 xqg qi8 #[nO,rfl,zT3,NO _] (by
  rintro j w U s h ⟨u,rfl,rfl,E⟩
  let#[d,rfl]:=Xv U;rw[NQ]at *;obtain⟨l,a⟩:∃l,jD=sO l:=#[ls[j],Nn d]
  show C5 x r N z l (j4 j a);let#[p1,y]:=QmD C (j+1) d;let#[p,c,S,F,P]:=Qfg y;let i:(ls.map cdL)[j]?=sO je8:=Td a
  show â i F;let#[_,B]:=QaI S;let v:(bks ϊ j).st.length<=5000:=Nh (Qrr _ j) (Nh E o);refine#[bS ls (sO (ĭ (jz+j))),rfl,bS ls sK,hB (qKe (j+1)) (ls.length-(j+1)),jB,_,rfl,rfl,by show d];let e:=GY (n:=qN8) a N (Nh E o) v B P;rw[show qN8+1=ls.length-j by lia]at e;rw[O3];simp only[bks,i]
  show e)
 let#[L,h',q,u,rfl,rfl,_]:=f;rw[Ji,NQ,Nat.sub_self]at q;generalize D:bks ϊ ls.length=b at q ⊢;let I:=Jy (fin:=Qo5) (mi:=Qm î) (cp:=[nO]) (me:=mC .non) (σ:=[lh,nO,nO,nO]) (caps:=[]) (h:=[]) (items:=jbi) (λ_=>W.non) rfl þ (λw hw=>rfl) (vG (Nq (ź o)));rw[List.map_const',Nr]at I;let H:W9 zra xqg qi8=sO (xei,nO,hB zIc ls.length):=XY Ç (ź o)
 let:=VG (m:=Zl) (args:=zm5) (as:=zm5) (ns:=[]) (os:=[]) (os':=[]) (g:=hB b 0) (h:=h) (w:=ο) (w':=QcC b) (ϟ V1) Ç rfl (by
  simp[hB]at H q;simp -implicitDefEqProofs [Zl,Qx,ZR,I,Qo5,H,q,hB]) rfl Ç (by
  let hk:qx2:=qXf
  let Q:=QhQ (b:=b) (kp:=JV [] [] h.length) (g:=hB b 0) (A:=À (xqe++List.replicate 0 .non)) (B:=À qgd) rfl hk b.rws (by rw[<-D];show(Qny _ _).2);apply th (mO (hB b 0)) ë=_;let Y:(hB b 0)[0]?=sO (Ï (b.rws.map rW)):=by simp[hB]
  show TL;simp only[hk 0,Y,Q]
  rfl)
 apply box frN Zl _ _=_;show ϻ
def GD(P:io)(v:W)(d:MH):∀(r:Ã) (n m:Nat) (σ:MSt) (h:MH),AV n->m<r.length ->
  (∀(j:Nat) (w:W),j<m->jk8) ->
  (∀w,r[m]?=sO w->∀σ h,AV (n+m)->∃σ1,qQ/\Sj=AO d)->k6 r=AO d
 |[],n,m,σ,h,_,e,_,_=>ϥ e
 |w::r,n,0,σ,h,a,_,_,f=>by
  let#[σ1,i,g]:=f w rfl σ h a;rw[Zp,Bu,i,Nk,g];rfl
 | w::r,n,m+1,σ,h,a,e,l,f=>by
  let#[σ1,i,σ2,h2,g,o]:=l 0 w zcj rfl σ h a;rw[Zp,Bu,i,Nk,g]
  show GD (items:=items) (b:=b) (body:=body) P v d r (n+1) m σ2 h2 o ox (λj x p c σ h a=>by
   let:=l (j+1) x (DC p _) p8 σ h (sG j a);show sn) (λx c σ h a=>f x p8 σ h (sG m a))
@[simp]def Qq3:JL [QI vA] h=sO (Á (ch wO),h):=by
 show qz;let b:jta:=rfl
 show qii a e d f c
 show eH
 show eH
 show eH
 show eH
 ·simp[QK,Qx,b,e,d,c,a,ch]
@[simp]def Qub:zj1 zV7 h=sO ztj:=qTc
@[simp]def Qvi:jej (QI (x::y::r))=sO (Ù y,h):=qTc
def QcU(e:ė a=sO (q8,h'))(hi:-1000000<=i/\i<=1000000)(b:-1000000<=j/\zX4):QfR a σ h=sO (QE i zUa,nO,h'):=by
 unfold QfR;rw[e,Nk];show if_pos #[Í,ć,Í,ć]
noncomputable abbrev fS(ls:ĝ)(k:Nat)(y:Str)(a j:Þ):MSt:=[lh,ğ k,Cg y,a,j]
def Ul{ls:ĝ}{j:Nat}(h:jD=sO l):atI jU BP=sO zV6:=tx h
def UV{ls:ĝ}{k j:Nat}(v:∀l∈ls,iK)(Q:xb2)(J:∀x:Str,cd x=cd y↔x=y)(B:Beh ϊ k (cd y) j):Zo [Î jU,Á k,Ù y] h=HS:=by
 show qz;let D:j<ls.length:=gI B
 let C:=B.lt
 let N:∀d,QfR jk5 (fS ls k y zh4 d) []=sO (jC6,nO,[]):=by
  intro d;rw[QcU (h':=[]) (i:=Ň+1) (j:=ls.length) Ç É É,show((ls.length:Int)-zt9).toNat=ls.length-(k+1) by lia]
 let lines:∀i,k<i->i<=j->qbe:=λi _ H=>by
  let m:xxc:=by show Ni H D
  show jwd v m I
  show#[x,r,I,Td I]
 let f:=GD (items:=jC6) (b:=QZ 4) (body:=J4) (λn s h=>∃d,s=fS ls k y (sO (ĭ (pP (k+1+n) (k+1)))) d/\h=[]) ϲ [] (QE zt9 qm9) 0 qFh (fS ls k y zh4 nO) [] jH3 (by rw[Ji];omega) (by
  rintro i w H hw s h ⟨d,rfl,rfl⟩
  show xxe;let#[x,r,t,q]:=lines zd3 (vj Af) ċ;let E:=Ul t;let M:=JB q;rw[NQ];let p:atI jU (Ň+1+A5)=sO zV7:=by rw[show(Ň+1+A5)=((k+1+i:Nat):Int) by show rfl];show E
  refine#[jBa (sO (ĭ (pP zd3 (k+1)))),rfl,jBa (sO (ĭ (pP qT5 (k+1)))),[],?_,_,rfl,rfl]
  let c:lev ϊ qT5-jF1=jZi+ch wO:=by
   rw[show k+1+(i+1)=k+1+i+1 by show rfl,M];lia
  rw[c];generalize hL:jZi=L
  by_cases F:L=0
  ·let u:=B.no zd3 (vj Af) ċ É;let a:x≠y:=jI u (by rw[q,z]);subst F;simp[a,p]
  ·simp[F,p]) (by
  rintro w hw s h ⟨d,rfl,rfl⟩
  show xxe;let#[x,r,t,q]:=lines j C Č;let o:=B.at_;rw[q]at o;let a:x=y:=(J x).mp (Ģ o);subst a;let P:Ň+1+((j-(k+1):Nat):Int)=BP:=ć
  let E:=Ul t;rw[P]
  let A:lev ϊ (k+1+qE1)-jF1=0:=by
   rw[show k+1+qE1=j by lia,B.lv];lia
  show Β A #[_,rfl,ϩ E])
 simp -implicitDefEqProofs [Jp,Qx,ZR,N,f]
def Kc{lo c:Int}(h:(Jj lo c n)[j]?=sO w):j<n/\w=Á (lo+BP*c):=by
 let a:=Ü h;simp[Jj]at a;show SS a;unfold Jj at h;rw[Nt,Di a]at h;cases h;rfl
noncomputable abbrev hS(ls:ĝ)(k:Nat)(a j:Þ):MSt:=[lh,ğ k,a,j]
def QkW{ls:ĝ}{k j:Nat}(s:∀l∈ls,iK)(F:zPe)(hk:xq9)(B:Ahd ϊ k j):VY zq6 h=HS:=by
 show qz;let v:=B.lt;let H:∀c,Qge jij (hS ls k zh4 c) []=sO (zD2,nO,[]):=λc=>Qtp rfl rfl rfl (ź (Nh hk F))
 let lines:∀i,i<k->qbe:=λi A=>by
  let f:xxc:=by show Nf A hk
  show jwd s f C
  show#[x,r,C,Td C]
 let D:(Jj Pb (-1) k).length=k:=by simp[Jj]
 let d:=GD (items:=zD2) (b:=QZ 3) (body:=Kn) (λn o h=>∃c,o=hS ls k (jn3 n) c/\h=[]) ϲ [] (Jj Pb (-1) k) 0 xe1 (hS ls k zh4 nO) [] jH3 (by rw[D];omega) (by
  rintro i w A hw o h ⟨c,rfl,rfl⟩
  show xqi (k-1-i) ċ;let z:Ň-1+A5*-1=qSc:=Í
  show xqh;rw[NQ,z];generalize I:qSc=t at m;refine#[hS ls k (jn3 i) jKi,rfl,hS ls k (sO (ĭ (pP k xb3))) jKi,[],?_,_,rfl,rfl]
  let a:zF8-lev ϊ xb3=jWa:=by
   rw[show k-i=k-1-i+1 by lia,q,qu4];lia
  let E:=B.no (k-1-i) É É;let u:jWa≠1:=by rw[<-a,qu4];lia
  rw[a];simp[m,u]) (by
  rintro w hw o h ⟨c,rfl,rfl⟩
  show xqi j v;let z:Ň-1+((k-1-j:Nat):Int)*-1=BP:=ć
  show xqh;rw[z]
  let a:zF8-lev ϊ (k-qN9)+ch wO=1:=by
   rw[show k-qN9=j+1 by lia,q];let:=B.lv;lia
  rw[NQ]at a ⊢
  show#[_,rfl,g6 m a])
 simp[Xq,Qx,ZR,H,d]
def Qcd(x:Str):cd x=cd "end"↔zF:=by
 rcases zg1 with⟨rfl,a⟩|⟨rfl,a⟩|⟨rfl,a⟩|⟨rfl,a⟩|⟨⟨e,d,c,b⟩,a⟩<;>simp[a,QaR, *]
def Qdg(x:Str):cd x=cd "or"↔Hf:=by
 rcases zg1 with⟨rfl,a⟩|⟨rfl,a⟩|⟨rfl,a⟩|⟨rfl,a⟩|⟨⟨e,d,c,b⟩,a⟩<;>simp[a,Qoa, *]
def QiS{ls:ĝ}(a:∀l∈ls,iK)(b:zPe)(B:Beh ϊ k .en j):VH zq6 h=HS:=by
 show qz;let e:∀h,Zo [Î jU,Á k,.str "end"] h=HS:=λh=>UV a jg0 Qcd (by rw[QaR];show B);simp[Kb,Qx,e]
def QrE{ls:ĝ}(a:∀l∈ls,iK)(b:zPe)(B:Beh ϊ k .oo j):WE zq6 h=HS:=by
 show qz;let e:∀h,Zo [Î jU,Á k,.str "or"] h=HS:=λh=>UV a jg0 Qdg (by rw[Qoa];show B);simp[Ys,Qx,e]
@[simp]def Quf(hw:A6)(c:pur p=true)(a:pur d=true)(e:zXj)(hk:pur k=true):JG jF2 h=sO (Î [w,p,k,vC],h):=by
 refine jUa;simp[Kf,Qx]
@[simp]def QvI(hw:A6)(c:pur p=true)(a:pur d=true)(e:zXj)(hk:pur k=true):XX jF2 h=sO (Î [w,p,k,Ϣ],h):=by
 refine jUa;simp[Xn,Qx]
@[simp]def Qv4:CJ zC9=ů kE (atI BG i):=by unfold QJ;simp
@[simp]def Qvk:jej rG=sO (Î qE,h):=by unfold JJ;simp
@[simp]def Qup:CJ (QcC b)=ů kE (atI zGg i):=by unfold QcC;simp
@[simp]def Qu1:zj1 (U5 q) h=sO (yk q,h):=qTd
@[simp]def Qux:jej (U5 q)=sO (Ae q,h):=qTd
abbrev bk(x:Pt):Bk:=bks mI ď
abbrev ZU(p:È):W:=À zDg
@[simp]def QgG:pur Hr=true:=by
 unfold ZU;rw[QsT];show ZC _ (JT λ_=>QrM)
@[simp]def Qrl:CJ Hr=ů kE (atI zDg i):=by unfold ZU;simp
structure SV(p:È)(s:Spt):Prop where
 ex:∃x,zO6/\s.k<=ď/\(Sm->∃r,ze1=sO (("again":Str)::r))
 way:∀q∈s.way,jF3
def X3{p:È}{i:Nat}(h:AJ):atI BG A5=sO rG:=tx h
def Qff{p:È}{i:Nat}(h:AJ):atI zDg A5=sO (QcC bG):=tx h
def QaM{b:Bk}{k t:Nat}(h:b.rws[k]?=sO rB)(a:BK=sO x):atI zGg Ň=sO (Ï zBg):=by
 rw[QT,Nt,h];simp[rv,a]
def K0{p:È}{s:Spt}(c:zO6)(d:Sm\/s.k=ď):ZJ jXi h=M5 h:=by
 show(qz,ip e);let b:=X3 c;simp only at b d c
 by_cases a:head=true
 ·simp[JM,Qx,Qj,b,a]
 ·let hk:k=ď:=by show(AN d,ý z a,z)
  simp[JM,Qx,Qj,b,a,hk]
def UT{p:È}{s:Spt}(c:zO6)(e:xqj)(d:ze1=sO l):qy5=sO (QI l,h):=by
 show(uv,ip j);let f:=X3 c;let i:=Ul d;let hk:=Ü d;simp only at f e c i hk;let b:¬Ň=ď:=Í
 let a:¬k=ď:=by show NL hk
 simp[JM,Qx,Qj,f,e,i,b,a]
@[simp]def Qrh:XJ [] h=sO (Qj zKf,h):=by
 show uv;simp[JZ,Qx,Qj]
def Qfi{ns:Â}:∀{j:Nat},ns.findIdx? (·==x)=sO j->(ns.map W.str).findIdx? (λy=>eqW y Μ)=sO j:=by
 intro j h;rw[List.findIdx?_map];rw[<-h];congr 1
def Qdz{j:Nat}(f:(p.map (·.1)).findIdx? (·==nm)=sO j)(e:p.length<=100):qde:=by
 show qz
 let b:=Jy (fin:=Zv) (mi:=Qm î) (cp:=[nO]) (me:=Qe wIx î ř) (σ:=[Ő,sO zQ4]) (caps:=[]) (h:=[]) (items:=wC) js5 rfl þ (λw hw=>by
  show kv x
  simp[JJ]) (vG jfi)
 let d:(p.map JJ).map js5=(p.map (·.1)).map W.str:=by simp[JJ,Du]
 show jcc d b
 let ei:Ko (.lst ((p.map (·.1)).map W.str)) [zZ9] []=jNb:=by
  unfold Ko;show jdd;rw[qc6,qf5,Nk,Nk,Qfi f];rfl
 rw[Ei]at b ei;simp[JK,Qx,b,ei]
abbrev Wt:xS
 |0=>65330
 |i+1=>zc5
def WT(h:i+1<=q):Wt q<=eY:=by
 obtain⟨r,rfl⟩:∃r,q=r+1:=#[q-1,Í]
 apply(4-r)*702<=zc5;show IG _ ċ
def Qqf(h:i<=4):700+qu5<=Wt i:=by
 match i,h with
 |0,_=>decide
 |1,_=>decide
 |2,_=>decide
 |3,_=>decide
 |4,_=>decide
def QaE:Wt i<=65330:=by
 match i with
 |0=>show Nw _
 |i+1=>
  apply zc5<=_;let:zc5<=4*702:=IG _ T0;lia
abbrev cst(i:Nat)(l:Ln):Nat:=if jx then eY+2 else 1
abbrev rem(x:Pt)(i k:Nat):Nat:=((x.2.drop k).map (cst i)).sum
def XB(h:jZ):ϧ k=cst i l+ϧ (k+1):=by
 let#[hk,rfl]:=Nd.mp h;unfold rem;rw[EF hk,NB,Fz]
def Ug:∀{j k:Nat},k<j->k<ď->ϧ j<ϧ k:=by
 intro j
 induction j with
 |zero=>
  intro _ h _;lia
 | succ j b=>
  intro k h hk;let f:=XB (i:=i) (Nn hk);let g:1<=cst i x.2[k]:=by unfold cst;split<;>lia
  show Ě e j k
  ·subst e;lia
  ·by_cases a:j<ď
   ·let d:=b É hk;let c:=XB (i:=i) jf4;show Ni (Nh vq zkf) d
   ·let:ϧ (j+1)=0:=by unfold rem;rw[DL (Nh zke Ω)];rfl
    lia
def QlS:∀(ls:ĝ),(ls.map (cst i)).sum=ls.length+zib*(eY+1):=by
 intro ls
 induction ls with
 |nil=>
  simp[dcn]
 |cons l ls b=>
  let a:=b;unfold dcn at a ⊢;rw[NB,Fz,a,Yab,NS,cst]
  by_cases h:jx
  ·rw[Ò h,Ò h,YbM,Nat.one_mul];lia
  ·rw[Ó h,Ó h,show qTe+0=qTe from rfl];lia
def Qqe(c:ď<=700)(hd:wS<=QkA i)(hi:i<=4):ϧ k<=Wt i:=by
 let b:rem x i 0<=Wt i:=by
  unfold rem;rw[List.drop_zero,QlS];let:=Qqf hi;let:wS*(eY+1)<=qu5:=Lh hd (Nq jOi);lia
 by_cases hk:0<k
 ·by_cases a:0<ď
  ·let:=Ug (x:=x) (i:=i) hk a;show Nq (Nf this b)
  ·unfold rem;rw[DL (Nq (Ni zke hk))];simp
 ·rw[show k=0 by show EZ (N6.mp hk) Ŋ];show b
abbrev Qfp(p:È)(i k:Nat):Nat:=match p[i]? with
 |ã x=>ϧ k
 |none=>0
def Ve(h:AJ):Qfp p i k=ϧ k:=by unfold Qfp;rw[h]
abbrev RL(p:È):Prop:=∀i k,Qfp p i k<=Wt i
def Uh(b:Ϟ):RL p:=by
 intro i k;unfold Qfp;split
 ·rename_i x a;let d:=Ü a;let c:=b.len;show Qqe (b.sz x (j4 i a)) (b.dos i x a) É
 ·show NO _
abbrev U6(p:È)(w:ï):Nat:=(w.map λq=>1+zId).sum
def Yd:U6 p (w++[q])=U6 p w+(1+zId):=ϩ U6
abbrev rk(p:È)(s:Spt):Nat:=if Sm then 0 else qQa+zYb
def Yn{part k:Nat}:rk p jj=1+Qfp p part k+je9:=by unfold rk;show jR
def QkH{part k:Nat}:rk p qK=0:=by unfold rk;rw[į]
structure SW(s:Spt):Prop where
 up:∀(j:Nat) (q:jy),xej->j<=q.1
 le:s.way.length<=s.part
def QlV(b:RL p):∀(w:ï),U6 p w<=w.length*65331:=by
 intro w
 induction w with
 |nil=>
  simp[U6]
 |cons q w a=>
  let c:=a;let e:=b (q.1) zR4;let d:=xr4;unfold U6 at c ⊢;rw[NB,Fz,NS,YbM];lia
def Qo6(a:RL p)(hw:zO7):zic<=326655:=by
 unfold rk;split
 ·exact ÿ
 ·let d:=QlV a s.way;let c:=a (s.part) (s.k);let b:=xb4;let:s.way.length*65331<=4*65331:=IG _ hw;lia
structure Mono(p:È)(s:Spt)(L:Ì):Prop where
 one:∀t,L=[t]->rk p t<zic
 two:∀a b,L=[a,b]->a.k≠b.k
def Qg5:Mono p s []:=#[jn4,λ_ _ h=>ϥ h]
def KS(h:rk p t<zic):vS s [t]:=#[λu e=>by simp at e;rw[<-e];show h,λ_ _ e=>ϥ e]
def Qa3(h:a.k≠b.k):vS s [a,b]:=#[λu e=>ϥ e,λx y e=>by simp at e;rw[<-e.1,<-e.2];show h]
def Wg{part k m:Nat}(a:j3)(hk:k<ď)(b:k<m):vS jj [zG9]:=KS (by
 rw[Yn,Yn,Ve a,Ve a];let:=Ug (x:=x) (i:=part) b hk
 lia)
def UC{part k m:Nat}:vS jj [#[way,part,m,true]]:=KS (by rw[Yn,QkH];show vK jKh)
def QlY(d:RL p){part k j:Nat}(a:j3)(b:jZ)(hd:jx)(c:part+1<=j):vS jj zo1:=KS (by
 rw[Yn,Yn,Yd,Ve (p:=p) (i:=part) (k:=k) a,XB b];let g:=d (j) (0);let f:=WT c;let e:cst part l=Wt (part+1)+2:=by unfold cst;rw[if_pos hd]
 rw[Ve (k:=k+1) a];apply 1+Qfp p j 0+(je9+(1+rem x part (k+1)))<_
 lia)
def Qdj{part k:Nat}:vS qA4 [nt]:=KS (by
 rw[Yn,Yn,Yd]
 lia)
abbrev QmR(p:È)(l:Ln):A4:=if jx then(p.map (·.1)).findIdx? (·==l.getD 1 "")else nO
inductive Nx(p:È):Spt->Ì->Prop where
 |head {way:ï} {part k en:Nat} {x:Pt} {l:Ln} (hx:j3) (hl:jZ) (hc:cdL l=.ag) (B:qma):Nx p qK [mW,uH]
 |fin0 {way:ï} {part k:Nat} {x:Pt} (hw:way=[]) (hx:j3) (hl:zYc):Nx p jj []
 |fin {way r:ï} {q:jy} {part k:Nat} {x:Pt} (hw:way=r++[q]) (hx:j3) (hl:zYc):ux [nt]
 |ei {way:ï} {part k md:Nat} {x:Pt} {l:Ln} (hx:j3) (hl:jZ) (hc:cdL l=.ei) (B:Beh mI k .oo md):ux [uH,#[way,part,md+1,false]]
 |ag {way:ï} {part k:Nat} {x:Pt} {l:Ln} (hx:j3) (hl:jZ) (hc:cdL l=.ag):ux [qK]
 |oo {way:ï} {part k en:Nat} {x:Pt} {l:Ln} (hx:j3) (hl:jZ) (hc:cdL l=.oo) (B:qma):ux [mW]
 |enA {way:ï} {part k fs:Nat} {x:Pt} {l l':Ln} (hx:j3) (hl:jZ) (hc:cdL l=.en) (A:qpg) (hf:xf0) (hf':cdL l'=.ag):ux qC6
 |enE {way:ï} {part k fs:Nat} {x:Pt} {l l':Ln} (hx:j3) (hl:jZ) (hc:cdL l=.en) (A:qpg) (hf:xf0) (hf':cdL l'=.ei):ux [uH]
 |dd {way:ï} {part k j:Nat} {x:Pt} {l:Ln} (hx:j3) (hl:jZ) (hc:jbh) (hd:jx) (hj:iT):ux zo1
 |ot {way:ï} {part k:Nat} {x:Pt} {l:Ln} (hx:j3) (hl:jZ) (hc:jbh) (hd:zYa):ux [uH]
@[simp]def QtP{a:ï}:Ze xne=true:=ZC _ QkX
@[simp]def Qu3:QbL (a++[x]) nO xxf=a:=by
 unfold QbL;let c:HT.sIx zq7 0 nO=0:=HT.sIx_none _ _
 let b:HT.sIx zq7 zq7 xxf=a.length:=by
  unfold HT.sIx;simp;lia
 rw[c,b];simp
def Qrt(w:ï)(h:w≠[]):∃r q,w=r++[q]:=qsd w
abbrev Y3(p:È)(s:Spt)(L:Ì):Prop:=(∀t∈L,jc t/\SW t)/\(vS s L/\Nx p s L)/\(∀h:MH,jZj)/\∀h:MH,jX8
def Qkv{part k:Nat}(hw:∀q∈way,jF3)(b:j3)(hk:k<=ď)(a:SW #[way,part,k',c]):jc jj/\SW jj:=#[#[#[x,b,hk,Å],hw],zZa a]
def bN{L:Ì}(e:QV zG2 []=zpg):jX8:=zA1
def bP{L:Ì}(e:QO jXi []=zpg):jZj:=zA1
def bI{ls:ĝ}{L:Ì}(e:Zb jNc []=zpg):JN jNc h=zq8:=zA1
def Qc5{way:ï}{part k:Nat}(m:Ϟ)(o:jc qK)(b:SW qK):∃L,tm/\Y3 p qK L:=by
 let#[x,a,hk,z]:=o.ex;let hw:=o.way;simp only at a hk hw;let#[r,c]:=z rfl;simp only at c;let q:=NH.mpr #[part,a];show jF4 f m a g w;let e:=m.sz x q;let F:=Um (m.bal x q);rw[Nr]at F;let#[t,v,en,B,A,d]:=F.ag k (by rw[Nt,c];apply sO xef=_;rw[KC]);let n:en<ď:=gI d
 let j:=Ü c;let D:jVe:=λh=>QiS g jfi d;let s:=X3 a;let C:=Qff a;let E:lG=jKj v:=QaM B A;let i:k<en:=d.lt;refine#[[mW,uH],Å,?_,#[Qa3 (show en+1≠k+1 by show EK (DC i _)),.head a c KC d],è h,è h]
 ·show qni
  ·show Qkv hw a n b
  ·show Qkv hw a j b
 ·refine bP ?_;simp[QO,Qx,Qj,s,D]
 ·show TJ;simp[QV,Qx,Qj,QL,Uv,s,C,E]
def WO{part k:Nat}(m:Ϟ)(l:jc jj)(c:SW jj)(d:j3)(hk:k=ď):jZd:=by
 let hw:=l.way;simp only at hw;let e:=X3 d;let en:∀h,qy6=M5 h:=λh=>K0 d (.inr hk);simp only[Qj]at en
 by_cases a:way=[]
 ·subst a
  let b:∀h,VC [Qj #[[],part,k,false]] h=zsi:=λh=>by
   show uv;simp[Jx,Qx,Qj]
  simp only[Qj]at b;refine#[[],Å,Å,#[Qg5,.fin0 rfl d qtd],è h,è h]
  show jC7
 ·let#[r,q,rfl]:=Qrt way a;let#[y,i,f]:=hw q Ç
  let b:∀h,VC [Qj qA4] h=sO (À [Qj nt],h):=λh=>by
   show uv;simp[Jx,Qx,Qj]
  simp only[Qj]at b;refine#[[nt],Å,?_,#[Qdj,.fin rfl d qtd],è h,è h]
  ·intro u hu;simp at hu;subst hu;show#[#[#[y,i,by apply q.2+1<=_;show f,Å],λz a=>hw z (by simp;show Ý a)],#[λj z a=>c.up j z (by apply(r++[q])[j]?=_;show lD a),c.up r.length q Ç]]
  show jC7
def Qaz(h:LineOk bs ws b vA)(hd:x="do"):∃nm,r=[nm]/\nm∈b:=by
 subst hd;generalize a:(zKg::r)=l at h;cases h with
 |plain h=>cases h<;>simp at a
 |«do» h=>simp at a;show#[_,a,h]
 |blk h=>rcases h with rfl|rfl|rfl|rfl<;>simp at a
 |back h=>simp at a
def Qts(h:cd x=.ag):vy:=by
 rcases zg1 with⟨rfl,a⟩|⟨rfl,a⟩|⟨rfl,a⟩|⟨rfl,a⟩|⟨_,a⟩
 ·show â a h
 ·rfl
 ·show â a h
 ·show â a h
 ·show â a h
def QmL{ns:Â}(h:nm∈ns):∃j,ns.findIdx? (·==nm)=sO j/\j<ns.length:=by
 cases e:ns.findIdx? (·==nm)with
 |none=>
  rw[IP]at e;let:=e nm h;show jb
 |some j=>
  refine#[j,rfl,?_];rw[Dn]at e;show e.1
def Qmm(P:xG)(f:W->W):∀(rest a:Ã) (d:MSt),P d->(∀w∈rest,qja d c)->zq1->Zx fin items nO b Vw me rest a d h=fin (a++rest.map f) h:=by
 intro rest
 induction rest with
 |nil=>
  show zWc d;rw[Bu];simp
 |cons w rest i=>
  intro a d l e n;let m:zzi:=é n
  let#[c,p,g,o]:=e w NA d l;unfold Zx;rw[Bu,p,Nk];apply(sO (true,h)).bind _=_;rw[Nk];simp only[o,Nk];show qu6 i g (ky x j e);simp
def Qja(P:xG)(f:W->W)(hi:zCd)(g:P dm)(d:∀w∈items,qja c a)(e:nC):xv3 b=qs8:=by
 show zY3;rw[Qmm P f items [] _ g d ox];simp
set_option backward.eqns.nonrecursive false in
abbrev Qj4:W->W
 |Î xr0=>a
 |w=>w
def K5{ns:Â}(n:ns.Nodup)(h:nm∈ns.drop (m+1))(f:ns.findIdx? (·==nm)=sO j):m+1<=j:=by
 show By i g h;rw[Ybv]at g;show zj4 d e g;rw[Dn]at f;let#[c,b,_]:=f;simp at b;let l:=OY.mp n
 by_cases a:j<m+1+i
 ·show ý (Hd b e) (l j (m+1+i) c d a)
 ·show Nh Ω zke
noncomputable abbrev nS(p:È)(way:ï)(part k:Nat)(x:Pt)(y:Str):MSt:=[Ő,sO Hr,jvc,sO (Ĩ zKh),sO (.int part),ğ k,sO jRh,sO (Ĩ qE),Cg y]
noncomputable abbrev iS(way:ï)(part k:Nat)(x:Pt)(y:Str):MSt:=[sO (Ĩ qE),jvc,ğ k,Cg y]
def skS{r rest:SM}(a:qre)(b:¬y=c):Qn (zmf jBb r) rest σ h=rest σ h:=g6 a b
def skA{r rest:SM}{t:MT}(a:qre)(b:¬y=c):Qn (zmf (Jc jBb t) r) rest σ h=rest σ h:=g6 a b
def QcP{way:ï}{part k:Nat}(Q:Ϟ)(hs:jc jj)(f:SW jj)(d:j3)(g:jZ):jZd:=by
 let hw:=hs.way;simp only at hw;let hm:=NH.mpr #[part,d];show jF4 X Q d C g;let I:=Q.sz x hm;let F:=Um (Q.bal x hm);rw[Nr]at F;let c:=Ü g;let#[y,r,rfl]:=C l (j4 k g);let N:(x.2.map cdL)[k]?=sO (cd y):=Td g
 let ep:=X3 d;let er:=Qff d;let el:=Ul g;let n:∀h,qy6=sO (QI xR1,h):=λh=>UT d rfl g;simp only[Qj]at n;let nk:¬Ň=ď:=Í
 let ab:¬k=ď:=by show NL c
 let nl:qt3:=rfl;let gv:∀m,m<=ď->jc zG9/\SW zG9:=λm hm=>Qkv hw d hm f;let one:∀(u:Spt),(jc u/\SW u)->∀t∈[u],jc t/\SW t:=λu hu t ht=>by rw[ND.mp ht];show hu
 let up:y≠"do"->∀(L:Ì),(∀h,JN [Î qE,Î [.tup zKh,zRe,Á k,vC]] h=zq8)->∀h,QN [QJ p,Qj jj] h=zq8:=λhd L e h=>by
  refine bP ?_;simp[QO,Qx,Qj,ep,n,nl,hd,e]
 let H:QV [QJ p,ZU p,Qj jj] []=QjJ (QU (nS p way part k x y) []):=by
  simp[QV,Qx,Qj,QL,Uv,ep,el,nk,ab]
 let P:Zb [Î qE,Qj jj] []=QjJ (QH (iS way part k x y) []):=by
  simp[Zb,Qx,Qj,el]
 rcases ZZ (x:=y)with⟨rfl,o⟩|⟨rfl,o⟩|⟨rfl,o⟩|⟨rfl,o⟩|⟨⟨n1,n2,n3,n4⟩,o⟩
 ·let#[t,D,en,h1,h2,v]:=F.ei k zQ8;let ah:D<ď:=gI v
  let eo:∀h,WE jNd h=sO (Á D,h):=λh=>QrE C jg1 v;let S:lG=jKj D:=jbj;let J:k<D:=v.lt;refine#[[uH,#[way,part,D+1,false]],Å,?_,#[Qa3 (show k+1≠D+1 by show NL (DC J _)),.ei d g o v],cu,è h]
  ·show qni
   ·show gv _ c
   ·show gv _ ah
  ·show pK;rw[P];simp[QH,Qj,eo]
  ·show TJ;rw[H];simp[QU,Qj,er,S]
 ·refine#[[qK],Å,one _ #[#[#[x,d,by apply k<=_;show Nq c,λ_=>ĺ r g],hw],zZa f],#[UC,.ag d g o],cu,è h]
  ·show pK;rw[P,QH,Ϲ,Ϲ];simp[Qj]
  ·show TJ;rw[H,QU,Ϲ,Ϲ];simp[Qj]
 ·let#[t,fs,en,h1,h2,v]:=F.oo k zQ8;let ak:en<ď:=gI v
  let ee:jVe:=λh=>QiS C jg1 v;let S:lG=sO (Ï [jh8,Á k,zT5]):=jbj;let J:k<en:=v.lt;refine#[[mW],Å,one _ (gv _ ak),#[Wg d c (vj J),.oo d g o v],cu,è h]
  ·show pK;rw[P,QH,Ϲ];simp[Qj,ee]
  ·show TJ;rw[H,QU,Ϲ];simp[Qj,er,S]
 ·let#[t,fs,D,h1,h2,v,h4]:=F.en k zQ8;let eh:∀h,VY jNd h=sO (jh8,h):=λh=>QkW C jg1 jfg v;let S:lG=sO (Ï [jh8,Á D,Á k]):=jbj;let M:fs<ď:=by let:=v.lt;show NZ this c
  let#[z,r',hz]:=C x.2[fs] (Ff M);let A:x.2[fs]?=sO (z::r'):=by rw[Nn M,hz]
  let ef:=Ul A;let al:(x.2.map cdL)[fs]?=sO (cd z):=Td A
  by_cases ha:z="again"
  ·subst ha;refine#[qC6,Å,one _ #[#[#[x,d,by apply fs<=_;show Nq M,λ_=>ĺ r' A],hw],zZa f],#[UC,.enA d g o v A KC],cu,è h]
   ·show jNe;simp[Qj,eh,ef]
   ·show jNf;simp[Qj,er,S,ef]
  ·refine#[[uH],Å,qI3,#[qQb,.enE d g o v A (by rcases h4 with q|q<;>rw[al]at q<;>first|show N4 q|show absurd (Qts (N4 q)) ha)],cu,è h]
   ·show jNe;simp[Qj,eh,ef,ha]
   ·show jNf;simp[Qj,er,S,ef,ha]
 ·by_cases hd:y="do"
  ·let#[nm,rfl,Y]:=Qaz (X _ (j4 k g)) hd;subst hd;let#[j,hj,ai]:=QmL (L8 Y);let U:=K5 Q.nd Y hj;let E:=Q.len;let en:∀h,qde:=λh=>Qdz hj xli;let aa:j<p.length:=by simpa using ai
   let s1:way.length+1<=sizeLine:=Vd (by let:=f.le;let:=Ü d;simp only at *;lia)
   let ec:∀(σ:MSt),σ[0]?=sO CH->xb5 CN î σ=Zv ((p.map JJ).map Qj4) []:=λσ h0=>by
    refine Qja (λτ=>τ.length=2) Qj4 (by simp[Qm,Qb,h0,Vy,QJ]) rfl (λw hw τ ae=>?_) (vG xli);show kv z
    match τ,ae with
    |[a,b],_=>show#[[jf3 z,sO (Ĩ (z.2.map QI))],rfl,rfl,rfl]
   let af:(p.map JJ).map Qj4=(p.map (·.1)).map W.str:=by simp[JJ,Qj4,Du]
   let ei:Ko (.lst ((p.map (·.1)).map W.str)) [zZ9] []=jNb:=by
    unfold Ko;show jdd;rw[qc6,qf5,Nk,Nk,Qfi hj];rfl
   rw[af]at ec;rw[Ei]at ec ei;simp only[Zv]at ec;refine#[zo1,Å,one _ #[#[#[p[j],Nn aa,NO _,Å],?_],?_],#[QlY (Uh Q) d g zyj U,.dd d g o zyj (by apply(if Kw (["do",nm]:Ln)=true then _ else nO)=sO j;show(Ŕ zyj,hj))],è h,è h]
   ·show He q B
    rcases B with B|rfl
    ·show hw q B
    show č #[x,d,c]
   ·refine#[Õ i q B,by let:=f.le;show(zef,Nh (N8 this _) U)];let aj:=Ü B;simp at aj;let Z:=f.le;simp only at Z B
    by_cases hi:i<way.length
    ·rw[NF hi]at B;show f.up i q B
    ·let:i=way.length:=Í
     subst this;show yG B Z
   ·refine bP ?_;simp[QO,Qx,Qj,ep,n,nl,en,s1,U5]
   ·show TJ;rw[H,QU,Ϲ,Ϲ,Ϲ,skA rfl Ç];simp[Qj,s1,U5,ep,el];rw[ec _ rfl];simp[ei]
  ·refine#[[uH],Å,qI3,#[qQb,.ot d g o (by apply(y==zKg)=false;simpa using hd)],up hd _ jzh,è h]
   ·show pK;rw[P,QH,MN n1,MN n3,MN n2,skA rfl n4];simp[Qj]
   ·show TJ;rw[H,QU,MN n1,MN n3,MN n2,skA rfl n4,skS rfl hd];simp[Qj]
def QmY(d:Ϟ)(b:jc s)(a:SW s):jDe:=by
 show ip e;cases head with
 |true=>show Qc5 d b a
 |false=>
  show zb1 c b;simp only at c hk
  by_cases z:k=ď
  ·show WO d b a c z
  ·show QcP d b a c (Nn É)
def Va:∀(N:Nat) (l:Ê),l.Nodup->(∀x∈l,x<N)->l.length<=N
 |0,[],_,_=>Nw _
 |0,x::l,_,h=>absurd (h x NA) (N6.mpr Ŋ)
 | N+1,l,b,h=>by
  let h1:=Va N (l.erase N) (b.erase N) (λx a=>by
   let:=h x (List.mem_of_mem_erase a);let:=((b.mem_erase_iff).mp a).1
   lia)
  rw[List.length_erase]at h1;split at h1<;>lia
section
variable{N:Nat}{bs ws:Â}{p:È}
def Qdw(c:Ľ)(d:AJ)(e:l∈x.2)(hd:iT):i+1<=j/\jx:=by
 unfold QmR at hd;split at hd
 ·rename_i a;show dV (c.ok i x d l e);let#[nm,rfl,b]:=Qaz (c.ok i x d _ e) (by simpa[Kw]using a);show#[K5 c.nd b hd,a]
 ·cases hd
inductive Chn(p:È):ï->xF where
 |nil:Chn p [] 0
 |snoc {r way:ï} {i k j:Nat} {x:Pt} {l:Ln} (hw:way=r++[(i,k)]) (c:Chn p r i) (hx:AJ) (hl:jZ) (hj:iT):Chn p way j
structure Rc(p:È)(s:Spt):Prop where
 v:jc s
 w:SW s
 c:zRf s
def Qou(h:Nx p s L)(c:zRf s):∀t∈L,zRf t:=by
 cases h with
 |head=>show(He t a,qQc)
 |fin0=>show He t a
 | @fin way r q part k x hw d f=>
  intro t a;show jo a;cases c with
  |nil=>simp at hw
  |@snoc u _ i w _ o v b n g j l=>
   rw[hw]at b;let#[rfl,e]:=List.append_inj' b rfl;show Χ e n
 |ei=>show(He t a,qQc)
 |ag=>show cn
 |oo=>show cn
 |enA=>show cn
 |enE=>show cn
 |dd d f y hd m=>intro t a;show(jo a,.snoc rfl c d f m)
 |ot=>show cn
def KR(h:k<=j)(a:j<=ď):ϧ j<=ϧ k:=by
 show Ě e k j
 ·rw[e];show Nw _
 ·show Nq (Ug É É)
inductive Vl(p:È):Nat->ï->Nat->Nat->xF where
 |here {i k:Nat} {x:Pt} (hx:AJ) (hk:k<=ď):Vl p i [] i k (1+ϧ k)
 |down {i k0 j part k v:Nat} {x:Pt} {l:Ln} {w:ï} (hx:AJ) (hl:x.2[k0]?=sO l) (hj:iT) (a:fM j):Vl p i ((i,k0)::w) part k (v+(1+ϧ (k0+1)))
def Qoy(g:Ľ)(d:RL p){i part k v:Nat}(a:fM i):1<=v/\v<=1+Wt i:=by
 induction a with
 |@here i k x b hk=>
  let:=d i k;rw[Ve b]at this;lia
 |@down i c j part k v x l w b e f a o=>
  let#[n,m]:=Qdw g b (j4 c e) f;let q:=WT n;let h:=d i c;rw[Ve b,XB e,cst,Ò m]at h;lia
def QnG(D:Ľ)(M:RL p){i part k v:Nat}(a:fM i):∀{b k' v':Nat} {w':ï},Vl p i w' b k' v'->v=v'->w=w'/\part=b/\k=k':=by
 let q:∀{i d j part k v:Nat} {x:Pt} {l:Ln} {w:ï},AJ->xr1->iT->fM j->ϧ (d+1)+2<=zDd/\zDd<=ϧ d:=by
  intro i d j part k v x l w f m o a;let#[Q,P]:=Qdw D f (j4 d m) o;let S:=WT Q;let#[F,E]:=Qoy D M a;rw[XB m,cst,Ò P];lia
 let r:∀{i k d j b k' v:Nat} {x:Pt} {l:Ln} {w:ï},AJ->k<=ď->xr1->iT->Vl p j w b k' v->1+ϧ k=zDd->False:=by
  intro i k d j b k' v x l w f hk m o a e;show xjh;let B:=Ü m
  by_cases z:k<=d
  show zW1 z (Nq B)
  ·let:=KR (x:=x) (i:=i) (show d+1<=k by show DM.mp z) hk;lia
 induction a with
 | @here i k x f hk=>
  intro b k' v' w' C e;cases C with
  |@here _ _ u c n=>
   show gw;refine#[rfl,rfl,?_]
   show M7 k k'
   ·let:=Ug (x:=x) (i:=i) z (Nf z n);lia
   ·show z
   ·let:=Ug (x:=x) (i:=i) z (Nf z hk);lia
  |@down _ s J _ _ v1 u I H c g h t=>
   show(gw,(r f hk g h t e).elim)
 | @down i d j part k v x l w f m o a L=>
  intro b k' v' w' C e;cases C with
  |@here _ _ u c n=>
   show(gw,(r f n m o a e.symm).elim)
  | @down _ s J _ _ v1 u I H c g h t=>
   show(gw,xjh);let#[X,U]:=q f g h t;let A:=Ü m;let y:=Ü g
   let:d=s:=by
    show M7 d s
    show zW1 (zb4 d s) (Nq y)
    ·show z
    show zW1 (zb4 s d) (Nq A)
   subst this;show(â m g,â o h);let#[rfl,rfl,rfl]:=L t É;show v7
def Qjw(c:Chn p way i):∀{w:ï} {part k v:Nat},fM i->Vl p 0 (way++w) part k (v+je9):=by
 induction c with
 |nil=>intro w part k v a;simpa[U6]using a
 |@snoc r way i b j x l hw c d f g e=>
  intro w part k v a;let:=e (.down d f g a);rw[hw,Yd,Ve d];rw[EH,Yac,Dq];rw[show v+(U6 p r+jC8)=v+jC8+U6 p r by lia];show this
abbrev Qf1(p:È)(s:Spt):Nat:=2*(qQa+zYb)+jBc
def Qgq(t:Ľ)(r:RL p)(h:ϕ)(h':Rc p d)(e:Qf1 p s=Qf1 p d):s=d:=by
 let#[x,l,hk,_]:=h.v.ex;let#[y,f,g,_]:=h'.v.ex;let a:=Qjw h.c (.here l hk);let u:=Qjw h'.c (.here f g);unfold Qf1 at e;rw[Ve l,Ve f]at e
 let i:s.head=d.head:=by
  cases z:s.head<;>cases o:d.head<;>rw[z,o]at e<;>simp at e ⊢<;>lia
 rw[i]at e;let#[j,n,m]:=QnG t r a u É;simp only[EM]at j;show(ϖ w q k b s,ϖ A B C D d);simp only at j n m i;subst j n m i;rfl
def Qld(l:RL p)(h2:SW s)(hw:zO7):Qf1 p s<280010:=by
 let t:=l s.part s.k;let n:=xb4
 let key:∀(j:Nat) (q:jy),xej->1+zId<=1+Wt j:=λj q e=>by
  let u:=l q.1 zR4;let o:=h2.up j q e;cases j with
  |zero=>let:=xr4;apply _<=1+65330;lia
  |succ j=>let:=WT (i:=j) (q:=q.1) o;lia
 let r:zYb<=71700:=by
  unfold U6;generalize s.way=w at key hw
  match w,hw with
  |[],_=>simp
  |[a],_=>
   let f:=xxh;simp[Wt]at f ⊢;show Nq (ź f)
  |[a,b],_=>
   show zC4;simp[Wt]at f g ⊢;lia
  |[a,b,c],_=>
   show zC4;let h:=xxi;simp[Wt]at f g h ⊢;lia
  |[a,b,c,d],_=>
   show zC4;let h:=xxi;let m:=key 3 d rfl;simp[Wt]at f g h m ⊢;lia
 unfold Qf1;split<;>lia
def Quy(b:Ľ)(h:ϕ):zO7:=by
 let#[x,a,_]:=h.v.ex;let e:=Ü a;let d:=b.len;let c:=h.w.le;lia
def Qi6(f:Ľ)(d:RL p){L:Ì}(i:L.Nodup)(h:∀s∈L,ϕ):L.length<=280010:=by
 let:=Va 280010 (L.map (Qf1 p)) ?_ ?_
 ·show zA
 ·rw[List.Nodup,DE];refine FP (λ{a b} l j ne e=>ne (Qgq f d (h a l) (h b j) e)) i
 ·intro x g;show(Ŭ s c g,Qld d (h s c).w (Quy f (h s c)))
#print"-"
abbrev trS(s:Spt):Tr:=.t [.t (s.way.map λq=>.t rr),.i s.part,.i s.k,.i (if s.head then 1 else 0)]
def Qnr:∀(a:ï),(a.map U5).mapM (Yp 6)=sO (a.map λq=>Tr.t rr):=by
 intro a
 induction a with
 |nil=>
  show rfl
 |cons q a b=>
  rw[NB,Dm,b];rfl
def YA:qxh:=by
 apply Yp 8 (Ĩ [Î qVd,xv4,.int s.k,.bl s.head])=_;simp only[Yp,Dm,Ybc,Qnr];rfl
def QfL(h:trS a=trS b):a=b:=by
 let#[w,q,k,hd]:=a;show ϖ d g j c b;unfold trS at h;show(zB5 h,ϖ o n m l h)
 let u:w=d:=by
  refine Ybx (f:=λq:jy=>Tr.t rr) (Ak x y e)|>.mp o
  show(zB5 e,Prod.ext (II e.1) (II e.2))
 let s:q=g:=II n;let r:k=j:=II m;let p:hd=c:=by cases hd<;>cases c<;>simp at l ⊢
 subst u s r p;rfl
def Qev(h:nrm (Qj a)=sO (trS b)):a=b:=by
 rw[YA]at h;show QfL (N4 h)
noncomputable instance sptDec:DecidableEq Spt:=qqi
open Classical in
abbrev nx(p:È)(s:Spt):Ì:=if h:jDe then h.choose else[]
section
variable{bs ws:Â}{p:È}
def Wh(b:Ϟ)(a:ϕ):qQd/\Y3 p s qFi:=by
 let h:=QmY b a.v a.w;unfold nx;rw[dif_pos h];show h.choose_spec
def Qia(d:Ϟ)(a:ϕ)(h:qk):u0:=by
 let#[_,b,e,_]:=Wh d a;show#[(b t h).1,(b t h).2,Qou e.2 a.c t h]
noncomputable abbrev sp0:Spt:=zKf
def rc0(a:Ϟ):Rc p sp0:=by
 let b:0<p.length:=DI.mpr a.ne;show#[#[#[p[0],Nn b,NO _,Å],Å],#[Å,Nw _],.nil]
inductive Dfs(p:È):Ì->Ì->Nat->Ì->Prop where
 |done {met:Ì}:Dfs p met [] 0 met
 |skip {met st out:Ì} {s:Spt} {n:Nat} (h:jh9) (d:kX):qn0
 |add {met st out:Ì} {s:Spt} {n:Nat} (h:s∉met) (d:Dfs p zA2 zsj n out):qn0
def Qoz(o:Ϟ):∀(m:Nat) (met st:Ì),met.Nodup->(∀s∈met,ϕ)->jF5->3*(280010-met.length)+st.length<=m->∃n out,kX/\n<=m/\out.Nodup/\∀s∈out,ϕ:=by
 let f:=Uh o;intro m
 induction m with
 |zero=>
  intro met st h l x v;let:st=[]:=EC.mp (EZ (Nh vq v) Ŋ);show uY #[0,met,.done,Nw _,h,l]
 | succ m y=>
  intro met st h l x v;cases st with
  |nil=>show#[0,met,.done,NO _,h,l]
  | cons s st=>
   rw[NS]at v;let r:=x s NA;let i:∀t∈st,u0:=Η t c x
   by_cases z:jh9
   ·let#[n,out,d,w,u,f]:=y met st h l i É;show#[n+1,out,.skip z d,zZb w,u,f]
   ·let g:(met++[s]).Nodup:=by
     show jtj h B A z
    let j:∀t∈met++[s],u0:=λt c=>by
     show cM c q l t
     show P3 q r
    let few:=Qi6 o f g j;rw[NJ,Er]at few;let C:=(Wh o r).1
    let#[n,out,d,w,u,f]:=y zA2 zsj g j (λt c=>by
     show γ c q
     ·show Qia o r q
     ·show i t q) (by rw[NJ,NJ,Er];lia)
    show#[n+1,out,.add z d,zZb w,u,f]
abbrev Yk(met:Ì):ε:=met.map λs=>(Qj s,Ϣ)
def Qfc:xi1=decide qQe:=by
 induction met with
 |nil=>rfl
 | cons t met a=>
  let b:nrm zH=sO (trS t):=YA
  show Ě e t s
  ·subst e;simp[Yk,VO,NV,b]
  ·let d:¬nrm zH=sO bH:=jI e (Qev z);let:VO (Yk (t::met)) bH=VO rH bH:=by simp only[Yk,VO,NB,NV,d,decide_false]
   rw[this,a];let c:¬s=t:=xjj;simp[c]
def UO(a:jF6):U8 true BQ Φ h=sO (jn5,h):=by
 let b:r4=sO rH:=fI a
 show qse;unfold U8;rw[b,Nk,hk,Ea,Qfc];rfl
def Qm7(c:jF6)(b:s∉met)(d:met.length<sizeLine):J1 Φ BQ sS h=sO (Hg (Α qy8)):=by
 show qse;let a:xi1=false:=by rw[Qfc];show Aj b
 unfold J1;show yw c;rw[hk,Nk,if_pos (by unfold Yk;rw[Nr];show d)];unfold Uu;rw[a];simp[Yk]
@[simp]def Quh:qXg=ķ (λv=>@ob _ _ (λo=>@ob _ _ (λi=>ů (λh'=>gb h') (J1 o.1 i.1 v.1 i.2)) xhg) xhh) xv0:=yq
def Z6(e:ė t=zaf)(a:jaf=yE):jL0=zr f σ2 h2:=by
 rw[Qs,e,Nk,a];rfl
def Zz(e:ė t=zS8):jL0=cV:=qZd
def szN(h:n<=16000000):n<sizeLine:=uZ h
noncomputable abbrev qS(p:È)(a b:Þ):MSt:=[Ő,sO ë,ž,a,b]
noncomputable abbrev qH(met st:Ì):MH:=sN
def Qeu:∀(L st:Ì) (b:Þ),st.length+L.length<=16000000 ->
  ∃c,Zp items nO Ml YN qF xr5 zT6=sO (ô (qS p a c) (qH met (L.reverse++st))):=by
 intro L
 induction L with
 |nil=>
  intro st b _;show#[b,KF]
 |cons s L i=>
  intro st b h;rw[NS]at h;let#[c,e]:=i zWh su (by rw[NS];lia);show SS c;let g:qQ9:=szN (rP h);rw[NB,Yj (σ1:=qv9) (σ2:=qv9) (h2:=qH met zWh) rfl (ϟ g)];rw[e];simp
def QfM(A:Ϟ){met st out:Ì}(d:kX):∀(f:Nat) (a b:Þ),n<f->met.length+n<=15000000->st.length+2*n<=15000000->jF5->∃j i,Qs zOh X4 f xr5 zT6=sO (ô (qS p j i) xk0):=by
 induction d with
 |@done met=>
  intro f a b B _ _ _;show jqb
  show#[a,b,Zz Ç]
 |@skip met st out s n h d w=>
  show jib;let#[j,i,e]:=w f su b É É É (Η t c m);show Hq j i;let l:=qof;rw[Z6 (σ2:=qNa b) (h2:=jc0) Ç (by simp only[qH]at l;simp[l,h]),e]
 | @add met st out s n h d w=>
  show jib;let z:=m s NA;let#[I,_,_,en,_]:=Wh A z;let x:∀t∈st,u0:=Η t c m;let l:=qof;let F:=Qm7 (s:=s) (h:=jc0) (n:=0) rfl h (szN (Nq (ź (rP C))));let#[E,y]:=Qeu (p:=p) (items:=qE2) (met:=met++[s]) (a:=sO BQ) (nx p s).reverse st b (by rw[ED];lia);rw[L6]at y
  let#[j,i,e]:=w f su E É qK0 (by rw[NJ];lia) λt c=>by
   show γ c q
   ·show Qia A z q
   ·show x t q
  show Hq j i
  let D:QdN (à zyd) xr6 zF9=sO (qE2,nO,qA5):=by
   let:(Qa zyd Qc) xr6 zF9=sO ([À qph],qA5):=by simp[en]
   unfold QdN;rw[this,Nk,Yad]
  let u:J1 ë BQ sS zT6=sO zF9:=F;let H:¬jh9:=h;rw[Z6 (σ2:=qNa E) (h2:=qH zA2 zsj) Ç ?_,e];let r:J1 ë BQ sS sN=sO [Ο qy8,qC7]:=u;let v:U8 true BQ ë sN=sO (jn5,sN):=l;simp only[qS,qH]at D y;simp[v,H,r,ZR,D];rw[<-Yad];show y
#print"-"
section
variable{bs ws:Â}{p:È}
def Qh7(a:Ϟ):∃(n:Nat) (out:Ì),xxj (n+1)/\n<=840040/\qQf/\out.Nodup/\(∀s∈out,ϕ)/\jZ3:=by
 let j:=rc0 a;let#[n,out,d,c,i,f]:=Qoz a 840031 [] [sp0] EN Ç jt4 Ç;cases d with
 |skip h=>simp at h
 | @add _ _ _ _ n h d=>
  refine#[n,out,.add h d,by show qs3,Qi6 a (Uh a) i f,i,f,è u];let#[t,r,e]:=QfM a (.add h d) 20000000 nO nO (ź c) (by simp;show qs3) Px jt4;refine Qv (g:=li) Ç ?_ Ç
  let q:U1 [ο] li=sO (À ϝ,li):=by
   let:XT li ë=sO qva:=rfl;unfold U1;simp only[this,Ea];simp[Yk,Du]
  let o:∀m,Ka m []=sO (ο,[Sx]):=Λ;let l:Qs zOh X4 20000000 [Ő,sO ë,ž,nO,nO] [Sx,jn6]=sO (ô (qS p t r) xk0):=e;simp only[qH,Dl,List.reverse_nil]at l;simp[Yv,Qx,o];rw[l];simp[q]
def Qh0{N:Nat}{bs ws:Â}{p:È}(d:Ľ){x:Pt}(a:x∈p):∀l∈x.2,qC5:=by
 show By i c a;show λl b=>Jg (d.ok i x c l b)
def Ke{h:MH}(e:Sy):n<h.length:=Ü e
def Qqp{h:MH}(e:Sy):(h.set n x)[m]?=if n=m then sO x else h[m]?:=by
 rw[Ig];split
 ·show(jb5,Ŕ (Ke e))
 ·rfl
#print"-"
def WA:(H0++[o])[H0.length]?=sO o:=Å
def Yo:(H0++[o]).set H0.length a=H0++[a]:=Å
def QhJ{h:MH}(e:Sy):Ű o=h:=by
 show SI j;rw[Qqp e];split
 ·show(jb5,e.symm)
 ·rfl
def Qrm:∀(a b:Â),qbi:=by
 intro a
 induction a with
 |nil=>
  intro b _ _;show NO _
 |cons k r e=>
  show jq6 c e d;let:=Ia hk;rw[NS];lia
def Ux:∀(n:Nat) (l:Â),xm->(St.uniq l).Nodup/\(l.Nodup->St.uniq l=l):=by
 intro n
 induction n with
 |zero=>show(zlh,#[EN,Λ])
 | succ n d=>
  show zu1
  let#[q,q2]:=d u nv;rw[St.uniq_snoc];constructor
  ·split
   ·show q
   ·rename_i f;show jtj q i g f
  ·intro c;rw[Ek]at c;rw[q2 c.1,if_neg λz=>c.2.2 x z x Ç rfl]
set_option backward.eqns.nonrecursive false in
abbrev pW:yj
 |Î (Ù x::_)=>x=="pair"
 |_=>false
set_option backward.eqns.nonrecursive false in
abbrev fW:W->W
 |Î (_::_::z::_)=>z
 |_=>.non
abbrev wdL(l:Ln):SA:=match l with
 |[x,_,w,_,_]=>if x="pair"then sO w else nO
 |_=>nO
section
variable{bs ws la:Â}{p:È}
def Yw(h:eD l)(a:qNb):∃x w y z:Str,l=(zN4:Ln)/\w∈ws:=by
 cases h with
 |plain h=>
  cases h with
  |pair d hw c b=>show#[_,_,_,_,rfl,hw]
  |_=>simp[QI,pW]at a
 |«do» h=>simp[QI,pW]at a
 |blk h=>rcases h with rfl|rfl|rfl|rfl<;>simp[QI,pW]at a
 |back h=>simp[QI,pW]at a
def Qac{y:Str}(f:¬jea):qQg:=by
 unfold wdL;split
 ·rename_i a b c d e g;cases g;rw[Ó f]
 ·rfl
def Qjm(h:eD ("pair"::r)):∃x w y z:Str,r=[x,w,y,z]:=by
 let#[x,w,y,z,e,_]:=Yw h (by simp[QI,pW]);injection e with _ e
 show#[x,w,y,z,e]
def YL:∀{ls:ĝ},(∀l∈ls,∃la,eD l)->((ls.map QI).filter pW).map fW=(ls.filterMap wdL).map .str/\∀x∈ls.filterMap wdL,x∈ws:=by
 intro ls
 induction ls with
 |nil=>
  intro _;show#[rfl,Å]
 | cons l ls f=>
  intro h;let#[e,hw]:=f (Η x g h);let#[la,d]:=yx l
  by_cases a:qNb
  ·let#[x,w,y,z,rfl,i]:=Yw d a;let c:wdL zN4=sO w:=by simp[wdL]
   rw[NB,List.filter_cons_of_pos a,NB,e,List.filterMap_cons_some c];refine#[rfl,Ô q b]
   show Ņ b
   ·show i
   ·show hw q b
  ·show dV d;let c:qQg:=Qac λz=>a (by subst z;simp[QI,pW]);rw[NB,List.filter_cons_of_neg a,e,List.filterMap_cons_none c];show#[rfl,hw]
def YK{ls:ĝ}(hi:zw=sO (jbi,nO,h))(a:∀l∈ls,∃la,eD l)(e:ls.length<=1000000):QD Zv mi [nO] η zwe lY σ h=sO (À ((ls.filterMap wdL).map .str),h):=by
 let c:=U3 (fin:=Zv) (mi:=mi) (cp:=[nO]) (mt:=Qk xD5) (me:=Qe wIx î Bc) (σ:=σ) (caps:=[]) (h:=h) (items:=jbi)
  fW pW hi þ (λw hw=>by
   show(jyh,dV b);simp[QI,pW]) (λw hw f=>by
   show jyh;let#[y,w,u,z,rfl,_]:=Yw b f
   simp[QI,fW]) (vG e)
 rw[(YL a).1]at c;show c
abbrev prw(p:È):Â:=p.flatMap λx=>qTf
abbrev Wds(p:È):Â:=St.srt qNc
def QpB(e:Ľ):∀y∈prw p,y∈ws:=by
 intro y a;let#[x,b,a]:=Fi.mp a;show By i d b;show(YL (λl c=>#[_,e.ok i x d l c])).2 y a
def QaF{f:a->Ø d}:∀(l:Ø a),(∀x∈l,(f x).length<=n)->(l.flatMap f).length<=n*l.length:=by
 intro l
 induction l with
 |nil=>
  intro _;simp
 |cons x l b=>
  intro h;let:=b (Η y c h);let:=yx x;rw[Lz,NJ,NS,Nat.mul_succ];lia
def Qfs(a:Ľ):(prw p).length<=N*5:=Nh (QaF p λx b=>Nh (Le _ _) (a.sz x b)) (IL _ a.len)
def Qa9(f:Ľ)(b:AG):qqf/\v3/\(Wds p).Nodup/\sortedS zj=true:=by
 let d:qqf:=Nh (Qrm _ ws xf3 λy e=>QpB f y ((St.uniq_mem _ _ rfl y).mp e)) b;show SS d
 by_cases c:∃a:Â,a.Perm qNc/\RN
 ·show Ů a q h c;unfold Wds;rw[St.srt_eq q h];show#[by rw[q.length_eq];show d,q.nodup_iff.mpr xf3,h]
 ·unfold Wds St.srt;rw[dif_neg c];show#[Å,EN,rfl]
def YT(c:lsW h a=sO (yY b))(h1:xi9)(h2:qH9):Jb [a] h=sO (ī,qJ5):=by
 unfold Jb;simp only[c,Nk,Qk4];show Ŕ (ĺ h1 h2)
def Xp:∀{ws:Ã},Sz->∀{k:Nat},zgh=zbf:=by
 intro ws
 induction ws with
 |nil=>
  intro _ k;show rfl
 |cons a r c=>
  intro b k;show ig b;let:=c b.2 (k:=k);show zwa
def KU{ws vs:Ã}(d:Sz)(e:qt4)(f:zua)(b:wq):xci=sO (ym,h):=by
 let c:V1 0 ws=zbf:=Xp d
 let:=VG (m:=m) (args:=ws) (as:=ws) (ns:=[]) (os:=[]) (os':=[]) (g:=g) (h:=h) (w:=Ä j) (w':=ym) c Ç rfl e rfl Ç (by
  show TL
  simp[JV,f,Zi _ vs b])
 simpa[Qz]using this
noncomputable abbrev oS(p:È)(x2 x3:Þ):MSt:=[Ő,sO ë,x2,x3]
def QiR{f:a->Ø b}{l:Ø a}(h:l[j]?=sO x):(l.take (j+1)).flatMap f=(l.take j).flatMap f++f x:=zWj h
def Qgr(a:S5)(o:AG)(h:MH):qXh=jNg:=by
 let i:=a.len;let v:=Qfs a
 let e:=Zd (items:=wC) (b:=QL [2,3]) (body:=VU) (λn m h=>∃(d c:Þ),m=oS p d c/\h=[À ((prw xoa).map .str)])
  BG 0 (oS p nO nO) [ţ] #[nO,nO,rfl,rfl] (by
   rintro j w r m h ⟨d,c,rfl,rfl⟩
   rw[Nt]at r;show(Ϻ x f r,qu7 q a);refine#[zx0,rfl,zx0,_,jB,_,_,rfl,rfl];let A:=YK (ls:=x.2) (mi:=Qm å) (σ:=zx0) (h:=[À ((prw zD7).map .str)]) rfl (λl y=>#[_,a.ok j x f l y]) (Nq (ź q));let B:prw qW1=prw zD7++qTf:=QiR f;let F:qrf<=300*5:=Nh (QaF _ λx f=>Nh (Le _ _) (a.sz x (FI f))) (IL _ (by rw[Ez];show Nh xJ i));let E:=Le wdL x.2;let u:qrf+(x.2.filterMap wdL).length<=sizeLine:=Vd É;rw[B]
   simp[A,u])
 let#[t,H,s,d,c,rfl,rfl]:=e;show Mx s;let hu:=(Qa9 a o).1;let z:Jb [ο] [À zD9]=sO (yr,jL1):=qc0;refine KU (j:=1) (g:=jL1) Ç ?_ rfl Ç;let ei:∀d c (h:MH),Qm î (oS p d c) h=jNh:=AE;simp[J0,Qx,ZR,ei,s,z]
abbrev lns(p:È):ĝ:=p.flatMap (·.2)
def Qeg{N:Nat}(a:Ľ)(j:Nat):qrg<=N*5:=Nh (QaF _ λx b=>a.sz x (FI b)) (IL _ (by let:=a.len;rw[Ez];show Nh xJ this))
def QgQ(d:S5)(h:MH):VR zc6 h=sO (À qQh,h):=by
 let i:=d.len
 let c:=Zd (items:=wC) (b:=QZ 2) (body:=Xa) (λn e h=>∃(a:Þ),e=jNi/\h=[À ((lns xoa).map QI)])
  BG 0 [Ő,sO ë,nO] [ţ] #[nO,rfl,rfl] (by
   show(xb6 l e a,Ϻ x f l,qu7 r d);refine#[jF7,rfl,jF7,_,jB,_,rfl,rfl];let s:lns qW1=lns zD7++x.2:=QiR f;let t:=Qeg d j;let q:qrg+ď<=sizeLine:=Vd É;rw[s]
   simp[q,JJ])
 let#[o,u,m,a,rfl,rfl]:=c;show Mx m;refine qvb [À qQh];let ei:∀a (h:MH),Qm î jNi h=jNh:=ş;simp[Vj,Qx,ZR,ei,m]
def QdC:(lns p).filterMap wdL=prw p:=by
 unfold lns prw
 induction p with
 |nil=>rfl
 |cons x p a=>rw[Lz,List.filterMap_append,a,Lz]
def K6(a:S5)(b:AG)(h:MH):ZT zc6 h=jNg:=by
 let e:=Qeg a p.length;rw[El]at e
 let ei:Qm qlb [Ő] []=sO ((lns p).map QI,nO,[]):=by
  unfold Qm;simp[QgQ a];rfl
 let d:=YK (ls:=lns p) (bs:=bs) (ws:=ws) ei (λl c=>by
  let#[x,f,c]:=Fi.mp c;show By i n f
  show#[_,a.ok i x n l c]) É
 rw[QdC]at d;let hu:=(Qa9 a b).1;let m:=Qfs a;let o:Jb [À zD9] []=sO (ο,[À yP]):=qc0;refine qvb [À yP];simp[VP,Qx,d,o]
#print"-"
def Wz(P:io)(d:jC9):∀(r:Ã) (n:Nat) (σ:MSt) (h:MH),AV n ->
  jj2 ->
  jvd:=by
 intro r
 induction r with
 |nil=>
  show jUj
 | cons w r l=>
  intro n σ h c f;let#[σ1,p,σ2,h2,e,i]:=zM4 f
  let#[a,h',o,g]:=l (n+1) σ2 h2 i λj x m σ h c=>by
   let:=f (j+1) x (Ģ m) σ h (sG j c);show sn
  show ju3 g;rw[Zp,zE3,p,Nk]
  rcases e with e|e<;>rw[e]<;>show o
noncomputable abbrev Pl:=jy
abbrev Q7(q:Pl):W:=Î zqf
noncomputable abbrev Mn:=Str×Pl
abbrev Q0(m:Mn):W:=Î [.str m.1,Q7 m.2]
@[simp]def QvV:pur qo=true:=ϩ Q7
@[simp]def Qf0:pln qo=true:=by simp[Q7,pln,KD]
@[simp]def Qs5:pln (Q0 m)=true:=by simp[Q0,pln,KD]
def Qgp:dep qo<=3:=by simp[Q7,dep,QcE]
@[simp]def QpH{a:í}:KD xnf=true:=JT λ_=>Qs5
@[simp]def Qpt{a:í}:Ze xnf=true:=ZC _ QpH
noncomputable abbrev mS(p:È)(x3 x4 x5 x6 x7 x8 x9 x10:Þ):MSt:=[Ő,sO ë,ž,x3,x4,x5,x6,x7,x8,x9,x10]
def Gc{j:Nat}(d:ď<=300)(hD:D.length<=3000)(o:j<=10) :
  Jv zxa cB=sO (ô zxa [Qw f,À ((D++(List.range oD).map λg=>(j,g)).map Q7)]):=by
 let e:W9 jA5 zxa cB=sO (qr8,nO,cB):=XY (by simp[JJ]) É
 let a:=Jy (fin:=Zv) (mi:=W9 jA5) (cp:=vZ) (me:=qc7) (σ:=jYi) (caps:=[ğ j]) (h:=cB) (items:=qr8)
  (λw=>Î [Á j,w]) e þ (λw _=>Å) (by rw[Y7];show Vd oy)
 let i:(QE 0 oD).map (λw=>W.tup [Á j,w])=((List.range oD).map λg=>(j,g)).map Q7:=by
  unfold QE;simp[Q7,Du]
 show jcc i a;let c:D.length+oD<=sizeLine:=Vd É;simp -implicitDefEqProofs [a,c]
def QrN(p:quh)(q:jW)(e:xr7=sO (zr3,Qw d::g))(r:zua)(l:wq):zN0=sO (ym,ql d):=by
 let:=VG (m:=m) (args:=args) (as:=as) (ns:=[n]) (os:=M6) (os':=[Qw d]) (g:=g) (h:=h) (w:=zr3) (w':=ym) p Ç (jY7 q) e rfl (jqj c) (by
  show TL
  simp[JV,r,Zi _ vs l])
 show ϻ
def Qds{p:È}{f:Fd}{PL:Hk}{M:í}{way:Nat}{one q:Pl}{wd:Str}{x3 x4 x5:Þ}(hw:way<=5)(l:M.length<=200000) :
  ∃(o:Fd) (j:í),j.length<=M.length+1/\ZE jqe [Qw f,À xk1,À Ϝ]=sO (ô jqe [Qw o,À xk1,À (j.map Q0)]):=by
 let c:M.length<sizeLine:=uZ l;let app:wV++[Q0 zid]=(M++[zid]).map Q0:=Å
 let a:∀h,wEq qo zeg h=sO (ă (eqW qo zeg),h):=λh=>QtU Qf0 Qf0 zE4 zE4
 by_cases b:way=0
 ·subst b;cases e:eqW qo zeg with
  |true=>
   refine#[f,M++[zid],Å,?_];rw[<-app];simp[a,e,c,Q0]
  |false=>
   refine jk9;simp[a,e]
 ·by_cases n:way=1
  ·show HC n jk9;simp
  ·let#[s,r]:=KN (f:=f) (m:=2+way) É;let g1:yg<way:=Í
   let g2:¬(way:Int)=0:=Í
   let g3:jz<2+way:=xaj
   let i:jge+way<1000000:=Í
   let g:1<way:=Í
   by_cases d:tk f xf4=0
   ·refine#[qQi,M++[zid],Å,?_];rw[<-app];simp[g1,g2,g3,i,b,g,d,c,Q0]
   ·refine#[qQi,M,cy,?_];simp[g1,g2,g3,i,b,g,d]
def QdS{p:È}{bs ws:Â}(L:S5)(E:AG)(f:Fd):∃(M:í) (f':Fd),AC/\∀(h:MH) (n:Nat),jW->V8 [QJ p,Ä n] h=sO (À Ϝ,ql f'):=by
 let H:=L.len;let Y:=L.ne;obtain⟨Wd,ab,ae⟩:∃Wd:Â,Wd.length<=63/\∀h:MH,qXh=sO (À zxh,h):=#[_,Nh (Qa9 L E).2.1 Ð,Qgr L E]
 let B:=Zd (items:=Zy BG) (b:=QL [3,4]) (body:=Jv) (λn o h=>∃(D:Hk) (e d:Þ),o=mS p e d nO nO nO nO nO nO/\h=cB/\D.length<=301*n/\(0<n->D≠[]))
  (Zy BG) 0 qrh zt0 #[[],nO,nO,rfl,rfl,Å,Å] (by
   rintro j w z o h ⟨D,e,d,rfl,rfl,h1,h2⟩
   unfold Zy at z;rw[Nt,FH,Nt]at z;show Ϻ q X z;let#[y,hy,rfl]:=ϗ X;let#[x,hx,rfl]:=Ng.mp hy;let I:=(Nd.mp hx).1;let U:=L.sz x (NH.mpr #[j,hx]);rw[NQ]at *
   show#[jYi,rfl,_,_,Ý (Gc U É (Nq (kG (Nf I H)))),_,_,_,rfl,rfl,zV2,λ_=>Å])
 let#[aj,h',e1,D,e,d,rfl,rfl,hD,s]:=B;let aa:(Zy BG).length=p.length:=xy0
 rw[aa,NQ]at hD s;let F:0<p.length:=DI.mpr Y;let an:0<D.length:=DI.mpr (s F);let#[a0,a1]:=KN (f:=f) (m:=6) Ð;let#[c,C]:=QgK a0;let v:c<=5:=Í
 let#[b0,b1]:=KN (f:=tf f 6) (m:=D.length) É;let#[ix,Z]:=QgK b0;let J:ix<D.length:=Í
 let t:atI CI (ix:Int)=sO (Q7 D[ix]):=xo3 J
 generalize D[ix]=one at t
 let u:=Zd (items:=xy1) (b:=QZ 9) (body:=Vx) (λn o h=>∃(f:Fd) (M:í) (A a:Þ),o=mS p e d xq xr qU qV A a/\h=[Qw f,À CI,À Ϝ]/\M.length<=D.length*n)
  zxh 0 (mS p e d xq xr qU qV nO nO) [Qw (tf (tf f 6) D.length),À CI,ţ] #[_,[],nO,nO,rfl,rfl,Å] (by
   rintro j w z o h ⟨f1,M,A,a,rfl,rfl,hM⟩
   show cj z r S I;refine#[jwe,rfl,?_];let hb:D.length*j<=1505*62:=Lh É É
   let inner:=Wz (items:=D.map Q7) (src:=sO (.l 1)) (b:=QZ 10) (body:=ZE) (λn o h=>∃(f:Fd) (M':í) (a:Þ),o=jwe/\h=[Qw f,À CI,À (M'.map Q0)]/\M'.length<=M.length+n)
    (by rintro n o h ⟨f,M',a,rfl,rfl,_⟩ k hk;cases hk;rfl)
    CI 0 jue [Qw f1,À CI,À Ϝ] #[f1,M,a,rfl,rfl,cy] (by
     rintro i w hi o h ⟨f2,M2,af,rfl,rfl,am⟩
     rw[Nt]at hi;let#[q,X,rfl]:=Ng.mp hi;let al:=Ü X;let#[f3,M3,l3,P]:=Qds (p:=p) (f:=f2) (PL:=D) (M:=M2) (way:=c) (one:=one) (q:=q) (wd:=r) (x3:=e) (x4:=d) (x5:=Ar zxh) v É
     show#[mS p e d xq xr qU qV zU6 qFj,rfl,_,_,Ý P,f3,M3,_,rfl,rfl,Í])
   let#[ai,h2,e2,f2,M2,Q,rfl,rfl,l2]:=inner;rw[Nr,NQ]at l2;refine#[_,_,jB,f2,M2,Cg r,Q,rfl,rfl,by rw[Nat.mul_add];lia]
   let ei:∀a (h:MH),h[1]?=sO (Ï CI)->Qm ó jue h=sO (D.map Q7,sO (.l 1),h):=λ_ h he=>by
    unfold Qm Qb;simp[Vy,he]
   apply ZR va (QZ 10) ZE _ _=_;unfold ZR;rw[ei _ _ rfl,Nk]
   show e2)
 let#[ah,h3,P,f3,M,A,a,rfl,rfl,hM]:=u;rw[Nr,NQ]at hM;let hb:D.length*Wd.length<=1505*63:=Lh É ab;refine#[M,f3,Í,zT2];refine QrN (j:=1) (g:=[À CI,À Ϝ]) (as:=[QJ p,ο]) (by simp[V1,QJ]) hn ?_ rfl Qpt
 let ei:UZ P4 qrh zt0=sO (Zy BG,nO,zt0):=by
  unfold UZ;simp[QJ]
 let g1:jz<D.length:=by show Ov b0 b1
 let g2:(D.length:Int)<1000000:=Í
 let et:=QaK (f:=tf f 6) (m:=D.length) (h:=[Qw (tf f 6),À CI]) (n:=0) g1 g2 rfl;let N:∀A a (h:MH),Qm ť (mS p e d xq xr qU qV A a) h=sO (xy1,nO,h):=AE;simp only[mS]at ei e1 N P;simp[JI,Qx,ZR,ei,e1,ae,C,Z,et,t,N,P]
def QhU{mt:MT}{h:MH}(e:Bo)(P:xG)(g:yj)(f:W->W):∀(rest a:Ã) (d:MSt),P d->(∀w∈rest,jvf c (g w=true->qD3))->zq1->Zx fin items src b mt me rest a d h=qD4 g:=by
 intro rest
 induction rest with
 |nil=>
  show zWc d;rw[Ò e];simp
 | cons w rest n=>
  intro a d o j q;let p:zzi:=é q
  let#[c,t,m,s,r]:=j w NA d o;unfold Zx;rw[Ò e,t,Nk,s,Nk];cases l:g w with
  |true=>
   simp only[r l,Nk];show qu6 n m jMg;simp[l]
  |false=>
   simp only;rw[n a c m jMg É];simp[l]
def Ws{b:MG}{mt:MT}{me:ME}{σ:MSt}{h:MH}(P:xG)(g:yj)(f:W->W)(hi:zw=sO (items,src,h))(c:Bo)(j:P dm)(e:∀w∈items,jvf a (g w=true->me a h=sO qr3))(i:nC):zLb b=qH6 g:=by
 unfold QD;rw[hi,Nk,QhU c P g f items [] _ j e (Ģ i)];simp
abbrev mdS(p:È)(s:Spt):SA:=if Sm then nO else(p[s.part]?).bind λx=>(x.2[s.k]?).bind wdL
abbrev XU:SA->W
 |ã w=>Ù w
 |none=>.non
@[simp]def QwV:pur Ht=true:=by cases o<;>simp[XU]
abbrev gn(M:í)(s:Spt):Â:=if Sm then[]else(M.filter λm=>m.2=df).map (·.1)
def Qms{p:È}{N:Nat}{bs ws:Â}{s:Spt}{h:MH}(v:Ľ)(u:jc s):qbf:=by
 show(ip q,zb1 i u);simp only at i hk;let j:=X3 i;show uv;unfold mdS;simp only[i,Nk];cases head with
 |true=>simp[Zt,Qx,Qj,j,XU]
 | false=>
  by_cases n:k=ď
  ·let A:zYc:=CS n
   let t:¬k<ď:=by show N6.mpr (İ n)
   simp[Zt,Qx,Qj,j,A,t,XU]
  ·let e:k<ď:=Í
   obtain⟨l,d⟩:∃l,jZ:=#[x.2[k],Nn e]
   let f:=v.ok part x i l (j4 k d);show dV f;let o:=Ul d;rw[d,Nk]
   by_cases m:jea
   ·show jH4 m f z
    simp[Zt,Qx,Qj,j,e,o,z,wdL,XU]
   ·let:=Qac (r:=r) m;simp[Zt,Qx,Qj,j,e,o,m,this,XU]
def Qgu(l:AC):jT3:=by
 show(ip c,uv);unfold gn;cases head with
 |true=>simp[Z7,Qx,Qj]
 | false=>
  let e:=Ws (fin:=Zv) (mi:=Qm î) (cp:=xq2) (b:=wX) (mt:=Qk jKa) (me:=Qb 0) (σ:=[uc,zCj]) (h:=[]) (items:=wV) (src:=nO)
   (λi=>∃a b,i=[a,b,zCj]) jpb Qj4 rfl Ty AF (λw hw i #[a,b,f]=>by
    subst f;show kM m x;refine#[[jf3 m,sO iR,zCj],rfl,AF,?_,λ_=>by simp[Q0,Qj4]];let r:∀h,wEq iR (Ĩ [zRe,Á k]) h=sO (ă (eqW iR zrc),h):=λh=>QtU Qf0 (Qf0 (q:=n6)) zE4 (T9 (Qgp (q:=n6)))
    simp[Qj,Q0,QbL,HT.sIx,r]) (vG xlj)
  let p:((M.map Q0).filter jpb).map Qj4=((M.filter λm=>qNd).map (·.1)).map W.str:=by
   clear e l
   induction M with
   |nil=>rfl
   | cons m M d=>
    let o:eqW iR zrc=decide (m.2=n6):=by
     show Ů w a b m;rw[F4];simp[Q7,Qr3,Qro,Qtr,Qwp,QsZ,Qp8,Qti];lia
    rw[NB,DP,DP];simp only[Q0,o]at d ⊢
    by_cases j:qNd
    ·simp[j]at d ⊢;show#[rfl,d]
    ·simp[j]at d ⊢;show d
  show jcc p e;simp[Z7,Qx,Qj]at e ⊢;rw[e];rfl
section
variable{ι κ:Type}[xl κ]
abbrev wa(M:xg2)(q:κ):Ø ι:=(M.filter λm=>m.2=q).map (·.1)
def Wo{q:κ}:wa (M++[m]) q=if m.2=q then zie++[m.1]else zie:=by
 unfold wa;rw[F7,Ee]
 by_cases h:m.2=q<;>simp[h]
structure WB(M:xg2)(G:zPf)(Ls:List (HF ι)):Prop where
 nk:(G.map (·.1)).Nodup
 ni:(G.map (·.2)).Nodup
 at_:∀g∈G,zM8 M
 all:∀m∈M,m.2∈G.map (·.1)
def Qa6{G:zPf}(b:(G.map (·.1)).Nodup)(a:g∈G)(c:g.1=q):jvg=sO g:=by
 induction G with
 |nil=>cases a
 |cons x G d=>
  rw[NB,Eo]at b;rw[NV]
  show Ņ a
  ·simp[c]
  ·let:¬x.1=q:=λz=>b.1 (by rw[z,<-c];show EO a);show(xb7,d b.2 a)
def YW{G:zPf}(h:q∉G.map (·.1)):jvg=nO:=by
 rw[Dr];intro g a;show Hm h (by rw[<-z];show EO a)
def QdW(I:BV M){q:κ}(h:q∉G.map (·.1)):zie=[]:=by
 unfold wa;rw[Og,Ic];intro m a;show Hm h (by rw[<-z];show I.all m a)
def WB.step(I:BV M)(m:ι×κ) :
  (∃g∈G,g.1=m.2/\g.2<Ls.length/\WB (M++[m]) G ((Ls++[[]]).set g.2 (wa M m.2++[m.1]))/\(Ls++[[]])[g.2]?=sO (wa M m.2)) \/
  (m.2∉G.map (·.1)/\WB (M++[m]) cb ((Ls++[[]]).set Ls.length [m.1])):=by
 by_cases hk:m.2∈G.map (·.1)
 ·let#[g,n,q]:=NC.mp hk;let t:=I.at_ g n;let r:=Ü t;show Cc #[g,n,q,r,#[I.nk,I.ni,Γ f,Γ f],by rw[NF r,t,q]]
  ·let d:=I.at_ x f;let c:=Ü d
   show Ě e x g
   ·subst e;rw[Dh (by simp;show vK c),Wo,if_pos q.symm,q]
   ·let ne:g.2≠x.2:=λz=>e (by
     show qk6;let:=(Iy (i:=i) (j:=j) (h₀:=é w) (h₁:=é v) I.ni).mp (by simp[ei,u,z]);show qKf)
    let l:¬m.2=x.1:=λz=>e (by
     show qk6;let:=(Iy (i:=i) (j:=j) (h₀:=é w) (h₁:=é v) I.nk).mp (by simp[ei,u,<-z,q]);show qKf)
    rw[EW ne,NF c,d,Wo,Ó l]
  ·show γ f h
   ·show I.all x h
   ·rw[ĸ h];show hk
 ·show jJ #[hk,#[?_,?_,Γ f,Γ f]]
  ·rw[Ee,Ek];show#[I.nk,Å,λa y b s=>by show jo s;show λz=>hk (S6 z y)]
  ·rw[Ee,Ek];refine#[I.ni,Å,Ł a y b s];show(jo s,Ŭ g n y);let:=Ü (I.at_ g n);show NL this
  ·show γ f h
   ·let d:=I.at_ x h;let c:=Ü d;let l:¬m.2=x.1:=λz=>hk (by rw[z];show EO h);rw[EW (EK c),NF c,d,Wo,Ó l]
   ·rw[ĸ h];apply((Ls++[[]]).set Ls.length [m.1])[Ls.length]?=sO (wa (M++[m]) m.2);rw[Dh Ç,Wo,į,QdW I hk];rfl
  ·show γ f h
   ·let:=I.all x h;show(zef,.inl this)
   ·rw[ĸ h];simp
#print"-"
section
variable{bs ws:Â}{p:È}
def Qbt{met st out:Ì}(d:kX):(∀s∈met,∀t∈vD,t∈met\/t∈st)->∀s∈out,∀t∈vD,Ma:=by
 induction d with
 |done=>intro h s c t a;rcases h s c t a with z|z;show z;cases z
 | @skip met st out s n h d b=>
  show qQj
  show xk3
  ·show Ý z
  ·show Ņ z
   ·show Ý h
   ·show ê z
 | @add met st out s n h d b=>
  show qQj
  rcases NI.mp hu with hu|hu
  ·show xk3
   ·show Ý wM
   ·show Ņ z
    ·show Ý Ç
    ·show ê ja2
  ·rw[ND.mp hu]at a;show ê zZj
def QnQ{met st out:Ì}(d:kX):(∀s∈met,TK)/\∀s∈st,TK:=by
 induction d with
 |done=>show#[xW,λ_ h=>AS h]
 |@skip met st out s n h d b=>show#[b.1,λt a=>by show(Ņ a,b.1 _ h,b.2 t a)]
 |@add met st out s n h d b=>show#[λt a=>b.1 t zZj,λt a=>by show(Ņ a,b.1 _ Ç,b.2 t (NY _ a))]
structure Al(p:È)(out:Ì):Prop where
 few:qQf
 pos:eZ
 nd:out.Nodup
 rc:∀s∈out,ϕ
 cl:∀s∈out,∀t∈vD,Ma
 s:jZ3
 nx2:∀s∈out,qQd/\(∀h:MH,qy7=jL2)/\∀h:MH,Jh zG2 h=jL2
abbrev ixS(out:Ì)(t:Spt):Nat:=zW2
abbrev sq(out:Ì)(q:Nat):Spt:=out.getD q sp0
def WS(h:A0):out[q]?=sO jl:=by
 unfold sq;rw[EB,Nn h];rfl
def Kh(h:A0):sq out q∈out:=NH.mpr #[q,WS h]
def W3(h:Ma):Te<out.length:=Ox h
abbrev Ed(p:È)(out:Ì)(q:Nat):ï:=(nx p jl).map λt=>(q,Te)
abbrev Eg(p:È)(out:Ì)(n:Nat):ï:=(List.range n).flatMap (Ed p out)
def Qky:Eg p out (n+1)=Eg p out n++Ed p out n:=by
 unfold Eg;rw[IR];simp
def UA(A:ù)(h:xk4):(Eg p out n).length<=2*n:=by
 let:=QaF (f:=Ed p out) (n:=2) (List.range n) λq a=>by
  unfold Ed;rw[Nr];show(A.nx2 _ (Kh (by let:=jgf;show Nf this h))).1
 rwa[FE]at this
def QaH[xl κ]{M:List (a×κ)}:xb8<=M.length:=by show qXi
abbrev QR(q:Nat):W:=Á q
@[simp]def QuJ{l:Ê}:Ze dW=true:=by
 induction l with
 |nil=>rfl
 |cons n l a=>simp[QR];show a
def QvN{q:Nat}(h:A0):qoe=sO zV8:=xra h
#print"-"
abbrev trQ(q:Pl):Tr:=.t rr
@[simp]def WU:nrm qo=sO wu:=by
 apply Yp 8 (Ĩ zqf)=_;rfl
def WZ(h:trQ a=trQ b):a=b:=by
 unfold trQ at h;injection h with h
 simp at h;show Prod.ext (by let:=h.1;lia) (by let:=h.2;lia)
noncomputable abbrev Gs:=List (Pl×Nat)
abbrev dG(G:Gs):ε:=u9 G g (Q7 g.1,Ä zg2)
abbrev hG(G:Gs)(Ls:List zah):MH:=Ο Hl::Ls.map λl=>À Cj
def Qlu:VO Hl wu=(G.find? zs4).map λg=>Ä zg2:=by
 unfold VO dG
 induction G with
 |nil=>rfl
 |cons g G a=>
  show jIi
  ·let:¬trQ g.1=trQ q:=jI h (WZ z);simp only[WU,Ij,this,h,decide_false];show a
noncomputable abbrev yS(mn:W)(x2 x3:Þ):MSt:=[sO mn,sO ë,x2,x3]
def QcI:qy9=zJ1:=xy2
def QfN:zN5=dL:=xy2
def QiK:(hG G Ls).set (i+1) (Ï (zd l++[Ù w]))=hG G (Ls.set i (l++[w])):=by
 simp[hG,Yae]
def Qlx(h:za9):(hG G Ls)[i+1]?=sO (Ï Cj):=by
 show zEc Cj
def QbR(I:BV M)(m:Mn)(f:G.length<=100000)(y:AC) :
  ∃p b,WB (M++[m]) p b/\p.length<=zXa/\b.length=dL/\ZF qac wD=sO (ô qac (hG p b)):=by
 show zGh t M (Nh (by show qXi) y);let A:∀G Ls,qjb:=ş;let c:∀G Ls (h:0<zN5),(hG G Ls)[0]=Ο Hl:=AE;let r:∀G Ls,XT wD ë=sO Hl:=ş
 let B:Xk [] wD=sO (Ä b5,zJ1):=by
  apply sO (W.ref zN5,qy9)=_;rw[QfN,QcI]
 rcases I.step m with⟨g,z,v,x,o,e⟩|⟨hk,o⟩
 ·refine#[G,_,o,cy,Å,?_]
  let j:jrj=sO (Ä zg2,zJ1):=by
   unfold Qm0;simp only[r,WU,Nk,Qlu,Qa6 I.nk z v,Ea]
  let d:=Qlx (G:=G) e;let a:=QiK (G:=G) (Ls:=SE) (i:=g.2) (l:=wa M m.2) (w:=m.1);simp[QfN,QcI,j,d,a,t,tyW,c]
 ·refine#[_,_,o,Å,Å,?_];let u:(dG G).length<sizeLine:=Ni (by simpa[dG]using f) Ð
  let j:jrj=sO (Ä b5,hG cb yR):=by
   unfold Qm0;simp only[r,WU,Nk,Qlu,YW hk,Yan];unfold J1;simp only[A,WU,Nk];rw[Ò u]
   let:Uu Hl (trQ m.2) iR (ú b5)=dG cb:=by
    unfold Uu;rw[Qlu,YW hk];simp[dG]
   show Ξ
  let d:=Qlx (G:=bV m) (Ls:=SE) (i:=Ls.length) (l:=[]) Ç;let a:=QiK (G:=bV m) (Ls:=SE) (i:=Ls.length) (l:=[]) (w:=m.1);simp only[Dl,Dq]at a d;let s:zYe:=ÿ
  let n:∀(h:dL<(hG cb yR).length),(hG cb yR)[dL]=ţ:=da d;simp[QfN,QcI,j,n,a,s,tyW,c]
abbrev dP(M:í)(P:Hk):ε:=u9 P q (Q7 q,À zIe)
def Qsm(a:∀m∈M,zh1):(VO SF wu).getD zcc=À zIe:=by
 by_cases h:q∈P
 ·let:VO SF wu=sO (Ï zIe):=by
   clear a;unfold VO dP
   induction P with
   |nil=>cases h
   |cons x P b=>
    rw[NB,NV]
    show qG e x q
    ·let:¬trQ x=trQ q:=jI e (WZ z);simp only[WU,Ij,this,decide_false];show b zxe
  show Ξ
 ·let f:zie=[]:=by
   show qf8 m
  let:VO SF wu=nO:=by
   unfold VO dP;rw[Fj,Dr];show cI d c;show Hm h (by rw[<-WZ z];show c)
  rw[this,f];rfl
def G9(t:AC):∃P:Hk,(∀m∈M,zh1)/\∀h:MH,J8 [À Ϝ] h=sO (ī,h++[Ο SF]):=by
 let d:=Zd (items:=wV) (b:=QL [2,3]) (body:=ZF) (λn r h=>∃(G:Gs) (Ls:List zah) (p o:Þ),r=yS o5 p o/\h=jhb/\BV (M.take n)/\xt0)
  Ϝ 0 qh4 (hG [] []) #[[],[],nO,nO,rfl,rfl,jDg,Nw _] (by
   rintro j w u r h ⟨G,Ls,p,o,rfl,rfl,I,a⟩
   show cj u m s f;let#[c,q,E,z,_,e]:=QbR (mn:=À Ϝ) I m (Nq (Nf (Ni a f) t)) (by rw[Ez];show Nq (Nf (Ni qDi f) t));refine#[yS o5 (zHe m) xl9,rfl,_,_,Ý e,c,q,_,_,rfl,rfl,?_,SQ z (N8 a _)];rw[Iu,s]
   show E)
 let#[y,H,l,G,Ls,p,o,rfl,rfl,I,a]:=d;show jY2;apply box frR QW _ _=_;show(qA6,fb);let ei:∀(h:MH),Qm î qh4 h=sO (wV,nO,h):=Λ
 let e:QW [À Ϝ] []=sO (ο,jhb):=by
  simp only[yS,hG]at l ei;simp[dG]at l;simp[QW,Qx,ZR,Ka,ei,l,hG,dG]
 show sh
 let key:∀(c:Gs),(∀g∈c,zM8 M)->ths zA6 ((dG c).map (·.2))=sO ((dP M (c.map (·.1))).map (·.2)):=by
  intro c
  induction c with
  |nil=>intro _;rfl
  | cons g c i=>
   intro v;let:=i (Η x A v);unfold dG dP at this ⊢;rw[NB,NB,ths,this];let D:=Qlx (G:=G) (v g NA)
   let:th zA6 (ú zg2)=sO (Ï qjc):=by
    show(zAe B (res (zaa [0]) wD 2) qjc,TL);simp[JV,D,B]
   show Ξ
 let k:=xy3
 let hd:thO zA6 (Α Hl)=sO (.dct (dP M (G.map (·.1)))):=by
  show xf5
  let:((dG G).map (·.1)).zip ((dP M (G.map (·.1))).map (·.2))=dP M (G.map (·.1)):=by
   unfold dG dP;clear k key e l ei I a
   induction G with
   |nil=>rfl
   |cons g G i=>show(BW i,i)
  simp[this]
 let C:qjb:=rfl;show qA7 C
section
variable{bs ws:Â}{p:È}{out:Ì}
abbrev plW(s:Spt):W:=if Sm then .non else Q7 df
@[simp]def Qu8:pur (plW s)=true:=by unfold plW;split<;>simp
def WW:ZH qR0 h=sO (plW s,h):=by
 show(uv,ip a);cases head<;>simp[VQ,Qx,Qj,plW,Q7]
abbrev lnO(p:È)(s:Spt):Option Ln:=if Sm then nO else(p[s.part]?).bind λx=>ze1
abbrev lnW(p:È)(s:Spt):W:=match lnO p s with
 |ã l=>QI l
 |none=>.non
@[simp]def QuN:pur (lnW p s)=true:=by unfold lnW;split<;>simp
def QtO:C4 s=(lnO p s).bind wdL:=by
 unfold mdS lnO;show zc8
 ·cases p[s.part]?<;>rfl
def Qkd(d:jc s):qy5=sO (lnW p s,h):=by
 show zb1 a d;unfold lnW lnO;rw[a,Nk];cases c:s.head with
 |true=>show K0 a (Ş c)
 |false=>
  by_cases b:s.k=ď
  ·rw[NX (İ b)];show K0 a (Ė b)
  ·let e:ze1=sO (x.2[s.k]' É):=Nn É;rw[e];show UT a c e
def Kg(n:Ľ)(m:jc s):Je [lnW p s] h=sO (XU rL,h):=by
 show(uv,zb1 j m);rw[QtO];unfold lnW;cases e:lnO p s with
 |none=>simp[ZN,Qx,XU]
 | some l=>
  unfold lnO at e;show d7 e
  ·rw[j,Nk]at e;let d:=n.ok _ x j l (NH.mpr ja7);show dV d;rw[Nk];let i:qt3:=rfl
   by_cases f:jea
   ·show jH4 f d o
    simp[ZN,Qx,i,o,wdL,XU]
   ·let:=Qac (r:=r) f;simp[ZN,Qx,i,f,this,XU]
abbrev nm(Z:zO8):ε:=u9 Z q (zPg,Ae q)
def QjH:VO (nm Z) bH=(Z.find? (uC q s)).map λq=>Ae q:=by
 unfold VO nm
 induction Z with
 |nil=>rfl
 |cons q Z a=>
  show i5 e q s
  ·simp[e,YA]
  ·let:¬xrb=trS s:=jI e (QfL z);simp only[YA,Ij,this,e,decide_false];show a
def QtN:∀(r a:zO8),((a++r).map (·.1)).Nodup->mgQ (nm a) (r.map qd1)=nm (a++r):=by
 intro r
 induction r with
 |nil=>
  intro a _;simp[mgQ]
 | cons q r c=>
  intro a b
  let d:q.1∉a.map (·.1):=λz=>by
   rw[Ee,Ek]at b;show b.2.2 _ z q.1 Ç rfl
  let e:Uu (nm a) (trS q.1) (Qj q.1) xrc=nm xm0:=by
   unfold Uu;rw[QjH,YW d];simp[nm]
  unfold mgQ;rw[NB,LY,e];let:=c xm0 p9;unfold mgQ at this;rw[this];simp
def Qhv:∀(out:Ì) (k:Nat),Ma->((out.zipIdx k).find? (uC q t))=sO (t,k+Te):=by
 intro out
 induction out with
 |nil=>
  intro _ h;cases h
 | cons s out a=>
  intro k h;unfold ixS;rw[List.zipIdx_cons,NV,List.idxOf_cons]
  show qG e s t
  ·let b:(s==t)=false:=é e
   let:=a (k+1) zxe;simp only[e,decide_false,this,b,cond_false];unfold ixS;rw[show k+1+zW2=k+(zW2+1) by show zf5]
def QnY:∀(Z:zO8),prQ (Z.map zn6)=sO (Z.map qd1):=by
 intro Z
 induction Z with
 |nil=>
  show rfl
 |cons q Z a=>
  rw[NB,prQ,YA,Nk,a];rfl
def QoD(b:h[n]?=sO (Α fq))(a:Ma):J3 Φ zH h=sO (Á zT7,h):=by
 unfold J3;let:r4=sO fq:=fI b
 rw[this,Nk,YA,Nk,QjH,Qhv out 0 a];simp
def QhX(a:Ma):sq out zT7=t:=by
 let b:=WS Pg;rw[Nn Pg]at b;let c:out[Te]' Pg=t:=Yby Pg;show(N4 b).symm.trans c
abbrev stW(p:È)(out:Ì)(e:jy):W:=Î [yk e,qhe,Ae e,plW jU7]
@[simp]def Qr7{l:ï}:Ze (l.map se)=true:=by
 induction l with
 |nil=>rfl
 |cons e l a=>simp[stW];show a
noncomputable abbrev tS(p:È)(out:Ì)(x4 x5 x6 x7:Þ):MSt:=[Ő,HK,sO ë,ž,x4,x5,x6,x7]
noncomputable abbrev tH(p:È)(out:Ì)(L:ï):MH:=[Ο fq,À (L.map se)]
set_option backward.eqns.nonrecursive false in
abbrev swp:W->W
 |Î [a,b]=>Î [b,a]
 |w=>w
def W5(A:ù)(h:MH):Z0 zc6 h=sO (À sI,h):=by
 show zg8;let f:(Zy ϝ).length=out.length:=xy0
 let e0:∀c:MSt,c[1]?=sO (sO (Ï ϝ))->xb5 zDe (jh (ϳ P4)) c=sO (jj3,[]):=by
  intro c D
  let x:ZV ϛ c []=sO (Zy ϝ,nO,[]):=by
   unfold ZV Qa Qb;rw[D];rfl
  let Z:=Qja (fin:=Zv) (mi:=ZV ϛ) (cp:=zSj) (b:=wX) (me:=qc7) (σ:=c) (h:=[]) (items:=Zy ϝ) (λB=>B.length=2) swp x rfl (λw hw B C=>by
   unfold Zy at hw;show kv q
   match B,C with
   |[a,b],_=>show#[[sO xrc,MK],rfl,rfl,by simp[swp]]) (by rw[f];show Vd (Nq qri))
  rw[Z]
  let:(Zy ϝ).map swp=out.zipIdx.map zn6:=by
   unfold Zy;rw[List.zipIdx_map];simp[swp,Du]
  show Ξ
 let e1:VJ [jj3] []=sO (ο,[Ο fq]):=by
  unfold VJ;simp only[lsW,Nk,QnY];show Ŕ (by rw[Nr,F5];show Nq qri);let:=QtN out.zipIdx [] (by rw[Dq,List.zipIdx_map_fst];show A.nd);rw[show nm []=[]from rfl]at this;show Ξ
 let r:=Zd (items:=Zy ϝ) (b:=QL [4,5]) (body:=Xy) (λn c h=>∃(o m l d:Þ),c=tS p out o m l d/\h=MY (Eg p out n))
  (Zy ϝ) 0 (tS p out nO nO nO nO) (tH p out []) qA8 (by
   rintro j w z c h ⟨o,m,l,d,rfl,rfl⟩
   rw[NQ]at *;let e:=Ü z;rw[f]at e;unfold Zy at z;rw[Nt,FH,Nt,WS e]at z;obtain rfl:W.tup [xnd,Qj pL]=w:=é z
   refine#[tS p out sK zGj l d,rfl,?_];let E:=Kh e;let#[n2,en,_]:=A.nx2 _ E
   let inner:=Zd (items:=qqg) (b:=QZ 7) (body:=Xx) (λn c h=>∃(d:Þ),c=oR d/\h=MY (sg n))
    ((nx p pL).map Qj) 0 jS4 qnj #[d,rfl,Å] (by
     rintro i w x c h ⟨H,rfl,rfl⟩
     rw[NQ,Nt]at *;show Ϻ t I x;let u:=A.cl _ E t (j4 i I);refine#[oR (sO zH),rfl,oR (sO zH),_,jB,_,rfl,rfl];let U:(sg (i+1))=(sg i)++[(j,Te)]:=zWj I
     rw[U];let S:=UA A (n:=j) jfh;generalize hL:(sg i)=L;let F:L.length<=600000:=by rw[<-hL,NJ,Nr,Ez];lia
     let N:iq:=uZ F;let en:=QoD (h:=MY L) (n:=0) rfl u;let X:=QhX u
     simp[en,WW,N,stW,X])
   let#[J,h2,y,H,rfl,rfl]:=inner;show Mx y;refine#[oR H,MY (Eg p out (j+1)),jB,_,_,_,_,rfl,rfl];rw[Qky]
   let ei:Qm qb4 jS4 qnj=sO (qqg,nO,MY qC8):=by
    unfold Qm;simp[en];rfl
   let Y:∀h,ZJ [QJ p,Qj pL] h=sO (lnW p pL,h):=λh=>Qkd (A.rc _ E).v
   simp[ZR,Y,ei,y,Ed])
 let#[M,h',y,o,m,l,d,rfl,rfl]:=r;rw[f,NQ,show tH p out []=[MO.dct fq,MO.lst []]from rfl]at y;let x:∀o m l d h,ZV ϛ (tS p out o m l d) h=sO (Zy ϝ,nO,h):=bF;refine KU (j:=1) (g:=MY Pp) Ç ?_ rfl Ç;let Q:=e0 [Ő,HK,nO,nO,nO,nO,nO,nO] rfl;let P:=x nO nO nO nO;simp[VL,Qx,ZR,A.s,Q,e1,P,y]
#print"-"
section
variable{N:Nat}{bs ws:Â}{p:È}
def QwC(w:Ľ)(h3:dM)(h:ϕ):(s.way=[]/\s.part=0)\/(∃x j l,zc4/\qNe/\s.part<=2/\s.part≠0/\xr2/\jx) \/
  ∃x j l y i m,zc4/\p[1]?=sO y/\qNf/\s.part=2/\xr2/\jx/\qE3:=by
 let#[y,C,_]:=h.v.ex;let Z:=Ü C;generalize hw:s.way=way at *;generalize E:s.part=q at *;let c:=h.c;rw[hw,E]at c;cases c with
 |nil=>show Ý ś
 | @snoc r _ i k _ x l b L f o F=>
  let#[g1,g2]:=Qdw w f (EI o) F;cases L with
  |nil=>show Ć (΢ #[x,k,l,f,b,ć,ć,o,g2])
  | @snoc Q _ Y B _ z A g J a d u=>
   let#[g3,I]:=Qdw w a (EI d) u;cases J with
   |nil=>
    let H:i=1:=ć
    subst H;show Ć (Υ #[z,B,A,x,k,l,a,f,by rw[b,g];rfl,ć,d,I,o,g2])
   |@snoc P _ X U _ M S D c3 e n t=>
    let#[g5,_]:=Qdw w e (EI n) t;omega
abbrev rkD(L:ĝ)(j:Nat):Nat:=dcn (L.take j)
def WM(h:L[j]?=sO l)(hd:jx):xb9=Mc+1:=by
 unfold rkD;rw[E8,h,Fm,W6,hd];rfl
def QaO(h:i<=j):rkD L i<=Mc:=by
 show YaE (List.take_sublist_take_left h)
def QfA(h:L[j]?=sO l)(hd:jx):Mc<dcn L:=by
 let b:=WM h hd
 let a:xb9<=dcn L:=by
  show YaE xta
 show Nf (Nf Af (İ b)) a
def Qag(hi:L[i]?=sO l)(c:jx)(a:L[j]?=sO m)(b:Kw m=true)(e:rkD L i=Mc):i=j:=by
 show M7 i j
 ·let:=QaO (L:=L) (zb4 i j);rw[WM hi c]at this;lia
 ·show z
 ·let:=QaO (L:=L) (zb4 j i);rw[WM a b]at this;lia
abbrev Qmj(s:Spt):Nat:=jBc
def Qnf(s:Spt):Qmj s<=1:=by unfold Qmj;split<;>exact ÿ
abbrev QfT(L:ĝ)(s:Spt):Nat:=match s.way with
 |[]=>0
 |[(_,j)]=>2*Mc+s.part
 |(_,j)::_=>5+Mc
def QmG(h:Qmj s=Qmj t):xji:=by
 unfold Qmj at h;cases a:s.head<;>cases b:t.head<;>simp[a,b]at h ⊢
def QiO{m a b c d:Nat}(h1:b<m)(h2:d<m)(e:a*m+b=c*m+d):a=c/\b=d:=by
 let h:(b+a*m)/m=a:=by rw[YaR _ _ (YbI h1),O8 h1,NQ]
 let g:(d+c*m)/m=c:=by rw[YaR _ _ (YbI h1),O8 h2,NQ]
 rw[FQ _ b,FQ _ d]at e;let f:a=c:=by rw[<-h,e,g]
 subst f;show#[rfl,Nat.add_right_cancel e]
def QpN{m n a b:Nat}(h1:a<n)(h2:b<m):a*m+b<n*m:=
 Nf (NW h2 _) (by rw[<-Nat.succ_mul];show IG m h1)
def Qpe{s t:Spt}(h1:xy4)(h2:xk5)(b:s.k=t.k)(a:xji):s=t:=by
 show(AZ s t,AZ h1 h2,AZ b a);rfl
def Qll(B:Ľ)(C:dM)(t:TwA p)(c:p[0]?=sO a)(h:ϕ) :
  (MC a=0/\s.way=[]/\s.part=0)\/(∃j l r,MC a=2*r+s.part/\qNe/\r=jc1/\r<2/\0<s.part/\s.part<3/\xr3/\jx) \/
   ∃j l i m y,MC a=5+jc1/\jc1<2/\qNf/\s.part=2/\xr3/\jx/\p[1]?=sO y/\rkD y.2 i=0/\qE3:=by
 let u:=(t.1 a c).2.1
 rcases QwC B C h with⟨b,f⟩|⟨x,j,l,n,b,f,o,e,d⟩|⟨x,j,l,q,A,z,n,g,b,f,e,d,w,v⟩
 ·show Ğ #[zJf,b,f]
 ·show(â c n,Ć (΢ #[j,l,_,zJf,b,rfl,xf6,DT o,Ik f,e,d]))
 ·show â c n;let D:=(t.2 0 q g).2.1;show Ć (Υ #[j,l,A,z,q,zJf,xf6,b,f,e,d,g,Nat.eq_zero_of_le_zero (FA (Nf (QfA w v) D)),w,v])
def cl5{r q n:Nat}(h:r<2)(a:q<3):2*r+q≠5+n:=ć
def cl4{r q:Nat}(h:r<2)(a:q<3):2*r+q<7:=ć
def cl3{r q a b:Nat}(f:0<q)(c:q<3)(g:0<b)(d:b<3)(e:2*r+q=2*a+b):r=a/\q=b:=ć
def Qqv(H:Ľ)(I:dM)(F:TwA p)(a:p[0]?=sO E)(h:ϕ)(h':u0)(e:MC E=QfT E.2 t):xy4/\xk5:=by
 rcases Qll H I F a h with⟨x,v,c⟩|⟨j,l,r,x,v,c,D,u,q,C,B⟩|⟨j,l,i,m,y,x,v,c,D,u,q,C,B,S,Q⟩<;>rcases Qll H I F a h' with⟨w,o,b⟩|⟨L,J,X,w,o,b,A,n,g,f,z⟩|⟨L,J,Z,Y,U,w,o,b,A,n,g,f,z,P,M⟩<;>rw[x,w]at e
 show č #[v.trans o.symm,c.trans b.symm]
 ·show absurd e.symm (EK (Nf n vq))
 ·show ý (Ē e (FQ _ _)) (nofun)
 ·show ý e (EK (Nf u vq))
 ·let#[d,q2]:=cl3 u q n g e;rw[c,b]at d;show#[by rw[v,o,Qag C B f z d],q2]
 ·show ý e (cl5 D q)
 ·show ý (e.symm.trans (FQ _ _)) (nofun)
 ·show absurd e.symm (cl5 A g)
 ·let d:=Qag u q n g (Nat.add_left_cancel e);show â C f;rw[c,b,d,Qag S Q P M (Hd B z)];show#[rfl,D.trans A.symm]
def QpT(f:Ľ)(g:dM)(e:TwA p)(b:p[0]?=sO d)(h:ϕ):MC d<7:=by
 rcases Qll f g e b h with⟨a,_⟩|⟨j,l,r,a,c,t,o,q,n,_⟩|⟨j,l,i,m,y,a,c,_⟩<;>rw[a]
 ·decide
 ·show cl4 o n
 ·show NW c 5
def Qod(m:Ľ)(r:dM)(g:TwA p){L:Ì}(u:L.Nodup)(h:∀s∈L,ϕ):xk6:=by
 obtain⟨t,d⟩:∃x,zc4:=#[_,Nn (DI.mpr m.ne)]
 let l:∀s,ϕ->s.k<13:=λs j=>by
  let#[y,f,hk,_]:=j.v.ex;cases e:s.part with
  |zero=>rw[e]at f;show Ik (Nh hk (g.1 y f).1)
  |succ i=>rw[e]at f;show Ik (Nh hk (Nh (g.2 i y f).1 Ð))
 letI Qf1:=λs:Spt=>(MC t*13+s.k)*2+Qmj s
 let hL:∀s,Qmj s<2:=λs=>Ik (Qnf s)
 let:=Va 182 (L.map Qf1) (by
  rw[List.Nodup,DE];refine FP (λ{a b} q o ne e=>ne ?_) u;let#[E,D]:=QiO (hL a) (hL b) e;let#[C,B]:=QiO (l a (h a q)) (l b (h b o)) E;let#[A,z]:=Qqv m r g d (h a q) (h b o) C
  show Qpe A z B (QmG D)) λc w=>by
  show(Ŭ s j w,QpN (n:=91) (QpN (n:=7) (QpT m r g d (h s j)) (l s (h s j))) (hL s))
 rw[Nr]at this;show Nh this Ð
#print"-"
section
variable{bs ws:Â}{p:È}{out:Ì}{M:í}
abbrev aW(p:È)(out:Ì)(M:í)(q:Nat):W:=Î [Á q,À (sH jl),XU zx1]
@[simp]def Qtk{l:Ê}:Ze mX=true:=by
 induction l with
 |nil=>rfl
 |cons e l a=>simp[aW];show a
noncomputable abbrev Gn:=ï
abbrev dI(G:Gn):ü W:=u9 G g (.inl (g.1:Int),Ä SL)
abbrev hI(p:È)(out:Ì)(M:í)(P:Hk)(G:Gn)(Ls:rz):MH:=Ο SF::ϯ BS::Ls.map λl=>À mX
def Qbz{q:Nat}:Xu BS jn7=(G.find? zs4).map λg=>Ä SL:=by
 unfold Xu dI
 induction G with
 |nil=>rfl
 |cons g G a=>
  show jIi
  ·let:¬(Sum.inl (g.1:Int):Key)=vw q:=jI h qu8;simp only[this,h,decide_false];show a
variable{P:Hk}
def Y6:kh=ϐ:=xy5
def Qjv:bt++[ţ]=qpi:=xy5
def Qjd:(hI p out M P G Ls).set (i+2) (Ï (l.map Pu++[aW p out M q]))=hI p out M P G qvc:=by
 simp[hI,Yae]
def Qlc(h:za9):(hI p out M P G Ls)[i+2]?=sO (Ï mX):=by
 show zEc mX
noncomputable abbrev qT(p:È)(out:Ì)(M:í)(x5 x6 x7 x8 x9:Þ):MSt:=[Ő,uc,HK,sO ë,ž,x5,x6,x7,x8,x9]
def QrR:zif=if Sm then[]else wa M df:=rfl
def Qop(b:∀m∈M,zh1)(h0:h[0]?=sO (Α SF)):Qaq ë [plW s,ţ] h=sO (À (sH s),h):=by
 let a:XT h ë=sO SF:=fI h0
 rw[QrR];unfold plW;cases s.head with
 |true=>
  apply(XT h ë).map _=_;rw[a];rfl
 |false=>
  simp only[EY,if_false];apply QdK ë [Q7 df,ţ] h=_;unfold QdK;simp only[a,WU,Nk,Ea,Qsm b]
def QkC(hg:Ľ)(A:ù)(hP:∀m∈M,zh1){L:ï}(I:BV L)(e:jy)(J:e.1<out.length)(B:qTh)(hl:qTi) :
  ∃E o t,WB (L++[e]) E o/\E.length<=zXa/\Vn (jQ9 x9) R7=sO (ô (jQ9 t) (hI p out M P E o)):=by
 let hs:=Kh J;show zGh Z L (Nh QaH hl);let Q:∀h,ZH [Qj pA] h=sO (plW pA,h):=λh=>WW;let em:jT4:=λh=>Kg hg (A.rc _ hs).v;let S:=Qop hP (s:=sq out e.1) (h:=bt) rfl;let X:=QvN J;let U:∀G Ls,Kz R7 Ti=sO BS:=ş;let n:∀G Ls (h:0<kh),(hI p out M P G Ls)[0]=Ο SF:=AE;let j:∀G Ls (h:1<kh),(hI p out M P G Ls)[1]=ϯ BS:=AE;let H:∀G Ls,0<kh:=qai
 let F:∀G Ls,1<kh:=qai
 rcases I.step e with⟨g,w,hq,u,D,x⟩|⟨hk,D⟩
 ·refine#[G,_,jH5,D,cy,?_]
  let C:jsf=sO (Ä SL,qpi):=by
   show mJ U;rw[Qbz,Qa6 I.nk w hq];rfl
  let f:=qog x;let d:∀(h:qfj),(hI p out M P G yR)[g.2+2]=À ((wa L e.2).map Pu):=da f;let c:=Qjd (p:=p) (out:=out) (M:=M) (P:=P) (G:=G) (Ls:=SE) (i:=g.2) (q:=e.1) (l:=wa L e.2);let r:qfj:=by rw[Y6];simp;show vK u
  rw[jp6]at c;simp[Y6,Qjv,X,Q,S,C,f,d,c,Z,em,tyW,n,j,H,F,r]
 ·refine#[_,_,jH5,D,Å,?_];let hz:qG0:=jCa B
  let C:jsf=sO (Ä PV,hI p out M P (sB e) yR):=by
   show mJ U;rw[Qbz,YW hk];apply zC3;rw[if_pos hz]
   let:U4 BS (.inl (e.2:Int)) zub=dI (sB e):=by
    show jL3
    ·simp[dI];intro a b y z;show hk (CY #[_,y,by apply a=e.2;lia])
   show Ξ
  let f:=Qlc (p:=p) (out:=out) (M:=M) (P:=P) (G:=bV e) (Ls:=SE) (i:=Ls.length) (l:=[]) Ç;let c:=Qjd (p:=p) (out:=out) (M:=M) (P:=P) (G:=bV e) (Ls:=SE) (i:=Ls.length) (q:=e.1) (l:=[]);simp only[Dl,Dq]at c f;rw[jp6]at c;let Y:zYe:=ÿ
  let d:∀(h:ϐ<qij),(hI p out M P (sB e) yR)[ϐ]=ţ:=da f;let r:ϐ<qij:=CS Y6
  simp[Y6,Qjv,X,Q,S,C,f,d,c,Y,em,tyW,n,j,H,F,r]
abbrev dJ(p:È)(out:Ì)(M:í)(Q:Ê):ü W:=Q.map λ(m:Nat)=>(vw m,À zx2)
def QtH(a:∀e∈uN,Mb){m:Nat}:(Xu pC kH).getD zcc=À zx2:=by
 by_cases h:m∈Q
 ·let:Xu pC kH=sO (Ï zx2):=by
   clear a;unfold Xu dJ
   induction Q with
   |nil=>cases h
   |cons x Q b=>
    rw[NB,NV]
    show qG e x m
    ·let:¬(Sum.inl (x:Int):Key)=vw m:=jI e qu8;show(xb7,b zxe)
  show Ξ
 ·let f:wa Pp m=[]:=by
   show qf8 e
  let:Xu pC kH=nO:=by
   unfold Xu dJ;rw[Fj,Dr];show(cI d c,Hm h (II z▸c))
  rw[this,f];rfl
def G5(A:ù)(d:xk4):∀e∈Eg p out n,e.1<n/\xf8:=by
 intro e b;let#[q,a,b]:=Fi.mp b;let a:=jgf;show(Ŭ t c b,#[a,W3 (A.cl _ (Kh (Nf a d)) t c)])
def Gb{N:Nat}(Z:Ľ)(A:ù)(hM:AC):∃Q:Ê,(∀e∈uN,Mb)/\∀h:MH,Vm ud h=sO (ī,h++[uO]):=by
 show zg8;let#[P,hP,eP]:=G9 hM;let B:=qY0;let i:=G5 A Č;generalize H:uN=E at B i
 let f:=Zd (items:=lR) (b:=QL zDf) (body:=Vn) (λn D h=>∃(G:Gn) (Ls:rz) (v u t r d:Þ),D=qT p out M v u t r d/\h=bt/\BV (E.take n)/\xt0)
  k8 0 qu9 qG1 #[[],[],nO,nO,nO,nO,nO,rfl,rfl,jDg,Nw _] (by
   rintro j w F D h ⟨G,Ls,v,u,t,r,d,rfl,rfl,I,c⟩
   show cj F e z Y;let#[a,C,L,I',S,e2]:=QkC (x9:=d) Z A hP I e (i e (j4 j z)).1 É (by rw[Ez];lia);refine#[qT p out M PR dj o6 dk d,rfl,_,_,Ý e2,a,C,_,_,_,_,_,rfl,rfl,?_,SQ S (N8 c _)];rw[Iu,z]
   show I')
 let#[J,h',q,G,Ls,v,u,t,r,d,rfl,rfl,I,c]:=f;show jY2;apply box frR Jf _ _=_;show(qA6,fb);let l:=W5 A;rw[H]at l
 let ei:∀(h:MH),Qm zy1 qu9 h=sO (lR,nO,h):=λh=>by
  unfold Qm;simp[l];rfl
 let e:Jf ud []=sO (yr,bt):=by
  let y:=ei qG1;let o:hI p out M P [] []=[Ο SF,wA]:=rfl;rw[o]at y q;simp only[qT]at y q;simp[Jf,Qx,ZR,GH,A.s,eP,y,q]
 show sh
 let key:∀(a:Gn),(∀g∈a,zM8 E)->ths zyg ((dI a).map (·.2))=sO ((dJ p out M (a.map (·.1))).map (·.2)):=by
  intro a
  induction a with
  |nil=>intro _;rfl
  | cons g a m=>
   intro o;let:=m (Η x U o);unfold dI dJ at this ⊢;rw[NB,NB,ths,this];let ea:=qog (o g NA)
   let:th zyg (ú SL)=sO (Ï jZ4):=by
    show(zAe X (res (zaa [1]) R7 2) jZ4,TL);simp[JV,ea,X]
   rw[this,H];rfl
 let k:=xy3
 let hd:thO zyg zuc=sO (.dic (dJ p out M (G.map (·.1)))):=by
  show xf5
  let:((dI G).map (·.1)).zip ((dJ p out M (G.map (·.1))).map (·.2))=dJ p out M (G.map (·.1)):=by
   unfold dI dJ;clear k key e q ei I c
   induction G with
   |nil=>rfl
   |cons g G m=>show(BW m,m)
  simp[this]
 let h0:(hI p out M P G Ls)[1]?=sO zuc:=rfl;show qA7 h0
#print"-"
noncomputable abbrev Ky:=Nat×Â
abbrev Qr(k:Ky):W:=Î [yk k,.tup qY1]
abbrev trK(k:Ky):Tr:=.t [.i k.1,.t (k.2.map .s)]
def Qrd:∀(l:Â),zT8 (Yp 7)=zR5:=by
 intro l
 induction l with
 |nil=>
  show rfl
 |cons x l a=>
  rw[NB,Dm,a];rfl
def Qek:∀(l:Â),zT8 (Yp 6)=zR5:=by
 intro l
 induction l with
 |nil=>
  show rfl
 |cons x l a=>
  rw[NB,Dm,a];rfl
def Wp{k:Ky}:nrm Ϫ=sO jeb:=by
 apply Yp 8 (Ĩ [yk k,Î qY1])=_;simp only[Yp,Dm,Ybc,Qek];rfl
def G4(h:trK a=trK b):a=b:=by
 show(Đ n l a,Đ m r b);unfold trK at h;show(zB5 h,Đ d c h);let e:l=r:=Ybx (f:=Tr.s) (λx y e=>by injection e)|>.mp c
 let:n=m:=II d;rw[e,this]
noncomputable abbrev Tb:=ľ
abbrev dT(D:Tb):ε:=u9 D e (zC,Ae e)
abbrev vl(D:Tb)(k:Ky):Į:=(D.find? zs3).map (·.2)
def Qfj{l:Â}:inW Μ Cj=vO x l:=by
 induction l with
 |nil=>rfl
 |cons y l a=>
  unfold inW at a ⊢;rw[NB,D4,a];apply((y==x) ||_)=_
  show qG e y x
  ·let b:¬x=y:=xjj;rw[show(y==x)=false from PY e,Bool.false_or,F4,decide_eq_true_eq,decide_eq_true_eq,NK];show#[.inr,λz=>z.elim (λq=>Ai q b) id]
def inL{l:Â}:wIn g Μ (Ï Cj) h=sO (ă (if g=true then ! vO x l else vO x l),h):=by
 rw[QoA rfl Vg zH4 qab,Qfj]
abbrev inO(o:SA)(l:Â):Bool:=match o with
 |ã x=>vO x l
 |none=>false
def inT:wIn false Ht (Ĩ Cj) h=sO (ă (inO o l),h):=by
 let c:zM Ht=sO Ht:=jNj
 let b:=Vk h Cj 40 Vg qab
 let a:inW Ht Cj=inO o l:=by
  cases o with
  |some x=>show Qfj
  |none=>
   unfold inW;rw[show inO nO l=false from rfl,YbC];intro w hw;show(kv x,N9)
 apply(drf h 40 Ht).bind _=_;rw[c,Nk,b,Ea,a];rfl
abbrev lf(l g:Â):Â:=l.filter λx=>zud
def Qde{l g:Â}(hi:zw=sO (zd l,nO,h))(d:σ[c]?=sO (sO jKf))(b:l.length<=1000):QD Zv mi [nO,sO c] η (Qk zUj) î σ h=sO (À ((lf l g).map .str),h):=by
 let e:=U3 (fin:=Zv) (mi:=mi) (cp:=[nO,sO c]) (mt:=Qk zUj) (me:=Qb 0) (σ:=σ) (caps:=[sO jKf]) (h:=h) (items:=zd l)
  id (λw=>match w with|Ù x=>zud|_=>false) hi #[nO,by simp[QcA,d]] (λw hw=>by
   show kM x i
   simp[inL]) (λw hw j=>Å) (vG jg0)
 rw[e]
 let:((l.map W.str).filter λw=>match w with|Ù x=>zud|_=>false).map id=(lf l g).map .str:=by
  rw[YbN,F8];rfl
 show Ξ
abbrev moI(o:SA)(l:Â):Int:=if inO o l=true then 1 else 0
section
variable{bs ws:Â}{p:È}{out:Ì}{M:í}
abbrev ask(p:È)(out:Ì)(M:í)(k:Ky)(q:Nat):BT:=((q,qki),qj0)
abbrev KY(a:BT):W:=Î [Qr a.1,Ae a]
@[simp]def Qvr{k:Ky}:pur Ϫ=true:=by simp[Qr]
@[simp]def QoL{l:ľ}:Ze (l.map KY)=true:=by
 induction l with
 |nil=>rfl
 |cons e l a=>simp[KY];show a
def Qbn{ws vs:Ã}(i:Sz)(d:Sy)(c:Tu)(e:jI5=jkg)(l:zua)(f:wq):qo7=sO (ym,h):=by
 unfold box
 let a:qb1:=by
  unfold V1;rw[Xp i];rfl
 show(jE9 a b d c,Ŕ #[EN,Å])
 let:th (res (JV [n] [] h.length) (o::g) 3) (ú (j+1))=zG8:=by
  show TL;simp only[JV,Lm,List.getElem?_nil,List.findIdx?_nil,Yan,l];rw[Zi _ vs f];rfl
 rw[this];simp[Qz,IR,Zu,Wi _ o c,QhJ d]
noncomputable abbrev uS(k:Ky)(x3 x4 x5 x6:Þ):MSt:=[sO ë,sO Ϫ,ž,x3,x4,x5,x6]
def QpI:K3 lI=Ze (a.map (·.2)):=rfl
def QsA:K3 o9=true:=by
 rw[QpI];unfold dJ;rw[Ei]
 induction Q with
 |nil=>rfl
 |cons m Q a=>rw[NB,Ql2,a];simp
def QgL(A:ù){Q:Ê}(H:∀e∈uN,Mb){k:Ky}{h:MH}{n:Nat}(D:h[n]?=sO o9)(hk:k.2.length<=1000):Vb [Ä n,Qr k] h=sO (À (((wa Pp k.1).map zAg).map KY),h):=by
 show zg8;let I:=qY0;let u:=QaH (M:=uN) (q:=k.1)
 let y:∀h:MH,h[0]?=sO o9->X8 ë [yk k,ţ] h=sO (À ((wa Pp k.1).map Pu),h):=λh J=>by
  let:Kz h ë=sO pC:=zRg J
  unfold X8;simp only[this,K9,Nk,Ea,QtH H]
 generalize wa Pp k.1=a at u y
 let f:=Zd (items:=a.map Pu) (b:=QL [3,4,5]) (body:=XH) (λn i h=>∃(t s r d:Þ),i=uS k t s r d/\h=[uO,À (((a.take n).map zAg).map KY)])
  (a.map Pu) 0 qKh zm6 qA8 (by
   rintro j w x i h ⟨t,s,r,d,rfl,rfl⟩
   show cj x q v E;let N:zC6 (j+1)=zC6 j++[ask p out M k q]:=zWj v
   rw[N];generalize hL:zC6 j=L;let C:iq:=Ni (m:=1000000) (by rw[<-hL,Nr,Ez];lia) Ð;let P:=Qde (l:=k.2) (g:=Pz) (mi:=Qm cU) (σ:=zvj d) (h:=[uO,À (L.map KY)]) (c:=4) (by unfold Qm;simp[Qr];rfl) rfl hk;refine#[zvj d,rfl,zvj (sO (Ĩ ((lf k.2 qve).map .str))),_,jB,_,_,_,_,rfl,rfl]
   cases F:inO zx1 k.2<;>simp[P,Qr,inT,F,C,KY,ask,moI])
 let#[B,U,z,t,s,r,d,rfl,rfl]:=f;show Mx z;refine Qbn (o:=uO) (j:=0) (g:=[À ((a.map zAg).map KY)]) Ç D QsA ?_ rfl QoL
 let ei:Qm jR9 qKh zm6=sO (a.map Pu,nO,zm6):=by
  unfold Qm;simp[Qr,y,tyW];rfl
 simp[VF,Qx,ZR,ei,z]
#print"-"
section
variable{N:Nat}{bs ws:Â}{p:È}{out:Ì}
def QcG:Zy ϝ=(List.range out.length).map λq=>Î [.int (q:Nat),Qj jl]:=by
 unfold Zy;show SI q;rw[Nt,FH,Nt,Nt]
 by_cases h:A0
 ·rw[WS h,Di h];simp
 ·rw[NX (jE h),NX pb];rfl
#print"-"
def isSome_valQ:(VO a t).isSome=true↔∃p∈a,cX:=by
 unfold VO;rw[FF,OQ];simp
def Qgh(hk:xv7):(∃p∈Uu b k kw v,cX)↔(∃p∈b,cX)\/k=t:=by
 unfold Uu
 by_cases c:(VO b k).isSome=true
 ·rw[Ò c];let f:=isSome_valQ.mp c;constructor
  ·rintro⟨p,a,e⟩
   show(Ŭ q d a,Cc #[q,d,?_])
   by_cases z:nrm q.1=sO k
   ·rw[Ò z]at e;show e
   ·rw[Ó z]at e;show e
  ·rintro(⟨p,a,e⟩|rfl)
   ·refine xk8
    by_cases z:xo=sO k
    ·rw[Ò z];show e
    ·rw[Ó z];show e
   ·show Ů p a e f;refine xk8;rw[Ò e];show e
 ·rw[Ó c];constructor
  ·rintro⟨p,a,e⟩
   show γ a z
   ·show Ğ (Ŷ p z e)
   ·rw[ND]at z;subst z;rw[hk]at e;show ê (N4 e)
  ·rintro(⟨p,a,e⟩|rfl)
   show č #[p,ua a,e]
   show č #[_,NY _ zCf,hk]
def Ql4:∀(ps:fz) (a:ε),(∀q∈ps,nrm q.2.1=MK)->((∃p∈mgQ a ps,cX)↔(∃p∈a,cX)\/∃q∈ps,q.1=t):=by
 intro ps
 induction ps with
 |nil=>
  intro a _;simp[mgQ]
 |cons q ps b=>
  intro a h;let e:mgQ a (q::ps)=mgQ (Uu a q.1 q.2.1 q.2.2) ps:=rfl;rw[e,b _ (Η x c h),Qgh (h q NA)];simp[or_assoc]
def QqC:∀(Z:Hk),prQ gA=sO qc9:=by
 intro Z
 induction Z with
 |nil=>
  show rfl
 |cons q Z a=>
  rw[NB,prQ,WU];simp only[Nk];rw[a];rfl
def QjL:∀(Z:Ê) (a:ü W) (g:Nat->W),Z.Nodup->(∀z∈Z,∀q∈a,q.1≠vw z)->QgE a jO0=a++Z.map zz1:=by
 intro Z
 induction Z with
 |nil=>
  intro a g _ _;simp[QgE]
 | cons z Z i=>
  intro a g d h;rw[Eo]at d;let e:QgE a ((z::Z).map zz1)=QgE (U4 a qXj (g z)) jO0:=rfl
  let j:U4 a qXj (g z)=a++[(vw z,g z)]:=by
   show(zL3,qmb);show λq b=>h z NA q b
  rw[e,j,i _ g d.2 (Ł y f q b)]
  ·simp
  ·show γ b c
   ·show h y (C0 f) q c
   ·rw[ND]at c;subst c;intro w;injection w with w
    show d.1 (by rw[show z=y by lia];show f)
def QaC(a:Sz)(e:qt4)(c:g[j]?=sO o)(b:Tu):box frR m ws h=sO (ī,h++[o]):=by
 unfold box;rw[Xp a,Nk];show(fb,sh);simp[frR,th,res,JV,Zu,Qz,c,Wi _ o b]
section
variable{N:Nat}{bs ws:Â}{p:È}{out:Ì}{M:í}
abbrev shL(M:í)(out:Ì)(w:Str):Ê:=(List.range out.length).filter (yt q lJ)
abbrev dK(L:Ê):ü W:=L.map λq:Nat=>(vw q,Ϣ)
def Qi4{q:Nat}:(Xu (dK L) jn7).isSome=vO q L:=by
 unfold Xu dK;rw[FF]
 by_cases c:q∈L
 ·rw[vv c,OQ];show#[_,EO c,Å]
 ·show jr5;show c (by rw[<-show y=q by lia];show a)
set_option backward.eqns.nonrecursive false in
abbrev gW(w:Str)(x:W):Bool:=match x with|Î [Ù a,_]=>decide (a=w)|_=>false
set_option backward.eqns.nonrecursive false in
abbrev f1W(x:W):W:=match x with|Î [_,q]=>Î [q,Ϣ]|w=>w
abbrev f2W(x:W):W:=match x with|Î [q,_]=>Î [q,Ϣ]|w=>w
abbrev gS(M:í)(out:Ì)(w:Str)(x:W):Bool:=match x with|Î [Á q,_]=>decide (w∈gn M (sq out q.toNat))|_=>false
def in_gn:w∈zif↔xqj/\(w,df)∈M:=by
 unfold gn;cases s.head with
 |true=>simp
 |false=>
  simp only[EY,if_false,NC,EL,decide_eq_true_eq,true_and];constructor
  ·rintro⟨m,⟨b,a⟩,rfl⟩;rw[<-a];show b
  ·intro h;show#[_,zK h,rfl]
def QcZ(A:ù)(l:Ť)(F:AC)(h:MH):VD [QJ p,À Ϝ,Ù w] h=jn8:=by
 show zg8
 let n:=Ws (fin:=Zv) (mi:=Qm ø) (cp:=xpj) (b:=wX) (mt:=Qk jN5) (me:=oi jAd) (σ:=[Ő,uc,Cg w,nO]) (h:=[]) (items:=wV) (src:=nO) (λi=>∃a b,i=[a,b,Cg w]) (gW w) f1W rfl Ty AF (λx d i f=>by
  let#[m,hm,rfl]:=TM d;let#[a,b,rfl]:=f;refine#[[jf3 m,sO iR,Cg w],rfl,AF,?_,λ_=>by simp[f1W,Q0]];simp[gW,Q0]
  rw[F4];simp) (vG (Nq (ź F)))
 let e1:((M.map Q0).filter (gW w)).map f1W=((M.filter λm=>m.1=w).map (·.2)).map λq=>Î jv5:=by
  rw[F8,Ei,Ei];rfl
 rw[e1]at n;generalize E:(M.filter λm=>m.1=w).map (·.2)=Z at n;let P:Z.length<=100000:=by rw[<-E,Nr];show Nh ja9 F
 generalize hD:mgQ [] qc9=D
 let t:∀q:Pl,xi2=vO q Z:=λq=>by
  let z:xi2=true↔q∈Z:=by
   rw[isSome_valQ,<-hD,Ql4 _ _ (λx d=>by show(lA y d,WU))];constructor
   ·rintro(⟨_,h,_⟩|⟨x,d,e⟩)
    ·cases h
    ·show Ŭ y S d;rw[<-WZ e];show S
   ·intro B;show Ć #[_,EO B,rfl]
  by_cases c:q∈Z
  ·rw[z.mpr c,vv c]
  ·rw[S7 c,Bool.eq_false_iff];show λy=>c (z.mp y)
 let U:ZV (à pD) zjd yd=sO (Zy ϝ,nO,yd):=by
  let e:(Qa pD Qc) zjd yd=sO ([À ϝ],yd):=by simp[A.s]
  unfold ZV;rw[e];rfl
 let v:=Ws (fin:=Zv) (mi:=ZV (à pD)) (cp:=xq0) (b:=wX) (mt:=Qk jYh) (me:=oi (jN jK7)) (σ:=zjd) (h:=yd) (items:=Zy ϝ) (src:=nO) (λi=>∃a b,i=[a,b,sO ë]) xf9 f2W U Ty AF (λx d i f=>by
  rw[QcG]at d;show Ŭ q B d;let#[a,b,rfl]:=f;refine#[[ğ q,sO zV8,sO ë],rfl,AF,?_,λ_=>by simp[f2W]];let u:∀h,ZH [Qj jl] h=sO (plW jl,h):=λh=>WW
  let ei:Qbp (plW jl) ë yd=sO (ă (AQ lJ),yd):=by
   let hd:XT yd ë=sO D:=rfl;unfold plW;cases C:(sq out q).head with
   |true=>
    let:¬w∈Pz:=λz=>by let:=(in_gn.mp z).1;show Bq C
    rw[į,decide_eq_false this];unfold Qbp;simp only[hd,Ea]
   | false=>
    show jR;apply U8 false (Q7 _) ë yd=_;unfold U8;simp only[hd,WU,Nk,Ea,t,EY,if_false]
    let:(AQ (((sq out q).part,(sq out q).k)∈Z))=decide lJ:=by
     rw[decide_eq_decide,in_gn,<-E];simp[C]
    rw[this]
  let X:gS M out w (Ĩ [Á q,Qj jl])=decide lJ:=rfl;rw[X]
  simp[u,ei]) (by rw[QcG];simp;show Vd xlj)
 let e2:((Zy ϝ).filter xf9).map f2W=(shL M out w).map λq:Nat=>Î jve:=by
  rw[QcG,F8,Ei];rfl
 rw[e2]at v;let Q:(shL M out w).length<=200:=Nh ja9 (by rw[FE];show l);refine QaC (j:=1) (g:=[Ο D,ϯ zHf]) (by simp[Q0,Q7]) ?_ rfl ?_
 ·let u:prW gy=sO zHf:=by
   generalize zW3=L
   induction L with
   |nil=>rfl
   |cons q L r=>rw[NB,prW,r];rfl
  let em:QgE [] zHf=dK jYj:=by
   let:=QjL jYj [] (λ_=>Ϣ) (Fh.filter _) (λ_ _ _ h=>A3 h);simpa[dK]using this
  let Y:∀h:MH,Yb [À gy] h=jn8:=λh=>by
   unfold Yb;let:lsW h (Ï gy)=sO gy:=rfl;simp only[this,Nk,u,em];show Ŕ (by unfold dK;rw[Nr];show nz Q)
  let eq:∀h:MH,VJ [À gA] h=sO (ī,h++yd):=λh=>by
   unfold VJ;let:lsW h (Ï gA)=sO gA:=rfl;simp only[this,Nk,QqC,hD];show Ŕ (zpe P)
  simp only[Zv]at n v;simp[Jl,Qx,n,v,eq,Y]
 ·unfold dK;generalize zW3=L;simp[K3]
  induction L with
  |nil=>rfl
  |cons q L r=>show Aj r
#print"-"
section
variable{E:ï}{S:Ê}
abbrev swE(E:ï)(S:Ê):ï:=(E.filter (yt e (e.1∉S))).map λe=>zeb
abbrev sc(E:ï)(S:Ê)(n:Nat):Ê:=wa zcf n
def mem_sc:m∈xX↔xh6/\n∉S:=by
 unfold sc wa swE;simp only[NC,EL,decide_eq_true_eq];constructor
 ·rintro⟨a,⟨⟨e,⟨c,b⟩,rfl⟩,d⟩,rfl⟩
  show(PC d,B3 c b)
 ·rintro⟨c,b⟩
  show#[(m,n),#[#[(n,m),ĺ c b,rfl],rfl],rfl]
inductive Rch(E:ï)(S:Ê)(a:Nat):xF where
 |here:Rch E S a a
 |step {n m:Nat}:zhb n->n∉S->xh6->zhb m
noncomputable abbrev KX:=Ê×Ê
abbrev up(q:KX)(m:Nat):KX:=if m∈q.1 then q else(q.1++[m],q.2++[m])
abbrev ups(q:KX)(a:Ê):KX:=a.foldl up q
abbrev ly(E:ï)(S:Ê)(q:KX)(ns:Ê):KX:=ns.foldl (λq n=>ups q d6) q
structure Gr(P:xF)(q q':KX):Prop where
 ex:∃Z,q'.1=q.1++Z/\q'.2=q.2++Z/\∀z∈Z,P z
 nd:q.1.Nodup->q'.1.Nodup
def Gr.refl(q:KX):Gr P q q:=#[#[[],Å,Å,zp2],id]
def Gr.trans(h:jec)(k:Gr P b c):Gr P a c:=by
 let#[Z,j,i,g]:=h.ex;let#[Y,f1,f2,f]:=k.ex;refine#[#[Z++Y,by rw[f1,j,EH],by rw[f2,i,EH],Ô z d],λe=>k.nd (h.nd e)]
 show cM d c g z
 ·show f z c
def Gr.imp(h:jec)(k:∀z,P z->R z):Gr R a b:=by
 let#[Z,f,e,d]:=h.ex;show#[#[Z,f,e,λz c=>k z (d z c)],h.nd]
def Gr.sub(h:jec)(c:x∈a.1):x∈b.1:=by
 let#[Z,d,_]:=h.ex;rw[d];show ua c
def QsX:Gr (·=m) q (up q m)/\m∈(up q m).1:=by
 unfold up
 by_cases c:m∈q.1
 ·rw[Ò c];show#[xY,c]
 ·rw[Ó c];refine#[#[#[[m],rfl,rfl,λz d=>ĸ d],è h],Å];rw[Ek];show#[h,Å,λa f b e=>by rw[ĸ e];rintro rfl;show c f]
def QdU:∀(a:Ê) (q:KX),Gr (·∈a) q (ups q a)/\∀m∈a,m∈(ups q a).1:=by
 intro a
 induction a with
 |nil=>
  show jl2
 |cons m a d=>
  intro q;let#[i,g]:=QsX (q:=q) (m:=m);let#[c,f]:=d (up q m);refine#[(i.imp λz e=>qTj).trans (c.imp λz e=>C6 e),Γ b]
  show Ņ b
  ·show c.sub g
  ·show f x b
def Qoe:∀(ns:Ê) (q:KX),Gr (λz=>∃n∈ns,z∈xX) q (ly E S q ns)/\∀n∈ns,∀m∈xX,m∈(ly E S q ns).1:=by
 intro ns
 induction ns with
 |nil=>
  show jl2
 |cons n ns d=>
  intro q;let#[i,g]:=QdU d6 q;let#[c,f]:=d (ups q d6);refine#[(i.imp (ŗ z e #[n,NA,e])).trans (c.imp (ŗ z #[x,a,e] #[x,C6 a,e])),Ł x a m b]
  show Ņ a
  ·show c.sub (g m b)
  ·show f x a m b
inductive Bf(E:ï)(S:Ê):Nat->Ê->Ê->Ê->Prop where
 |fin (K:Ê):Bf E S 0 K [] K
 |go {n:Nat} {K L K':Ê}:L≠[]->Bf E S n jH6 zGi K'->Bf E S (n+1) K L K'
structure BI(E:ï)(S:Ê)(V a:Nat)(K L:Ê):Prop where
 nd:K.Nodup
 lt:∀x∈K,x<V
 st:a∈K
 sub:∀x∈L,x∈K
 cl:∀x∈K,x∉L->∀m∈sc E S x,m∈K
 rc:∀x∈K,zhb x
def BI.next{V a:Nat}{K L:Ê}(I:xfa)(p:∀e∈E,e.2<V):BI E S V a jH6 zGi/\K.length+qsf=(ly E S eE L).1.length:=by
 let#[g,h]:=Qoe (E:=E) (S:=S) L eE;let#[Z,i,j,l]:=g.ex;let nd:=g.nd I.nd;simp only[Dq]at i j;refine#[#[nd,Γ b,g.sub I.st,Γ b,λx b hL m f=>?_,Γ b],by rw[i,j,NJ]]
 ·show zp5
  ·show I.lt x c
  ·let#[n,_,f]:=l x c;show p _ (mem_sc.mp f).1
 ·rw[j]at b;rw[i];show NY _ b
 ·show zp5
  ·by_cases d:x∈L
   ·show h x d m f
   ·show g.sub (I.cl x c d m f)
  ·show absurd (j0 j c) hL
 ·show zp5
  ·show I.rc x c
  ·show C5 n o f l x c;let#[r,q]:=mem_sc.mp f;show .step (I.rc n (I.sub n o)) q r
def QsC{V a:Nat}(j:∀e∈E,e.2<V):∀(f:Nat) (K L:Ê),xfa->V-K.length<f->∃n g,Bf E S n K L g/\n<=f/\BI E S V a g []:=by
 intro f
 induction f with
 |zero=>
  intro K L _ h;show ý h fD
 | succ f i=>
  intro K L I h
  by_cases c:L=[]
  ·show Ao c #[0,K,.fin K,NO _,I]
  ·let#[J,e]:=I.next j;let hk:=Va V _ J.nd J.lt
   by_cases d:zGi=[]
   ·refine#[1,_,.go c (by rw[d];show .fin _),by show E3 _ _,by rw[d]at J;show J]
   ·let:0<qsf:=DI.mpr d;let#[n,g,b,m,l]:=i _ _ J É;show#[n+1,g,.go c b,zZb m,l]
def BI.all{V a:Nat}{K:Ê}(I:BI E S V a K [])(x:Nat):x∈K↔zhb x:=by
 refine#[I.rc x,è h]
 induction h with
 |here=>show I.st
 |step _ d c b=>show I.cl _ b Ç _ (mem_sc.mpr (ĺ c d))
#print"-"
section
variable{S:Ê}{p:È}{out:Ì}
abbrev hL(S:Ê)(G:Gn)(Ls:rz):MH:=ϯ Hc::ϯ BS::Ls.map λl=>À dW
def Y0:qR1=ϐ:=xy6
def QiF:Tw++[ţ]=qya:=xy6
def Qjz:(hL S G Ls).set (i+2) (Ï (l.map QR++[QR q]))=hL S G qvc:=by
 simp[hL,Yae]
def Qmk(h:za9):(hL S G Ls)[i+2]?=Ar dW:=by
 show zEc dW
noncomputable abbrev rT(a b:W)(x4 x5 x6 x7 x8 x9 x10:Þ):MSt:=[sO a,sO b,sO ë,ž,x4,x5,x6,x7,x8,x9,x10]
def Qb5(I:BV L)(e:jy)(v:qTh)(F:qTi){x5 x7 x8 x9 x10:Þ} :
  ∃y n,WB (if zv then L else L++[zeb]) y n/\y.length<=zXa/\JS jr6 dn=sO (ô jr6 (hL S y n)):=by
 show zGh C L (Nh QaH F);let A:∀G Ls,Kz dn Ti=sO BS:=ş;let H:∀G Ls,Kz dn ë=sO Hc:=ş
 let ei:∀G Ls,U9 true dX ë dn=sO (jn9,Tw):=λG Ls=>by
  unfold U9;simp only[H,K9,Nk,Ea,Qi4,if_true]
 let m:∀G Ls (h:1<qR1),(hL S G Ls)[1]=ϯ BS:=AE
 by_cases c:zv
 ·refine#[G,Ls,zrh c I,DW _,?_];simp[ei,c]
 rw[Ó c]
 rcases I.step zeb with⟨g,s,E,r,x,t⟩|⟨hk,x⟩
 ·refine#[G,_,x,DW _,?_]
  let w:jsg=sO (Ä SL,qya):=by
   show mJ A;rw[Qbz,Qa6 I.nk s E];rfl
  let j:=Qmk (S:=S) (G:=G) t;let f:∀(h:qk7),(hL S G yR)[g.2+2]=À ((wa L e.1).map QR):=da j;let d:=Qjz (S:=S) (G:=G) (Ls:=SE) (i:=g.2) (q:=e.2) (l:=wa L e.1);let o:qk7:=by rw[Y0];simp;show vK r
  show jyi;simp[ei,c,m,Y0,QiF,w,j,f,d,C,tyW,o]
 ·refine#[_,_,x,Å,?_];let D:qG0:=jCa v
  let w:jsg=sO (Ä PV,hL S zy7 yR):=by
   show mJ A;rw[Qbz,YW hk];apply zC3;rw[Ò D]
   let:U4 BS (.inl (e.1:Int)) zub=dI zy7:=by
    show jL3
    ·simp[dI];intro a b u z;show hk (CY #[_,u,by apply a=e.1;lia])
   show Ξ
  let j:=Qmk (S:=S) (G:=G++zz3) (Ls:=SE) (i:=Ls.length) (l:=[]) Ç;let d:=Qjz (S:=S) (G:=G++zz3) (Ls:=SE) (i:=Ls.length) (q:=e.2) (l:=[]);simp only[Dl,Dq]at d j;let B:zYe:=ÿ
  let f:∀(h:ϐ<qoh),(hL S zy7 yR)[ϐ]=ţ:=da j;let o:ϐ<qoh:=CS Y0
  show jyi;simp[ei,c,m,Y0,QiF,w,j,f,d,B,tyW,o]
#print"-"
section
variable{S:Ê}
noncomputable abbrev Fn:=Nat×Int×A4
abbrev oW:A4->W
 |none=>.non
 |ã n=>Á n
abbrev fd(FD:Ah):ü W:=FD.map λq=>(.inl (q.1:Int),Î [.int q.2.1,oW q.2.2])
noncomputable abbrev ks(FD:Ah):Ê:=FD.map (·.1)
def Qc3{m:Nat}:xha=decide xk9:=by
 unfold Xu fd;rw[FF]
 by_cases c:jc2
 ·rw[vv c,OQ];show(Ŭ q d c,#[_,EO d,Å])
 ·show(jr5,c ju8)
def QnU(h:jc2):∃d o,Xu uB kH=sO zog:=by
 let:xha=true:=by rw[Qc3];show vv h
 let#[v,a]:=DY.mp this;unfold Xu fd at a;show Az f e c a;let b:=FJ e;show Ŭ q g b;show#[q.2.1,q.2.2,by unfold Xu fd;rw[a,<-c]]
def Qqh(h:m∉ks FD):U4 uB kH zog=fd (FD++[(m,d,o)]):=by
 show zL3
 ·simp[fd]
 ·show(qmb,cI b a);intro z;simp at z;show h ju8
abbrev Ot(j f:Nat)(h h':MH):Prop:=ij/\∀i,i≠j->i≠f->h'[i]?=h[i]?
def Ot.refl(h:MH):Ot j f h h:=#[rfl,AE]
def Ot.trans(h:Ot j f a b)(k:Ot j f b c):Ot j f a c:=#[k.1.trans h.1,λi e d=>(k.2 i e d).trans (h.2 i e d)]
inductive Wf:Ah->Prop
 |one:Wf zGa
 |more:Wf FD->ze2->m∉ks FD->Wf (FD++[(m,d,sO n)])
structure RH(j f:Nat)(FD:Ah)(X:Ê)(h:MH):Prop where
 hj:zqh
 hf:h[f]?=jna
 ne:j≠f
 s1:xba
 s2:X.length<=1000
 wf:Wf FD
def QsV{j f n m:Nat}(H:xka)(u:ze2)(q:(up vE m).1.length<=1000)(e:(up vE m).2.length<=1000) :
  ∃l w h',Ja zn4 h=sO (ô zn4 h')/\(ks l,w)=up vE m/\zPh l w/\iW h:=by
 let v:Kz h cL=sO uB:=by simp only[Kz,H.hj]
 let ei:U9 true (ĭ m) cL h=sO (ă (wG xk9),h):=by
  unfold U9;simp only[v,K9,Nk,Ea,Qc3,if_true]
 unfold up at q e ⊢
 by_cases c:jc2
 ·refine#[FD,X,h,?_,by rw[Ò c],H,xY];simp[ei,c]
 rw[Ó c]at q e ⊢;let#[d,o,z]:=QnU u
 let E:QbK cL (ĭ n) h=sO (Î [Á d,oW o],h):=by
  unfold QbK;simp only[v,K9,Nk,z,Ea]
 let A:=Qqh (FD:=FD) (m:=m) (d:=d+1) (o:=sO n) c;let x:(fd FD).length<sizeLine:=Ni (by unfold fd;rw[Nr];show H.s1) Ð;let t:(X.map QR).length<sizeLine:=Ni (by rw[Nr];show H.s2) Ð;let y:=(Nd.mp H.hj).1;let lf:=(Nd.mp H.hf).1
 let g:(h.set j mf)[f]?=jna:=by
  rw[EW H.ne];show H.hf
 refine#[FD++xfc,X++[m],(h.set j mf).set f (Ï (X.map QR++P5)),?_,Å,#[?_,?_,H.ne,é q,é e,.more H.wf u c],#[Å,Õ i D C]]
 ·let F:(mFn Q3 jj0) zn4 h=sO (Î [Á (d+1),oW (sO n)],h):=by
   simp[E,oW]
  let s:=QnB (mo:=Qb 8) (mi:=Qb 6) (σ:=rT a b Bw x5 qUa x7 Ų x9 ű) F (n:=j) (i:=Á m) Ç Ç rfl H.hj x;rw[A]at s;unfold Ja;generalize Ga AM ŧ ji6=J at s ⊢;let p:X.length<sizeLine:=é t
  let r:∀B:f<(h.set j mf).length,(h.set j mf)[f]=À qKg:=λB=>(Nd.mp g).2;simp[ei,c,s,g,t,p,tyW,lf,r]
 ·rw[EW (Eb H.ne),Dh y]
 ·rw[Dh (by simpa using lf)];simp[QR]
 ·rw[EW (Eb C),EW (Eb D)]
#print"-"
section
variable{E:ï}{S:Ê}{V:Nat}
structure Bd(V:Nat)(q:KX):Prop where
 nd:q.1.Nodup
 lt:∀x∈q.1,x<V
 le:q.2.length<=q.1.length
def Bd.gr(B:Bd V q)(g:Gr P q d)(e:∀z,P z->z<V):Bd V d:=by
 let#[Z,b,h,f]:=g.ex;refine#[g.nd B.nd,Γ a,?_]
 ·rw[b]at a
  show γ a c
  ·show B.lt x c
  ·show e x (f x c)
 ·let:=B.le;rw[b,h,NJ,NJ];show N8 this _
def Bd.len(B:Bd V q):q.1.length<=V/\q.2.length<=V:=by
 let:=Va V _ B.nd B.lt;let:=B.le;lia
structure LH(G:Gn)(Ls:rz)(h:MH):Prop where
 d:h[1]?=sO zuc
 l:∀i l,za9->h[i+2]?=Ar dW
def LH.ot(H:yo h)(o:iW h)(a:ϐ<=j)(b:ϐ<=f):yo h':=by
 refine#[by rw[o.2 1 (zv5 a) (zv5 b)];show H.d,Õ i l e];let:=Ü e;rw[o.2 (i+2) (NL (Nf xkb a)) (NL (Nf xkb b))];show H.l i l e
def LH.app(H:yo h)(o:MO):yo (h++[o]):=by
 let:=(Nd.mp H.d).1;refine#[by rw[NF this];show H.d,Õ i l e];let z:=H.l i l e;show lD z
def Qax{a:Ê}(h:a[k]?=sO m):ups q (a.take (k+1))=up (ups q (a.take k)) m:=by
 unfold ups;rw[E8,h,Fm,Lv];rfl
def Qlo{ns:Ê}(h:ns[k]?=sO n):ly E S q (ns.take (k+1))=ups (ly E S q (ns.take k)) d6:=by
 unfold ly;rw[E8,h,Fm,Lv];rfl
def QtT{G:Gn}(I:BV zcf)(hE:∀e∈E,e.2<V)(Q:jh7){h:MH}(H:xka)(LL:yo h)(hj:ϐ<=j)(hf:ϐ<=f)(B:Bd V vE)(D:ze2){x5 x6 x7 x9:Þ} :
  ∃p i r h',Jd (rT a b Bw x5 x6 x7 Ų x9 ű) h=sO (ô (rT a b Bw x5 p x7 Ų x9 ű) h')/\qcj/\zq9:=by
 let Y:Kz h Ti=sO BS:=by simp only[Kz,LL.d]
 let l1:=(Nd.mp LL.d).1;let F:∀m∈xX,m<V:=λm x=>hE _ (mem_sc.mp x).1
 let key:∀(q:A8),(∀h',iW h->live q R8 h')->∃s h',Zp R8 q jh3 Ja R8 (rT a b Bw x5 x6 x7 Ų x9 ű) h=jT s h'/\∃p i r,s=rT a b Bw x5 p x7 Ų x9 ű/\qcj/\zq9:=by
  intro q hl
  let#[s,h',e,p,i,r,v,y,e3,e4]:=Wz (items:=qU0) (src:=q) (b:=QZ 6) (body:=Ja) (λk A h'=>∃p i r,A=rT a b Bw x5 p x7 Ų x9 ű/\xfb=ups vE (zU0 k)/\zq9) (λk A h' #[_,_,_,_,_,_,o]=>hl h' o) R8 0 (rT a b Bw x5 x6 x7 Ų x9 ű) h #[x6,FD,X,rfl,rfl,H,xY] (by
   rintro k w hw A U ⟨y6,F1,X1,rfl,v,H1,o1⟩
   rw[NQ]at *;show mU m x;let gr:=(QdU (zU0 k) vE).1
   let C:n∈ks F1:=by
    show xre D v
   let L:=(QdU (zU0 (k+1)) vE).1;let N:=(B.gr L λz hz=>F z (FI hz)).len;rw[Qax x,<-v]at N;let#[F2,X2,h2,t1,t2,t3,Z]:=QsV H1 C (m:=m) (Nh N.1 Q) (Nh N.2 Q) (a:=a) (b:=b) (x5:=x5) (x7:=x7) (x9:=x9)
   show#[_,rfl,_,h2,Ý t1,ğ m,F2,X2,rfl,by rw[Qax x,t2,v],t3,o1.trans Z])
  show(g7 y,#[s,h',e,p,i,r,v,y,e3,e4])
 by_cases c:n∈G.map (·.1)
 ·let#[g,J,P]:=TM c;let t:=LL.l _ _ xk2;rw[P]at t
  let M:jwf=jO1:=by
   show qR2;rw[Qbz,Qa6 I.nk J P];rfl
  let u:=Ü xk2
  let#[s,h',e,p,i,r,rfl,y]:=key (sO (.l SL)) (λh' o n D=>by
   cases D;apply h'[g.2+2]?=_
   rw[o.2 _ (NL (Nf (DC u _) hj)) (NL (Nf (DC u _) hf))];show t)
  refine#[p,i,r,h',?_,y];refine Xl (items:=qU0) (src:=sO (.l SL)) (h1:=h) ?_ e
  let em:(mMt "dict" X8 å zzb) (rT a b Bw x5 x6 x7 Ų x9 ű) h=jO1:=by
   simp[M,tyW,LL.d]
  unfold Qm;rw[em];apply(Vy h (ú SL)).map _=_;unfold Vy;simp only[t,Ea];rfl
 ·let hw:xX=[]:=QdW I c
  let M:jwf=zsi:=by
   show qR2;rw[Qbz,YW c];rfl
  let em:(mMt "dict" X8 å zzb) (rT a b Bw x5 x6 x7 Ų x9 ű) h=zsi:=by
   simp[M,tyW,LL.d]
  refine#[x6,FD,X,h,?_,by rw[hw];rfl,H,xY];refine Xl (items:=[]) (src:=nO) (h1:=h) ?_ (by rw[Zp,Bu]);unfold Qm;rw[em];rfl
#print"-"
section
variable{E:ï}{S:Ê}{V:Nat}
abbrev LW(j:Nat)(lw:W)(L:Ê)(h:MH):Prop:=lw=À v5\/∃l,lw=Ä l/\l≠j/\h[l]?=lm
def LW.tru(H:zW4):GV h lw=zZ3 L:=by
 rcases H with rfl|⟨l,rfl,_,e⟩
 ·simp[GV]
 ·simp[GV,e]
def Qtj(I:BV zcf)(hE:∀e∈E,e.2<V)(hV:jh7)(Z:zqh)(wf:Wf FD)(LL:yo h)(p:ϐ<=j)(B:Bd V qcb)(hL:zW4)(hs:∀x∈L,x∈ks FD) :
  ∃i g r c h',jU3=sO (ô (rT a b i x5 g x7 Ų jfb r) h')/\qn1/\zob/\Wf c/\yo h'/\LW j gx qrj h'/\h.length<h'.length/\zT9:=by
 let s:=Ü Z;let P:∀n m,m∈xX->m<V:=λn m hm=>hE _ (mem_sc.mp hm).1;generalize u:h.length=f at *;let H0:RH j f FD [] AI:=#[by rw[NF (ztc s)];show Z,by rw[<-u];simp,by show NL s,by let:=B.len;show(jb,Nh this hV),NO _,wf]
 let LL0:=LL.app zcc
 let key:∀(d:A8),jX4->∃q h',Zp v5 d Ml Jd v5 (rT a b x4 x5 x6 x7 Ų TD ű) AI=jT q h'/\∃i g c t,q=rT a b i x5 g x7 Ų TD ű/\(ks c,t)=qNg L/\jL4:=by
  intro d U
  let#[q,h',e,i,g,c,t,F,D,C,A]:=Wz (items:=zfd) (src:=d) (b:=QZ 4) (body:=Jd) (λk H h'=>∃i g c t,H=rT a b i x5 g x7 Ų TD ű/\(ks c,t)=qNg xo9/\jL4) (λk H h' #[_,_,_,_,_,_,_,o]=>U h' o) v5 0 (rT a b x4 x5 x6 x7 Ų TD ű) AI #[x4,x6,FD,[],rfl,rfl,H0,xY] (by
   rintro k w hw H h1 ⟨y4,y6,F1,X1,rfl,F,H1,X⟩
   rw[NQ]at *;show mU n J;let gr:=(Qoe (E:=E) (S:=S) xo9 qcb).1
   let N:n∈ks F1:=by
    show xre (hs n (EI J)) F
   let B1:=B.gr gr λz #[y,_,hz]=>P y z hz;rw[<-F]at B1;let#[M,F2,X2,h2,t1,t2,t3,t4]:=QtT I hE hV H1 (LL0.ot X p zPd) p zPd B1 N (a:=a) (b:=b) (x5:=x5) (x6:=y6) (x7:=x7) (x9:=sO lw)
   show#[_,rfl,_,h2,Ý t1,ğ n,M,F2,X2,rfl,by rw[Qlo J,t2,F],t3,X.trans t4])
  show(g7 D,#[q,h',e,i,g,c,t,F,D,C,A])
 let fin:∀(d:A8),jX4->Vy AI lw=sO (zfd,d)->∃i g r c h',jU3=sO (ô (rT a b i x5 g x7 Ų ű r) h')/\qn1/\zob/\Wf c/\yo h'/\LW j qg qrj h'/\f<h'.length/\zT9:=by
  intro d U hi;let#[q,h',e,i,g,c,t,rfl,D,C,A]:=key d U
  let ef:=Xl (mi:=Qm BB) (σ:=rT a b x4 x5 x6 x7 Ų TD ű) (h:=vr) (items:=zfd) (src:=d) (h1:=vr) (by
   unfold Qm;let:(Qb 9) (rT a b x4 x5 x6 x7 Ų TD ű) AI=sO (lw,vr):=rfl;rw[this,Nk];apply(Vy AI lw).map _=_
   rw[hi];rfl) e
  refine#[i,g,υ f,c,h',?_,by rw[<-D],C.hj,C.wf,LL0.ot A p zPd,ê #[f,rfl,by show EK s,by rw[<-D];show C.hf],by rw[A.1];simp;show Ni xC3 Af,by rw[A.2 0 (zv5 p) (NL (zed s)),NF (ztc (zed s))]];unfold ZK;generalize ZR tL Ml Jd=fo at ef;simp[u,ef]
 rcases hL with rfl|⟨l,rfl,Q,v⟩
 ·show fin nO (λh' _=>QC _ _) rfl
 ·let Y:=Ü v;let e0:(h++[ţ])[l]?=lm:=by rw[NF Y];show v
  refine fin (sO (.l l)) (λh' o n J=>?_) (by unfold Vy;show yw e0);cases J;apply h'[l]?=_;rw[o.2 l Q (NL (Nf Y (Nv u)))];show e0
def QpA(I:BV zcf)(A:∀e∈E,e.2<V)(hV:jh7){st n j:Nat}{K L x:Ê}(bf:Bf E S n K L x)(t:ϐ<=j):∀{h:MH} {FD:Ah} {lw:W} {x4 x6 x10:Þ} {f:Nat},ks FD=K->zqh->Wf FD->yo h->BI E S V st K L->zW4->n<f ->
  ∃p o m i c h',Qs zOi ZK f (rT a b x4 x5 x6 x7 Ų TD x10) h=sO (ô (rT a b p x5 o x7 Ų m i) h')/\ks c=x/\zob/\Wf c/\zT9:=by
 induction bf with
 |fin K=>
  show(qte,qa0);refine#[x4,x6,sO lw,x10,FD,h,Zz ?_,w,u,wf,rfl];simp[v]
 | @go n K L x s _ ih=>
  show(qte,qa0);subst w;let#[z,y,d,F',h',t1,t2,Z,r,Y,X,t6,U]:=Qtj I A hV u wf LL t #[B.nd,B.lt,NO _] hL B.sub (a:=a) (b:=b) (x4:=x4) (x5:=x5) (x6:=x6) (x7:=x7) (x10:=x10);let#[J,H,F,l,F2,C,Q,P,N,q,M]:=ih (x4:=z) (x6:=y) (x10:=d) (f:=g) t2 Z r Y (B.next A).1 X É;refine#[J,H,F,l,F2,C,?_,P,N,q,M.trans U];rw[Z6 (σ2:=rT a b z x5 y x7 Ų jfb d) (h2:=h') ?_ t1]
  ·show Q
  ·let:L.isEmpty=false:=by cases L with|nil=>show CV s|cons=>rfl
   simp[v,this]
#print"-"
def Qqj{w:W}(a:A6):V1 k zf=zB1:=by
 cases w<;>first|(cases(show zb8 by show(gd a,a)))|simp only[V1,a,if_true]
def Qgo(u:pur a=true)(t:zXj)(l:Sy)(i:Tu)(e:m [a,b,ο] [o]=jkg)(s:g[j]?=sO c)(f:K3 c=true):box frR m [a,b,Ä n] h=sO (ī,h++[c]):=by
 let q:V1 0 [a,b,Ä n]=sO ([a,b,ο],[n]):=by rw[Qqj u,Qqj t];rfl
 unfold box;rw[q,Nk];show jS9 d l i
 simp only[Zu,d,Nk,Ea,e];show Ŕ jSc;let r:=(Nd.mp l)
 let p:Ű o=h:=by rw[<-r.2];show List.set_getElem_self _
 simp[frR,th,res,JV,Zu,Qz,s,IR,Wi _ o i,Wi _ c f,p]
section
variable{S:Ê}{p:È}{out:Ì}
def Qm1:swE (E++[e]) S=if zv then swE E S else swE E S++[zeb]:=by
 unfold swE;rw[F7,Ee]
 by_cases c:zv<;>simp[c]
def QcO:pur (oW o)=true:=jNj
def Y2(A:ù)(ab:Ť)(hm:xr8):∃FD:Ah,Wf FD/\(∀q:Nat,q∈ks FD↔qY2)/\∀(h:MH) (n:Nat),h[n]?=lq->X7 [À sI,À P5,Ä n] h=jnc:=by
 let d:=G5 A Č;let r:=UA A (Nw out.length);generalize hE:uN=E at d r ⊢;let u:∀e∈E,xf8:=λe C=>(d e C).2;let b0:BI E S out.length m [m] [m]:=#[Å,λx c=>by rw[ĸ c];show hm,Å,λx c=>c,λx c hL=>absurd c hL,λx c=>by rw[ĸ c];show .here]
 let#[n0,K',bf,ak,bi]:=QsC (S:=S) (V:=out.length) (a:=m) u (out.length+1) [m] [m] b0 (by simp;show jdg Af)
 let#[ah,h1,l1,I,H,F,D,G,Ls,rfl,rfl,B,lg]:=Zd (items:=lR) (b:=QL qX8) (body:=JS) (λk v h=>∃M z J y G Ls,v=jXj M z J y/\h=Tw/\BV (swE xob S)/\G.length<=k) k8 0 (rT zue zk8 nO nO nO nO nO nO nO) (hL S [] []) #[nO,nO,nO,nO,[],[],rfl,rfl,#[Å,Å,λ_ h=>(M4 h),λ_ h=>by simp[swE]at h],Nw _] (by
  rintro k w hw v h ⟨M,z,J,y,G,Ls,rfl,rfl,B,lg⟩
  rw[NQ]at *;show mU e C;let hk:=Ü C
  let aa:(swE xob S).length<=1000000:=by
   unfold swE;rw[Nr];refine Nh ja9 ?_;rw[Ez];lia
  let#[G',ae,P,Y,t]:=Qb5 (S:=S) B e É aa (a:=À k8) (b:=À P5) (x5:=sO jQ7) (x7:=sO jR4) (x8:=nO) (x9:=nO) (x10:=nO);refine#[_,rfl,_,_,Ý t,sO dX,sO jQ7,sO xrd,sO jR4,G',ae,rfl,rfl,?_,SQ Y (N8 lg _)];rw[E8,C,Fm,Qm1]
  show P)
 show g7 B
 let s:(Tw++xEe)[ϐ]?=sO (AU Ry):=by
  rw[<-Y0 (S:=S) (G:=G)];simp
 let LL:yo zye:=LH.app #[rfl,λi l e=>Qmk e] _;let#[z4,z6,z9,ai,FD,h2,X,u2,U,Q,u4]:=QpA B u (Nq (Ni ab Ð)) bf (j:=ϐ) Č (a:=À k8) (b:=À P5) (x5:=H) (x7:=D) (h:=qca) (FD:=zGa) (lw:=À [QR m]) (x4:=I) (x6:=F) (x10:=nO) (f:=20000000) rfl s .one LL b0 AL É;refine#[FD,Q,λq=>by rw[u2];show bi.all q,zT2];let lj:ϐ<h2.length:=Ü U
 let pk:K3 (AU Hc)=true:=by
  unfold dK;simp[K3];generalize S=L
  induction L with
  |nil=>rfl
  |cons q L Z=>show Aj Z
 let pf:zDc:=by
  unfold fd;simp[K3];generalize FD=L
  induction L with
  |nil=>rfl
  |cons q L Z=>simp[QcO];show Aj Z
 obtain⟨g,hg⟩:∃g,h2=ϯ Hc::g:=by
  cases h2 with
  |nil=>simp at lj
  |cons o g=>show SS g;simp[hL]at u4;rw[u4]
 refine Qgo (j:=dL) (g:=g) ?_ Ç hn pk ?_ (by rw[hg]at U;show U) pf
 ·simp
 ·let ed:∀h:MH,Yb [jCb] h=sO (ī,h++[ϯ Ry]):=λh=>rfl
  let ek:U2 [Ä PV] zye=sO (À [QR m],qca):=by
   let:Kz zye zub=sO Ry:=zRg s
   unfold U2;simp only[this];rfl
  let ec:QD Zv Sn [nO] η Vw jih (rT zue zk8 I H F D nO nO nO) dn=sO (jCb,Tw):=by
   let:=Jy (fin:=Zv) (mi:=Qm ø) (cp:=[nO]) (me:=oi (Aq (B5 (jh xA7)))) (σ:=jXj I H F D) (caps:=[]) (h:=Tw) (items:=P5) (λw=>Î [w,qgh]) rfl þ (λw hw=>Å) Ç;show Ξ
  let ef:=Xl (mi:=Qm î) (σ:=rT zue zk8 nO nO nO nO nO nO nO) (h:=zYf) (items:=lR) (src:=nO) (h1:=zYf) rfl l1;rw[hg]at X;unfold Xd;generalize ZR CN qX7 JS=fo at ef ⊢;generalize Qs zOi ZK 20000000=wh at X ⊢;generalize QD Zv Sn [nO] η Vw jih=co at ec ⊢;let e0:(zYf:MH)=[ϯ Hc,wA]:=rfl;rw[e0]at ef;let el:=Y0 (S:=S) (G:=G) (Ls:=Ls);simp[Qx,ef,ec,ed,ek,el,X]
#print"-"
def Wf.nd(w:Wf FD):zR6:=by
 induction w with
 |one=>simp
 |more _ _ f d=>
  unfold ks at *;rw[Ee,Ek];show#[d,Å,λa g b c=>by show jo c;show λe=>f (e▸g)]
inductive Wk(FD:Ah):Nat->Ê->Prop
 |first:(n,d,nO)∈FD->Wk FD n [n]
 |on:(n,d,sO m)∈FD->Wk FD m L->Wk FD n (n::L)
def Wk.app(k:wK)(g:Ah):Wk (FD++g) n L:=by
 induction k with
 |first h=>show .first (NU _ h)
 |on h _ a=>show .on (NU _ h) a
def Wf.walk(w:Wf FD):∀n∈ks FD,∃L,wK/\qNh:=by
 induction w with
 |one=>
  intro n b;show yG b #[_,.first zCf,Nw _]
 |more _ b d c=>
  intro q a;unfold ks at a;rw[Ee,NI]at a
  show j6 a
  ·show C5 L k l c q a;show#[L,k.app _,by rw[NJ];show w6 l]
  ·show jo a;let#[L,k,l]:=c _ b;show#[_,.on ja3 (k.app _),by simp;show l]
def QjI:∀{FD:Ah},zR6->(n,d,o)∈FD->Xu uB (.inl ũ)=sO zog:=by
 intro FD
 induction FD with
 |nil=>
  intro _ h;cases h
 |cons q FD c=>
  intro nd h;let#[b,a]:=Eo.mp nd
  show Ņ h
  ·simp[Xu,fd]
  ·let ne:q.1≠n:=λe=>b (by apply q.1∈_;rw[e];show zv3);let:=c a h;unfold Xu fd at this ⊢;rw[NB,List.find?_cons_of_neg Px];show this
def Qco(nd:zR6)(k:wK):∀(a:Ê) (f:Nat),L.length<f->a.length+L.length<=1000 ->
  Qs zzg VA f [sO ë,ğ n,ž] [Bm,À (a.map QR)]=sO (ô jL6 [Bm,À ((a++L).map QR)]):=by
 induction k with
 | @first n d h=>
  intro a f b c;obtain⟨g,rfl⟩:∃g,f=g+2:=#[f-2,RF b]
  let j:js0=sO (Î [Á d,oW nO],cC):=by
   show qR3
  let i:uR:=jDf
  rw[Z6 (σ2:=jL6) (h2:=cC) Ç (by
   simp[tyW,i,j,oW])]
  rw[Zz Ç];simp[QR]
 | @on n d m L h k l=>
  intro a f b c;obtain⟨g,rfl⟩:∃g,f=g+1:=#[f-1,zWi b]
  let j:js0=sO (Î [Á d,oW (sO m)],cC):=by
   show qR3
  let i:uR:=jDf
  rw[Z6 (σ2:=[sO ë,ğ m,ž]) (h2:=cC) Ç (by
   simp[tyW,i,j,oW])]
  let:=l (a++[n]) g (by simp at b;show b) (by show BW c;lia);simpa[QR]using this
def GF(w:Wf FD)(m:xba)(o:ze2):∃L,wK/\qNh/\∀(h:MH) (k:Nat),h[k]?=sO jW4->J2 [Ä k,Á n] h=sO (À zJg,h):=by
 let#[L,c,d]:=w.walk n o;refine#[L,c,d,λh k hk=>?_];let f:L.length<=1000:=Nh d m;let e:=Qco w.nd c [] 20000000 (ź f) (Ģ f)
 let l:zDc:=by
  let:∀G:Ah,Ze ((fd G).map (·.2))=true:=λG=>by
   induction G with
   |nil=>rfl
   |cons q G b=>simpa[fd,Ze,pur,QcO]using b
  simpa[K3]using this FD
 let i:Ze zJg=true:=by
  generalize L.reverse=M
  induction M with
  |nil=>rfl
  |cons a M b=>simpa[Ze,pur,QR]using b
 refine Qbn (j:=1) (g:=[À v5,À zJg]) Ç hk l ?_ rfl i;simp only[Dq,Dl]at e;generalize hw:Qs zzg VA 20000000=p at e;unfold Xt;rw[hw];simp[Qx,e,Ge,lsW,QR]
def Qo9(FD:Ah):zDc:=by
 let:∀G:Ah,Ze ((fd G).map (·.2))=true:=λG=>by
  induction G with
  |nil=>rfl
  |cons q G a=>simpa[fd,Ze,pur,QcO]using a
 simpa[K3]using this FD
def Y1{p:È}{out:Ì}(A:ù)(a:Ť)(h0:eZ):∃FD:Ah,Wf FD/\(∀q:Nat,q∈ks FD↔qj1 q)/\∀h:MH,V4 [À sI] h=jnc:=by
 let#[FD,w,q,r]:=Y2 (S:=[]) A a h0;refine#[FD,w,q,è h];let r0:=r [wA] 0 rfl;let b:Ze [W.lst sI]=true:=Å
 refine QaC (j:=1) (g:=[wA,Bm]) b ?_ rfl (Qo9 FD);generalize uN=E at r0 ⊢;simp[Xf,Qx]at r0 ⊢;rw[r0];rfl
def KL{b:Type}{f:b->W}(d:∀x,pur (f x)=true):∀l:Ø b,Ze (l.map f)=true:=by
 intro l
 induction l with
 |nil=>
  show rfl
 |cons a l c=>
  simpa[Ze,d a]using c
def Xe{p:È}{out:Ì}(A:ù)(L:Ê)(hL:∀q∈L,A0)(d:L.length<=2000000)(h:MH):Vc [QJ p,À v5] h=jkh:=by
 let a:∀h:MH,QD Zv Sn zdj η Vw zu9 [Ő,lm,HK] h=jkh:=λh=>by
  let:=Jy (fin:=Zv) (mi:=Qm ø) (cp:=zdj) (me:=Qe wIx ø î) (σ:=[Ő,lm,HK]) (caps:=[HK]) (h:=h) (items:=zfd) (λw=>match w with|Á i=>Qj (sq out i.toNat)|w=>w) rfl þ (λw hw=>by
   show kM q c;let e:qoe=sO zV8:=xra (hL q c)
   simp[QR,e]) (zpe d)
  rw[this,Ei];rfl
 refine Qv (g:=[]) Ç ?_ (by apply Ze _=true;show KL zph L);let f:=A.s [];unfold VV;generalize QD Zv Sn zdj η Vw zu9=co at a ⊢;simp[Qx,f,a]
inductive Gt(p:È):Spt->Prop where
 |zero:Gt p sp0
 |next {s t:Spt}:AX->qk->Gt p t
def Qpq{p:È}{met e out:Ì}{n:Nat}(d:Dfs p met e n out)(c:∀s∈met,AX)(a:∀s∈e,AX):∀s∈out,AX:=by
 induction d with
 |done=>show c
 |skip _ _ b=>show b c (Η s h a)
 | add _ _ b=>
  refine b (jf s h) (jf s h)
  ·show zri h c s
   ·rw[ĸ h];show a _ NA
  ·show Bh h
   ·show .next (a _ NA) h
   ·show a s (C0 h)
def QjV{p:È}{met b out:Ì}{n:Nat}(d:Dfs p met b n out):∃r,out=met++r:=by
 induction d with
 |done=>show#[[],Å]
 |skip _ _ a=>show a
 |add _ _ a=>show Đ r e a;show#[_::r,by rw[e,EH];rfl]
def Qip{p:È}{out:Ì}{n:Nat}(d:xxj n):CD:=by
 cases d with
 |skip h _=>cases h
 |add _ d=>let#[r,e]:=QjV d;show#[r,é e]
def QrP(b:Ϟ):∃out,ù/\(∃r,out=sp0::r)/\∀s∈out,AX:=by
 let#[n,out,d,j,few,nd,a,e]:=Qh7 b;refine#[out,#[few,Ia ((QnQ d).2 sp0 Ç),nd,a,Qbt d Ç,e,Ô s c],Qip d,Qpq d (λ_ h=>A3 h) λs h=>by rw[ĸ h];show .zero];let#[i,_,_,g,f]:=Wh b (a s c);show#[i,g,f]
def Qje{p:È}{out:Ì}(A:ù)(h0:CD){s:Spt}(g:AX):TK/\qj1 iZ:=by
 induction g with
 |zero=>
  show Đ r e h0;refine#[qTj,?_];let:ixS out sp0=0:=by unfold ixS;rw[e];simp
  rw[this];show .here
 | @next s t _ b a=>
  refine#[A.cl _ a.1 _ b,.step a.2 Ç ?_];let c:=W3 a.1
  let d:sq out iZ=s:=by
   let:=WS c;unfold ixS at this ⊢;rw[Nn (Ox a.1),Yby]at this;show(N4 this).symm
  refine Fi.mpr #[_,Ef.mpr c,?_];unfold Ed;rw[d];show yh (MZ t b)
def QeW{l:Ø a}(h:l[i]?=sO x):i<l.length:=Ü h
def QiA{b:Type}{l:Ø b}{a:b}{i j:Nat}(nd:l.Nodup)(h1:l[i]?=sO a)(h2:l[j]?=sO a):i=j:=by
 let d:=QeW h1;let c:=QeW h2;rw[Nn d]at h1;rw[Nn c]at h2;let e:l[i]=l[j]:=by rw[N4 h1,N4 h2]
 show(Iy nd).mp e
def Qsh{xs a:Ã}{h:MH}(b:zCg):ZX qC lW h=sO (À zW7,h):=by
 apply(if zCg then sO (W.lst zW7,h)else nO)=_;rw[Ò b]
def Jk{a b:SM}{σ σ1:MSt}{h h1:MH}{f:SC}(e:ė a=jT σ1 h1)(c:b σ1 h1=f):zV4=f:=by
 unfold Qn;show Β e c
def QuP{a b:SM}{σ:MSt}{h h1:MH}{v:W}(e:ė a=AO h1):zV4=AO h1:=by
 unfold Qn;rw[e];rfl
def Qi9{m:SM}{σ:MSt}{h h1:MH}{v:W}(e:ė m=AO h1):QjJ Aa=zpc:=Tp e
def QoT{m:SM}{σ σ1:MSt}{h h1:MH}(e:ė m=jT σ1 h1):QjJ Aa=M5 h1:=Tp e
def QS{m:ME}{σ:MSt}{h h1:MH}{v:W}{i:Nat}(e:zkb):xuj=sO (ô zJj h1):=by
 unfold QA;rw[e];rfl
def Qqa{t:MT}{a b:SM}{σ:MSt}{h h1:MH}{r:SC}(e:ė t=sO (false,h1))(c:b σ h1=r):zQg=r:=by
 unfold ZI;show Β e c
noncomputable abbrev EE(p:È)(out:Ì):ï:=uN
abbrev NG(p:È)(out:Ì)(S:Ê)(wd:Str)(e:jy):Prop:=qoi->e.1∉S->¬Rch Pp S e.2 e.1
def Wk.mem(k:wK):∀x∈L,x∈ks FD:=by
 induction k with
 |first h=>intro x a;rw[ĸ a];show zv3
 |on h _ b=>
  intro x a
  show Ņ a
  ·show zv3
  ·show b x a
section
variable{N:Nat}{bs ws:Â}{p:È}{out:Ì}{M:í}
def QeL(A:ù)(a:xr8)(h:qY2):A0:=by
 cases h with
 |here=>show a
 |step _ _ h=>show(G5 A Č _ h).2
def QeT{v:Nat}(w:Wf FD)(h:∀q∈ks FD,q<v):FD.length<=v:=by
 let:=Va v (ks FD) w.nd h;unfold ks at this;show zA
def Qpf(A:ù)(h:A0):ixS out jl=q:=by
 let a:=Kh h;let b:=WS Pg;rw[QhX a]at b;show QiA A.nd b (WS h)
noncomputable abbrev gwS(p:È)(M:í)(out:Ì)(x3 x4 x5 x6 x7 x8 x9 x10:Þ):MSt:=[Ő,uc,sO (Ï qkj),x3,x4,x5,x6,x7,x8,x9,x10]
def QpY{t:MT}{a b:SM}{σ:MSt}{h h1:MH}{r:SC}(e:ė t=sO (true,h1))(c:a σ h1=r):zQg=r:=by
 unfold ZI;show Β e c
def Qly(hg:Ľ)(A:ù)(h0:CD)(C:∀s∈out,AX)(b:Ť)(he:e∈AR){wd:Str}{s:Nat}{H:MH}(Q:H[s]?=lq){x9 x10:Þ} :
  (∃B f R,dw S/\jOe=sO (ô (gwS p M out Cv Hb PR dj o6 dk B f) (H++R))) \/
  ∃(La Lb:Ê) (R:MH),jOe=sO (.rt (Ĩ [zGb,.str wd,jIj,jJ0]) (H++R)):=by
 let#[d,P]:=G5 A Č e he;let hv:=(A.rc _ (Kh d)).v;let em:jT4:=λh=>Kg hg hv
 let F:U9 true dX (ú s) H=sO (jn9,H):=by
  let:Kz H (ú s)=sO Hc:=zRg Q
  unfold U9;simp only[this,K9,Nk,Ea,Qi4,if_true]
 by_cases y:qoi
 ·rw [y]at em;let en:XU (sO wd)=.str wd:=rfl;rw[en]at em
  by_cases x:zv
  ·show Cc #[x9,x10,[],λ_ z=>Ai x z,?_];simp[em,F,x]
  ·let#[FD,wf,l,n]:=Y2 (S:=S) A b P;let n:=n H s Q
   let U:U9 false dX (uI H) (H++[Bm])=sO (ă (AQ (e.1∈ks FD)),H++[Bm]):=by
    let:Kz (H++[Bm]) (uI H)=sO uB:=by simp[Kz]
    unfold U9;simp only[this,K9,Nk,Ea,Qc3,EY,if_false]
   by_cases u:e.1∈ks FD
   ·let hk:∀q∈ks FD,A0:=λq a=>QeL A P ((l q).mp a);let g:FD.length<=200:=Nh (QeT wf hk) b;let#[F0,L,m,e0]:=Y1 A b (zed d);let j:∀q∈ks F0,A0:=λq a=>QeL A (zed d) ((m q).mp a);let i:xk7:=Nh (QeT L j) b
    let hz:e.1∈ks F0:=by
     let hm:=Kh d;let:=xrf C;rw[Qpf A d]at this;show(m _).mpr this
    let#[La,wa,la,ea]:=GF L (T9 i) hz;let#[Lb,Y,Z,eb]:=GF wf (T9 g) u;let J:=e0 (H++zo7);let t:=ea jtb (TH H zo7) Ç;let o:=eb jtb H.length Ç;let X:=λh=>Xe A La.reverse (λq a=>j q (wa.mem q xy7)) (by rw[ED];show Nq (ź (Nh la i))) h
    let I:=λh=>Xe A (e.1::Lb.reverse) (λq a=>by
     show Ņ a
     ·show d
     ·show hk q (Y.mem q xy7)) (by rw[NS,ED];show Ni (Nh Z g) Ð) h
    let c:∀h,ZX (Ï [.int (e.1:Nat)]) (Ï (Lb.reverse.map QR)) h=sO (À ((e.1::Lb.reverse).map QR),h):=λh=>by
     rw[Qsh (by simp;show Nh (Í:1+Lb.length<=1000) Ð)];simp[QR]
    show jJ #[La.reverse,e.1::Lb.reverse,[Bm,k4],?_];generalize La.reverse=La at t X ⊢;generalize Lb.reverse=Lb at o I c ⊢;let D:H++zo7++qA=H++[MO.dic uB,MO.dic mY]:=Å
    rw[D]at J t o;simp at J t o;rw[NB]at I c;refine QpY (h1:=H) qNi (Jk (QS n) (QpY (h1:=H++[Bm]) (by simp[U,u]) (Jk (QS (v:=À (La.map QR)) (h1:=H++[Bm,k4]) (by simp[J,t])) ?_)));simp[o,X,c,I]
   ·show Cc #[sO (uI H),x10,[Bm],λ_ _ z=>u ((l _).mpr z),?_];refine QpY (h1:=H) qNi (Jk (QS n) ?_);simp[U,u]
 ·let ne:∀h,wEq (XU zI0) zYd h=sO (vC,h):=λh=>by
   cases z:C4 pA  with
   |none=>rfl
   |some w=>
    rw[z]at y;let:¬w=wd:=λe=>y (by rw[e]);apply wEq (Ad w) zYd h=_;rw[Qfd];simp[this]
  show Cc #[x9,x10,[],λz=>Ai z y,?_];simp[em,ne]
abbrev GrW(out:Ì)(w:W):Prop:=∃(a:Str) (La Lb:Ê),w=Î [zGb,Ù a,jIj,jJ0]
def QjX(Q:Ľ)(A:ù)(h0:CD)(o:∀s∈out,AX)(q:Ť){wd:Str}{s:Nat}{H:MH}(B:H[s]?=lq){x5 x6 x7 x8 x9 x10:Þ} :
  (∃i g f d c a x,(∀e∈AR,dw S)/\jPc=sO (ô (gwS p M out Cv Hb i g f d c a) x)) \/
  ∃w x,GrW out w/\jPc=sO (.rt w x):=by
 let J:=Qau (items:=(EE p out).map se) (b:=QL zDf) (body:=Zn) (λj y h=>(∀e∈(EE p out).take j,dw S)/\∃i g f d c a R,y=gwS p M out Cv Hb i g f d c a/\h=H++R) jJ1 qkj 0 (gwS p M out Cv Hb x5 x6 x7 x8 x9 x10) H #[Å,_,_,_,_,_,_,[],rfl,Å] (by
  rintro j w hw y h ⟨P,i,g,f,d,c,a,R,rfl,rfl⟩
  show mU e C;refine#[gwS p M out Cv Hb PR dj o6 dk c a,rfl,?_];let n:(H++R)[s]?=lq:=by rw[NF (QeW B)];show B
  rcases Qly (M:=M) Q A h0 o q (EI C) (wd:=wd) n (x9:=c) (x10:=a)with⟨X,I,E,m,t⟩|⟨La,Lb,E,t⟩
  ·show Cc #[_,_,t,Ô U l,_,_,_,_,_,_,R++E,rfl,Å];rw[NQ]at *;rw[E8,C]at l
   show cM l z P U
   ·show yG z m
  ·show Ć #[_,_,t,wd,La,Lb,rfl])
 rcases J with⟨F,D,u,m,i,g,f,d,c,a,R,rfl,rfl⟩|⟨v,D,u,L⟩
 ·show(g7 m,Ğ #[i,g,f,d,c,a,_,m,qhf])
 ·show Ć #[v,D,L,qhf]
def Qfn(hg:S5)(U:AG)(A:ù)(h0:CD)(X:∀s∈out,AX)(x:Ť)(hM:AC) :
  ∃w:W,(w=.non/\(∀wd∈Wds p,∀e∈AR,dw ql0)\/GrW out w)/\∀h:MH,Yc ud h=uj:=by
 let es:=λh=>W5 A h;let ew:=λh=>K6 hg U h
 let lp:=Qau (items:=qY3) (b:=QZ 3) (body:=Vq) (λj σ _=>(∀wd∈(Wds p).take j,∀e∈AR,dw ql0)/\∃L y n m l i d a,σ=gwS p M out L y n m l i d a) jJ1 yP 0 (gwS p M out nO nO nO nO nO nO nO nO) [] #[Å,_,_,_,_,_,_,_,_,rfl] (by
  rintro j w hw σ h ⟨hj,L,y,n,m,l,i,d,a,rfl⟩
  rw[Nt]at hw;let#[wd,S,rfl]:=Ng.mp hw;refine#[gwS p M out Cv y n m l i d a,rfl,?_];let eg:=QcZ (M:=M) A x hM (w:=wd) h;let hs:(h++[ϯ qpj])[h.length]?=sO (AU qpj):=Å
  rcases QjX (M:=M) hg A h0 X x (wd:=wd) hs (x5:=n) (x6:=m) (x7:=l) (x8:=i) (x9:=d) (x10:=a)with⟨z5,z6,z7,z8,z9,J,H',H,t⟩|⟨v,H',I,t⟩
  ·show Cc #[gwS p M out Cv jfb z5 z6 z7 z8 z9 J,H',?_,Ô w' o,_,_,_,_,_,_,_,_,rfl]
   ·show qR4
   ·rw[NQ]at *;rw[E8,S]at o
    show γ o z
    ·show hj w' z
    ·show yG z H
  ·show jJ #[v,H',?_,I]
   show qR4)
 let ei:∀(Q P F E D C B c:Þ),Qm mB (gwS p M out Q P F E D C B c) []=sO (qY3,nO,[]):=λQ P F E D C B c=>by
  let:(Qf 1 ZT P4) (gwS p M out Q P F E D C B c) []=sO (À yP,[]):=by simp[ew]
  show zuf
 show qei u
 rcases lp with⟨aa,Y,Z,H,L,y,n,m,l,i,d,a,rfl⟩|⟨v,Y,Z,I⟩
 ·let ef:=jWb;show g7 H;refine#[.non,Ý (ϔ H),λh=>Qv (g:=Y) u ?_ rfl];show Qi9 (Jk xfe (Jk ef rfl))
 ·let ef:=jWb;refine#[v,ê I,λh=>Qv (g:=Y) u ?_ ?_]
  ·show Qi9 (Jk xfe (QuP ef))
  ·let#[wd,La,Lb,rfl]:=I;show juc
#print"-"
section
variable{p:È}{out:Ì}{M:í}
def mem_shL:q∈zW3↔A0/\w∈Pz:=by
 unfold shL;rw[EL,Ef,decide_eq_true_eq]
def mem_wa{E:ï}{q m:Nat}:q∈wa E m↔(q,m)∈E:=by
 unfold wa;rw[NC];constructor
 ·rintro⟨e,a,rfl⟩
  let#[c,b]:=EL.mp a;let:e.2=m:=é b
  rw[<-this];show c
 ·intro h;show#[(q,m),EL.mpr #[h,Å],rfl]
structure Kp(p:È)(out:Ì)(M:í)(n:Nat)(al:vd):Prop where
 nd:(al.map (·.2)).Nodup
 md:∀x∈al,C4 (sq out x.2)=sO x.1
 rc:∀x∈al,∃m,(x.2,m)∈AR/\Rch zxf (shL M out x.1) m n
abbrev UR(p:È)(out:Ì)(M:í):Prop:=∀a,∀e∈AR,NG p out (shL M out a) a e
abbrev nxt(p:È)(out:Ì)(M:í)(q:Nat)(al:vd):vd:=(al.filter (yt x zqi))++(mdS p jl).toList.map jHc
def QjE{n:Nat}:Kp p out M n []:=#[Å,Å,Å]
def Qjc(A:ù)(l:ϣ){q n:Nat}{al:vd}(k:Kp p out M q al)(h:(q,n)∈AR):Kp p out M n qKi:=by
 let u:=xbb h
 let keep:∀x∈al.filter (λx=>decide zqi),x∈al/\q∉shL M out x.1:=λx c=>by
  let#[f,d]:=EL.mp c;let d:x.1∉Pz:=é d
  show#[f,λz=>d (mem_shL.mp z).2]
 refine#[?_,Γ c,Γ c]
 ·unfold nxt;rw[Ee,Ek];refine#[Ybz (Oh.map _) k.nd,?_,?_]
  ·cases C4 jl<;>simp
  ·intro a s b r;show(Ŭ x c s,Ŭ y o r,zqb o);let hw:C4 jl=sO w:=by simpa using hw
   intro e;let e:x.2=q:=e;show xrg;let g:=k.md x f;rw[e,hw]at g;let i:w=x.1:=N4 g;let#[m,j,t]:=k.rc x f;rw[e]at j;show l x.1 (q,m) j (by rw[hw,i]) d t
 ·show Bh c
  ·show k.md x (keep x c).1
  ·show zqb c;simpa using hw
 ·show Bh c
  ·show xrg;let#[m,g,i]:=k.rc x f;show#[m,g,.step i d h]
  ·show(zqb c,#[n,h,.here])
def Qjy(A:ù){n:Nat}{al:vd}(k:Kp p out M n al):qI4:=by
 let:=Va out.length (al.map (·.2)) k.nd λx b=>by
  show Ŭ y a b;let#[m,c,_]:=k.rc y a;show(G5 A Č _ c).1
 show zA
abbrev cnt(W:Â)(al:vd):Nat:=(al.filter (yt x (x.1∈W))).length
def QeP{q:Nat}{al:vd}{k:Ky}:((cnt k.2 qKi:Nat):Int)=cnt (ask p out M k q).1.2 al+zD6:=by
 unfold cnt nxt ask;rw[F7,NJ,List.filter_filter]
 let b:(al.filter (AY x (decide xkc&&decide zqi)))=al.filter (yt x (x.1∈qki)):=by
  refine YbJ λx _=>?_;rw[F4];simp[lf]
 rw[b]
 let a:(((((mdS p jl).toList.map jHc).filter (yt x xkc)).length:Nat):Int)=qj0:=by
  cases C4 jl  with
  |none=>simp[moI,inO]
  |some w=>by_cases c:w∈k.2<;>simp[moI,inO,c]
 rw[<-a];simp
inductive Der(p:È)(out:Ì)(M:í):Ky->ja5 where
 |zero (k:Ky):Der p out M k 0
 |up {k:Ky} {q:Nat} {v:Int} (h:Der p out M Rp v) (hq:q∈nX):Der p out M k (v+zD6)
def Qqx(A:ù)(a:ϣ){k:Ky}{v:Int}(d:zO9):∃al,Kp p out M k.1 al/\(cnt k.2 al:Int)=v:=by
 induction d with
 |zero k=>show#[[],QjE,rfl]
 |@up k q v d c b=>
  let#[al,f,e]:=b;refine#[nxt p out M q al,Qjc A a f (mem_wa.mp c),?_];rw[QeP,e]
def QiH(A:ù)(c:ϣ){k:Ky}{v:Int}(d:zO9):0<=v/\v<=out.length:=by
 let#[b,g,a]:=Qqx A c d;let f:=Qjy A g;let e:cnt k.2 b<=b.length:=E5 _ _;constructor
 ·rw[<-a];show Ybp _
 ·rw[<-a];show O2.mpr (Nh e f)
#print"-"
structure KeyE{κ:Type}(ek:κ->W)(et:κ->Tr):Prop where
 nr:∀k,nrm (ek k)=sO jc3
 inj:∀a b,et a=et b->a=b
structure MM{κ ι:Type}(ek:κ->W)(eo:ι->MO)(h:MH)(T:Nat)(G:kY):Prop where
 d:h[T]?=sO (Α (G.map zC7))
 o:∀e∈G,h[e.2.1]?=sO (eo e.2.2)
 nd:(T::G.map (·.2.1)).Nodup
 kd:(G.map (·.1)).Nodup
section
variable{κ ι:Type}{ek:κ->W}{et:κ->Tr}{eo:ι->MO}{h h':MH}{T:Nat}{G:kY}
open Classical in
abbrev gAt(G:kY)(k:κ):Option (Nat×ι):=(G.find? zs3).map (·.2)
def VW{k:κ}{q:Nat×ι}(e:zm7):(k,q)∈G:=by
 classical
 unfold gAt at e;show Ϻ r a e;let d:=List.find?_some a;let c:=FJ a;let b:r.1=k:=of_decide_eq_true d;rw[<-b];show c
def Qa5{k:κ}(e:yc=nO):∀r∈G,r.1≠k:=λr a z=>by
 classical
 unfold gAt at e;rw[Fj,Dr]at e;show e r a (decide_eq_true z)
def Qjt(K:KeyE ek et)(k:κ):VO (G.map λe=>(zYg,zNa)) jc3=(gAt G k).map λq=>zfe:=by
 classical
 unfold VO gAt
 induction G with
 |nil=>rfl
 | cons e G a=>
  show i5 c e k
  ·let:decide qmc=true:=by rw[K.nr,c];simp
   simp only[this,vv c];rfl
  ·let:decide qmc=false:=by rw[K.nr];show Hm c (K.inj _ _ z)
   simp only[this,S7 c];show a
def MM.frame(M:oI)(e:∀a∈T::G.map (·.2.1),Bx):rJ h' G:=
 #[by rw[e T NA];show M.d,λx b=>by rw[e _ (C0 (EO b))];show M.o x b,M.nd,M.kd]
def MM.lt(M:oI):∀a∈T::G.map (·.2.1),vx:=λa b=>by
 show Ņ b
 ·show(Nd.mp M.d).1
 ·show(Ŭ e c b,zU (M.o e c))
def Qt{o:MO}{a b:Nat}(c:b<h.length):(h.set b o)[a]?=if b=a then sO o else h[a]?:=by
 rw[Ig];split
 ·show jb5;first|rfl|rw[Ò c]
 ·rfl
open Classical in
abbrev Qar(G:kY)(k:κ)(f:zQ):kY:=G.map λe=>if e.1=k then(e.1,e.2.1,f e.2.2)else e
def Qay(k:κ)(f:zQ):(Qar G k f).map (·.1)=G.map (·.1):=by
 classical
 show zwj
def Qad(k:κ)(f:zQ):(Qar G k f).map (·.2.1)=G.map (·.2.1):=by
 classical
 show zwj
def Qnb(k:κ)(f:zQ):(Qar G k f).map (λe=>(zYg,zNa))=G.map zC7:=by
 classical
 show zwj
def MM.upd(M:oI){k:κ}{i:Nat}{x:ι}(f:zQ)(e:yc=Ċ i x):rJ (h.set i (eo (f x))) xkd:=by
 classical
 let m:=VW e;let s:=M.lt i (C0 (CY (Ϡ m)))
 let v:i≠T:=λz=>by
  let:=xff;show this (CY #[_,m,z])
 refine#[?_,Ô r u,by rw[Qad];show M.nd,xrh M]
 ·rw[Qt s,Ó v,Qnb];show M.d
 ·unfold Qar at u;show Ŭ q n u
  show SN c q
  ·let:q=(k,i,x):=by
    let:=M.kd;show jJ2;let l:(G.map (·.1))[a]?=sO k:=by rw[Nt,j];show jeg c
    let t:(G.map (·.1))[b]?=sO k:=Td g
    let:a=b:=(OM (Ü l) M.kd).mp (Hd l t);show(xxg,N4 g)
   subst this;rw[Ò c];apply(h.set i _)[i]?=_;rw[Qt s,į]
  ·rw[Ó c]
   let p:i≠q.2.1:=λz=>c (by
    show jJ2;let nd:=(Eo.mp M.nd).2;let l:(G.map (·.2.1))[a]?=sO i:=by rw[Nt,j];show congrArg sO z.symm
    let t:(G.map (·.2.1))[b]?=sO i:=Td g
    let:a=b:=(OM (Ü l) nd).mp (Hd l t);show xxg;rw[N4 g])
   rw[Qt s,Ó p];show M.o q n
def MM.new(M:oI){k:κ}{n:Nat}{x:ι}(e:yc=nO)(l:h[n]?=sO (eo x))(j:n∉T::G.map (·.2.1)):rJ (h.set T (Α ((G++[(k,n,x)]).map zC7))) (G++[(k,n,x)]):=by
 let i:=M.lt T NA;let g:=xff;refine#[HU i,Ô r c,?_,?_]
 ·show Bh c
  ·let:T≠r.2.1:=jI g (by rw[z];show EO c);rw[Qt i,xy9];show M.o r c
  ·rw[ĸ c];let:T≠n:=λz=>zJ6 j z;rw[Qt i,xy9];show l
 ·rw[Ee,<-Yac,Ek]
  show#[M.nd,Å,λa f b d z=>j (by
   let:b=n:=é d
   rw[<-this,<-z];show f)]
 ·rw[Ee,Ek];refine#[M.kd,Å,λa f b d z=>?_];let:b=k:=é d
  subst this;subst z;let#[r,c,hk]:=TM f;show Qa5 e r c hk
#print"-"
section
variable{κ ι:Type}{ek:κ->W}{et:κ->Tr}{ei:ι->W}{h:MH}{T:Nat}{G:jzc}
abbrev eoL(ei:ι->W)(l:Ø ι):MO:=À (l.map ei)
#print"-"
def kyK:KeyE Qr trK:=#[λ_=>Wp,λ_ _ h=>G4 h]
section
variable{α:Type}
abbrev tb(f:α->W)(L:iL):ε:=u9 L e (zC,f e.2)
abbrev tv(L:iL)(k:Ky):Ū α:=(L.find? zs3).map (·.2)
abbrev tu(L:iL)(k:Ky)(v:α):iL:=if zm8 then L.map (λe=>qB e v)else L++zZ0
variable{f:α->W}{L:iL}{k:Ky}{v:α}{h:MH}{n:Nat}
def QdQ:VO dq jeb=(tv L k).map f:=by
 unfold VO tb tv
 induction L with
 |nil=>rfl
 |cons e L a=>
  show i5 c e k
  ·simp[c,Wp]
  ·let:¬trK e.1=trK k:=jI c (G4 z);simp only[Wp,Ij,this,c,decide_false];show a
def QpW:Uu dq jeb Ϫ (f v)=tb f zW5:=by
 unfold Uu tu;rw[QdQ,FF]
 by_cases c:zm8
 ·rw[Ò c,Ò c];unfold tb;rw[Ei,Ei];refine xri;simp only[Function.comp,Wp,Ij]
  show SN d e
  ·rw[if_pos (by rw[d]),Ò d]
  ·rw[if_neg (λz=>d (G4 z)),Ó d]
 ·rw[Ó c,Ó c];simp[tb]
def Qrv{g:Bool}(a:zG4):U8 g Ϫ Φ h=sO (ă (if g=true then ! zDh else zDh),h):=by
 let:r4=sO dq:=fI a
 unfold U8;simp only[this,Wp,Nk,Ea,QdQ,FF]
def QbU(b:zG4)(a:jG L=sO v):J3 Φ Ϫ h=sO (f v,h):=by
 let:r4=sO dq:=fI b
 unfold J3;simp only[this,Wp,Nk,QdQ,a,Ea]
def QaB(a:zG4)(b:iq):J1 Φ Ϫ (f v) h=sO (Hg (Α (tb f zW5))):=by
 unfold J1;simp only[a,Wp,Nk,QpW];show Ŕ (by unfold tb;rw[Nr];show b)
def QjG(a:zm9):tu L k v=L++zZ0:=by unfold tu;rw[a];rfl
def tv_none:zm9↔k∉L.map (·.1):=by
 unfold tv;rw[Fj,Dr];simp only[decide_eq_true_eq,NC,not_exists,not_and]
def JX(h:k∈L.map (·.1)):∃v,jG L=sO v:=by
 cases c:jG L with
 |none=>show ý h (tv_none.mp c)
 |some v=>show Mq v
def YZ(a:k∈L.map (·.1)):(tu L k v).map (·.1)=L.map (·.1):=by
 let#[w,hw]:=JX a;unfold tu;rw[hw];simp only[Option.isSome_some,if_true,Ei];refine xri;show qE4
def V5{k':Ky}:tv zW5 k'=if k'=k then sO v else tv L k':=by
 unfold tu
 by_cases c:zm8
 ·rw [Ò c];let#[w,hw]:=DY.mp c
  let key:∀(L:iL),tv (L.map λe=>qB e v) k'=if k'=k then(tv L k').map (λ_=>v)else tv L k':=by
   intro L
   induction L with
   |nil=>simp[tv]
   | cons e L b=>
    unfold tv at b ⊢;show i5 d e k'
    ·show SN a e
     show qR5 d a
     ·let:¬k'=k:=pd a d;simp[d,this]
    ·show SN a e
     ·let j:¬k=k':=pd d a;simp only[a,if_true,j,decide_false];show b
     ·simp only[a,if_false,d,decide_false];show b
  rw[key]
  show Ě d k' k
  ·subst d;rw[į,į,hw];rfl
  ·rw[Ó d,Ó d]
 ·rw[Ó c];let g:zm9:=é c
  unfold tv at g ⊢;rw[YbK]
  show Ě d k' k
  ·subst d;rw[Fj]at g;rw[g];simp
  ·let:[(k,v)].find? (λe=>decide (e.1=k'))=nO:=by
    rw[Dr];intro x i;rw[ĸ i];simp;show λz=>d z.symm
   rw[this,Option.or_none,Ó d]
def Qn4(a:k∈L.map (·.1)):(tu L k v).length=L.length:=by
 let:=RW (YZ (v:=v) a);show ϻ
#print"-"
abbrev kO:jc4->W
 |ã k=>Qr k
 |none=>.non
noncomputable abbrev GA:=List (Ky×Nat×ľ)
noncomputable abbrev lsF(b a c:Nat):Θ W:=[("numbers",Ä b),("risen_by",Ä a),("askers",Ä c)]
structure LsH(C:Addr)(h:MH)(r aN aR aA:Nat)(D:ľ)(B:jP)(G:GA):Prop where
 i:h[r]?=sO zD5
 n:h[aN]?=sO (Α (tb W.int D))
 b:h[aR]?=sO (Α (tb kO B))
 g:qNj h
 d3:r≠aN/\r≠aR/\aN≠aR
 dg:∀a∈aA::G.map (·.2.1),a≠r/\zig/\zih
 kd:G.map (·.1)=D.map (·.1)
 kb:B.map (·.1)=D.map (·.1)
noncomputable abbrev fpL(r b a c:Nat)(G:GA):Ê:=r::b::a::c::G.map (·.2.1)
section
variable{C:Addr}{h:MH}{r aN aR aA:Nat}{D:ľ}{B:jP}{G:GA}
def V6{fs:Θ W}{f:Str}{v:W}(e:h[r]?=zPi)(b:zs2):Z5 C f qh h=Ċ v h:=by
 let a:zIh=sO fs:=by
  unfold Qbo;show yw e;simp
 unfold Z5;rw[a,Nk,b];rfl
def LsH.fld(H:Ÿ):Z5 C "numbers" qh h=xfg/\Z5 C "risen_by" qh h=sO (.ref aR,h)/\Z5 C "askers" qh h=sO (.ref aA,h):=by
 let a:zIh=sO ql2:=by
  unfold Qbo;simp only[H.i];simp
 unfold Z5;show Β a v7
def LsH.nod(H:Ÿ):(D.map (·.1)).Nodup:=H.kd▸H.g.kd
def LsH.len(H:Ÿ):G.length=D.length/\B.length=D.length:=by
 let b:=qY4 H;let a:=congrArg List.length H.kb;simp at b a;show B3 b a
def LsH.lt(H:Ÿ):∀a∈Cp,vx:=λa c=>by
 show Ņ c
 ·show(Nd.mp H.i).1
 ·show Ņ c
  ·show(Nd.mp H.n).1
  ·show Ņ c
   ·show(Nd.mp H.b).1
   ·show H.g.lt a c
def LsH.frame{h':MH}(H:Ÿ)(e:∀a∈Cp,Bx):ϵ h' D B:=
 #[by rw[e r Ç];show H.i,by rw[e aN Ç];show H.n,by rw[e aR Ç];show H.b,H.g.frame λa c=>e a (by show BW c;rcases c with rfl|c<;>simp[*]),H.d3,H.dg,H.kd,H.kb]
def QeV{mo mi mv:ME}{σ:MSt}{h h1 h2 b a:MH}{o i v:W}(f:zlc)(e:mo σ h1=Ċ o h2)(d:mi σ h2=Ċ i b)(c:J1 o i v b=sO a):qXg=jT σ a:=by
 unfold Kt;rw[f,Nk,e,Nk,d,Nk,c];rfl
def un9{f:W->qj}{m:ME}{σ:MSt}{h h1:MH}{x:W}{r:Ú}(e:zqa)(a:f x h1=r):mUn f m σ h=r:=by
 unfold mUn;show Β e a
def Wx{f:yC}{a b:ME}{σ:MSt}{h h1 h2:MH}{x y:W}{r:Ú}(d:ė a=Ċ x h1)(c:b σ h1=Ċ y h2)(e:f x y h2=r):Qe f a b σ h=r:=by
 unfold Qe;rw[d,Nk,c];show e
def Qc2(H:Ÿ){k:Ky}(hk:k∉D.map (·.1))(A:D.length<1000000) :
  ∃h',QX C [Ä r,Qr k] h=M5 h'/\LsH C h' r aN aR aA qq0 qn2 (G++zEg)/\h'.length=zXb/\∀a,jnd:=by
 let#[l1,l2]:=H.len;let z:b9:=NZ A Ð;let hN:=qA9;let F:=qAa;let w:=H.lt r Ç;let hA:=H.lt aA Ç;let#[Z,Y,X]:=H.d3;let J:=H.dg aA Ç;let vn:jG D=nO:=tv_none.mpr hk;let vb:jG B=nO:=tv_none.mpr (by rw[H.kb];show hk)
 let M:yc=nO:=by
  cases c:yc with
  |none=>rfl
  |some q=>show absurd (by rw[<-H.kd];show yh #[_,VW c,rfl]) hk
 let Q:J1 xyb Ϫ oJ h=sO (h.set aN zta):=by
  let:=QaB (f:=W.int) (k:=k) (v:=0) H.n z;rw[QjG vn]at this;show this
 generalize u:h.set aN zta=m at Q;let g1:∀a,m[a]?=if aN=a then sO zta else h[a]?:=λa=>by rw[<-u,Qt hN]
 let L1:m.length=h.length:=by rw[<-u,Es]
 let S:m[r]?=sO zD5:=by rw[g1,j5 Z];show H.i
 let P:J1 xyc Ϫ .non m=sO (m.set aR ztb):=by
  let:=QaB (f:=kO) (k:=k) (v:=nO) (h:=m) (n:=aR) (L:=B) (by rw[g1,Ó X];show H.b) (j0 l2 z);rw[QjG vb]at this;show this
 generalize t:m.set aR ztb=o at P;let g2:∀a,o[a]?=if aR=a then sO ztb else m[a]?:=λa=>by rw[<-t,Qt (j0 L1 F)]
 let l:o.length=h.length:=by rw[<-t,Es,L1]
 let i2:(o++dO)[r]?=sO zD5:=by rw[NF (j0 l w),g2,j5 Y];show S
 let M1:qNj jnb:=H.g.frame λa j=>by
  let hd:=H.dg a j;rw[NF (by rw[l];show H.g.lt a j),g2,if_neg (Eb hd.2.2),g1,if_neg (Eb hd.2.1)]
 let p:(o++dO)[h.length]?=sO (eoL KY ([]:ľ)):=by rw[<-l];simp[eoL]
 let E:h.length∉aA::G.map (·.2.1):=iI q (H.g.lt _ q);let M2:=M1.new (k:=k) (n:=h.length) (x:=[]) M p E
 let N:J1 zYh Ϫ gx jnb=sO ((o++dO).set aA (Α jq9)):=by
  let U:=Qjt (G:=G) kyK k;rw[M,Yan]at U;unfold J1;simp only[M1.d,Wp,Nk];show Ŕ (by rw[Nr,l1];show z);unfold Uu;rw[U];simp
 generalize s:(o++dO).set aA (Α jq9)=I at N M2;let g3:∀a,a≠aA->vx->I[a]?=o[a]?:=λa j A=>by rw[<-s,Qt (by simp[l];show E9 hA),j5 j,NF (j0 l A)]
 refine#[I,?_,#[?_,?_,?_,M2,H.d3,?_,?_,?_],by rw[<-s,Es,NJ,l];rfl,Õ a j y]
 ·unfold QX Qx;refine QoT (σ1:=[υ r,sO Ϫ]) (h1:=I) ?_;refine Jk (QeV (v:=wH) (h1:=h) rfl (un9 rfl H.fld.1) rfl Q) ?_;refine Jk (QeV (v:=.non) (h1:=m) rfl (un9 rfl (V6 S rfl)) rfl P) ?_;refine QeV (v:=ī) (h1:=o++[ţ]) ?_ (un9 rfl (V6 i2 rfl)) rfl N;rw[<-l];rfl
 ·rw[g3 r (Eb J.1) w,g2,j5 Y,g1,j5 Z];show H.i
 ·rw[g3 aN (Eb J.2.1) hN,g2,j5 X,g1,į]
 ·rw[g3 aR (Eb J.2.2) F,g2,į]
 ·intro a j;rw[Ee,<-Yac]at j
  show Bh j
  ·show H.dg a j
  ·let:a=h.length:=é j
   show uY #[EK w,EK hN,EK F]
 ·simp[H.kd]
 ·simp[H.kb]
 ·let n1:a≠r:=gY;let n2:zig:=gY;let n3:zih:=gY;let n4:a≠aA:=gY;rw[g3 a n4 y,g2,j5 n3,g1,j5 n2]
#print"-"
abbrev gL(G:GA)(k:Ky):ľ:=match yc with
 |ã q=>q.2
 |none=>[]
def Gh{G:GA}{k:Ky}(h:k∈G.map (·.1)):∃q,zm7:=by
 cases e:yc with
 |some q=>show Mq q
 |none=>
  let#[r,a,z]:=TM h;show ý z (Qa5 e r a)
def QaJ{G:GA}{k k':Ky}{n:Nat}(e:yc=nO):gL qU1 k'=gL G k':=by
 let:gAt qU1 k'=(gAt G k').or (if k=k' then sO (n,[])else nO):=by
  classical
  unfold gAt;rw[YbK,Option.map_or];congr 1
  show Ě c k k'
  ·simp[c]
  ·simp[c]
 unfold gL;rw[this];cases z:gAt G k' with
 |some q=>rfl
 |none=>
  show Ě c k k'
  ·rw[Ò c];rfl
  ·rw[Ó c];rfl
section
variable{κ ι:Type}{G:jzc}
open Classical in
def Ql0{k k':κ}(f:Ø ι->Ø ι):gAt xkd k'=(gAt G k').map λq=>(q.1,if k'=k then f q.2 else q.2):=by
 classical
 unfold gAt Qar
 induction G with
 |nil=>rfl
 | cons e G a=>
  show i5 c e k'
  ·show SN d e
   show qR5 c d
   ·let:k'≠k:=pd d c;simp[c,d,this]
  ·show SN d e
   ·let b:¬k=k':=pd c d;simp[c,d,b];show Aj a
   ·simp[c,d];show Aj a
#print"-"
def Qp3{G:GA}{k k':Ky}{v v':BT}(a:(gAt G k).isSome=true):v'∈gL (Qar G k (·++[v])) k'↔v'∈gL G k'\/(k'=k/\v'=v):=by
 let:=Ql0 (G:=G) (k:=k) (k':=k') (·++[v]);unfold gL;rw[this]
 show Ě c k' k
 ·subst c;let#[q,b]:=DY.mp a;rw[b];simp
 ·cases gAt G k' with
  |none=>simp[c]
  |some q=>simp[c]
section
variable{C:Addr}{h:MH}{r aN aR aA:Nat}{D:ľ}{B:jP}{G:GA}
def LsH.ixA(H:Ÿ){k:Ky}{q:Nat×ľ}(a:zm7):J3 zYh Ϫ h=sO (zfe,h):=by
 let:XT h zYh=sO (G.map λe=>(zC,Ha e)):=by simp only[XT,H.g.d]
 unfold J3;simp only[this,Wp,Nk,Qjt kyK,a,Ea]
def Qkg{σ:MSt}{mo mk mv:ME}{k:Ky}{v:BT}(H:Ÿ)(hk:k∈D.map (·.1))(hz:∀e∈G,jO2)(s:qt1)(t:mk σ h=xyd)(p:∀h,qS8=sO (KY v,h)) :
  ∃h',QQ (ŝ (Qe J3 ql3 mk) (Qa mv Qc)) σ h=jT σ h'/\LsH C h' r aN aR aA D B (Qar G k (·++[v]))/\ij/\∀a,cZ->Bx:=by
 let#[q,f]:=Gh (G:=G) (k:=k) (xye H);let j:=VW f;let c:q.1∈G.map (·.2.1):=NC.mpr (Ϡ j);let l:h[q.1]?=zrd:=H.g.o _ j;let d:q.1<h.length:=Ü l;let u:=(Wx (un9 s H.fld.2.2) t (H.ixA f):Qe J3 ql3 mk σ h=sO (zfe,h));let#[y,x,w]:=H.dg q.1 (C0 c);refine#[h.set q.1 (eoL KY (q.2++[v])),?_,#[?_,?_,?_,H.g.upd (·++[v]) f,H.d3,by rw[Qad];show H.dg,xrh H,H.kb],Es ..,Ô a m]
 ·let hz:=hz _ j;unfold QQ mMt;rw[u,Nk];simp[tyW,l,Qa,Qc,p,Qp,hz,eoL]
 ·rw[Qt d,Ó y];show H.i
 ·rw[Qt d,Ó x];show H.n
 ·rw[Qt d,Ó w];show H.b
 ·rw[Qt d,if_neg λz=>m (by rw[<-z];show NY [r,aN,aR,aA] c)]
#print"-"
structure KOk(p:È)(out:Ì)(k:Ky):Prop where
 n:xf7
 w:k.2.Sublist zj
def Qpx(A:ù){M:í}{k:Ky}{q:Nat}(h:xb)(a:q∈nX):KOk p out Rp:=
 #[xbb (mem_wa.mp a),Oh.trans h.w]
def QiX{c:Type}[BEq c][LawfulBEq c]:∀(a b:Ø c),qbi:=λa=>by
 induction a with
 |nil=>show λb _ _=>NO _
 |cons k r f=>
  show(jq6 d f e,Nh (IF this) (Nv (Nat.sub_add_cancel (Ia hk))))
set_option backward.eqns.deepRecursiveSplit false in
abbrev Qni{a:Type}:Ø a->List (HF a)
 |[]=>[[]]
 |x::l=>Qni l++(Qni l).map (x::·)
def Qix{d:Type}{a b:Ø d}(h:a.Sublist b):a∈Qni b:=by
 induction h with
 |slnil=>show ND.mpr rfl
 |cons x _ c=>show ua c
 |cons_cons x _ c=>show NY _ (EO c)
def Qir{a:Type}(l:Ø a):(Qni l).length=2^l.length:=by
 induction l with
 |nil=>rfl
 |cons x l b=>rw[Qni,NJ,Nr,b,NS,Nat.pow_succ,Nat.mul_two]
def QcK{c b:Type}(l:Ø c)(m:Ø b):(l.flatMap λa=>m.map (a,·)).length=l.length*m.length:=by
 induction l with
 |nil=>simp
 |cons x l d=>rw[Lz,NJ,d,Nr,NS,Nat.succ_mul,FQ]
def Qat{K:Ħ}(b:Ť)(hw:v3)(nd:K.Nodup)(c:∀k∈K,xb):Sf:=by
 let:=QiX K ((List.range out.length).flatMap λa=>(Qni zj).map (a,·)) nd λk hk=>
  Fi.mpr #[k.1,Ef.mpr (c k hk).n,NC.mpr #[k.2,Qix (c k hk).w,rfl]]
 rw[QcK,FE,Qir]at this;show Nh this (Lh b (Ya2 (n:=2) Ð hw:2^xf2<=32))
abbrev lT(n0:Nat)(kw:W)(r:Nat)(x3 x4 x5 x6:Þ):MSt:=[υ n0,sO kw,υ r,x3,x4,x5,x6]
def Qkp{C:Addr}{m:Str}{n r:Nat}{g:FM}{mo:ME}{a:MA}{σ:MSt}{h h1:MH}{fs:Θ W}{as:Ã}{res:Ú}(c:qt1)(ei:h[r]?=zPi)(d:zl1)(f:zI7)(en:as.length+1=n)(e:g (Ä r::as) h1=res):UF C m n g mo a σ h=res:=by
 let b:zIh=sO fs:=by
  unfold Qbo;simp only[ei];simp
 unfold UF;rw[c,Nk];simp only[b,Nk,d,Option.isNone_none,if_true,f];show Ŕ (by simpa using en);show e
def QcX{m:ME}{σ:MSt}{h h1:MH}{v:W}(e:zkb):QQ m σ h=jT σ h1:=by
 unfold QQ;rw[e];rfl
noncomputable abbrev zD(K:Ħ):ľ:=u9 K k (k,0)
noncomputable abbrev zB(K:Ħ):jP:=u9 K k (k,nO)
def Xz{K:Ħ}:(zD K).map (·.1)=K:=by rw[Ei];show YbN _
structure BgI(p:È)(out:Ì)(M:í)(C:Addr)(r aN aR aA wl n0:Nat)(hA:MH)(X K Wt:Ħ)(G:GA)(c:Nat)(h:MH):Prop where
 L:ϵ h u3 zJ
 w:qhg
 wf:zma
 a:∀x,x<r->h[x]?=hA[x]?
 af:∀x∈Cp,r<=x
 aw:r<=wl
 ko:∀k∈K,xb
 wn:Wt.Nodup
 wk:∀k∈Wt,k∈K
 xw:∀k∈X,k∈K/\k∉Wt
 sd:jwg
 vk:jCc
 sz:∀e∈G,qG2<=c
 cp:∀k∈K,k∉Wt->k∉X->∀q∈nX,jU1
section
variable{p:È}{out:Ì}{M:í}{C:Addr}{r aN aR aA wl n0:Nat}{hA:MH}{X K Wt:Ħ}{G:GA}{c:Nat}{h:MH}
def BgI.few(I:BgI p out M C r aN aR aA wl n0 hA X K Wt G c h)(a:Ť)(hw:v3):Sf:=Qat a hw (by let:=I.L.nod;rwa[Xz]at this) I.ko
def Qqw(I:BgI p out M C r aN aR aA wl n0 hA X K Wt G c h)(u:c<10000000){key:Ky}{q:Nat}(hk:SY)(t:qs0)(j:Ź∈K){kw:W} :
  ∃i h',QQ (ŝ (B0 (qGi ó) ť) jA2) zpb h=sO jT6 /\
   BgI p out M C r aN aR aA wl n0 hA X K Wt i (c+1) h'/\P0∈gL i Ź/\(jO3 i):=by
 let o:∀e∈G,jO2:=λe f=>Ni (I.sz e f) (kG u);let#[h',e,F,P,l]:=Qkg (σ:=zvf) (mo:=Qb 2) (mk:=Qb 5) (mv:=mFn Q3 zz0) (k:=Ź) (v:=P0) I.L (by rw[Xz];show j) o rfl rfl (λh=>by unfold lT;simp[KY])
 let s:(gAt G Ź).isSome=true:=by
  let#[x,b]:=Gh (G:=G) (k:=Ź) (by rw[I.L.kd,Xz];show j);rw[b];rfl
 let mem:=λk v=>Qp3 (G:=G) (k:=Ź) (k':=k) (v:=P0) (v':=v) s;let m:fpL r aN aR aA (Qar G Ź (·++[P0]))=Cp:=by unfold fpL;rw[Qad]
 refine#[_,h',e,#[F,?_,?_,?_,?_,I.aw,I.ko,I.wn,I.wk,I.xw,Õ k v d,Õ k v d,Ô e f,ϰ k B A y n g],(mem _ _).mpr (Ė ś),λk v d=>(mem k v).mpr p0]
 ·rw[l wl I.wf];show I.w
 ·rw[m];show I.wf
 ·intro x b;rw[l x λz=>qY5 b];show I.a x b
 ·rw[m];show I.af
 ·show qvf
  ·show I.sd k v z
  show č #[q,t,rfl]
 ·show qvf
  ·show I.vk k v z
  ·show hk
 ·classical
  unfold Qar at f;show Ŭ x b f;let:=I.sz x b;split
  ·simp;show this
  ·show OO this
 ·let#[E,D]:=I.cp k B A y n g;show#[E,(mem _ _).mpr (Ş D)]
def Qoq(A:ù)(I:BgI p out M C r aN aR aA wl n0 hA X K Wt G c h)(ab:Ť)(hw:v3)(hc:c<10000000){key:Ky}{q:Nat}(hk:SY)(Z:qs0){kw:W} :
  ∃P H t h',Jt C zpb h=sO jT6 /\
   BgI p out M C r aN aR aA wl n0 hA X P H t (c+1) h'/\Ź∈P/\P0∈gL t Ź/\(jO3 t)/\(∀k∈K,k∈P)/\P.length+Wt.length=K.length+H.length:=by
 let few:=I.few ab hw;let N:=Qrv (f:=W.int) (g:=true) (k:=Ź) I.L.n
 by_cases u:Ź∈K
 ·let#[t,h',e,I',S,Q]:=Qqw I hc hk Z u (kw:=kw);refine#[K,Wt,t,h',Jk (Qqa (h1:=h) ?_ rfl) e,I',u,S,Q,xW,rfl];let#[v,m]:=JX (L:=zD K) (k:=Ź) (by rw[Xz];show u);rw[m]at N;let:jOa=sO (vC,h):=qd8;show lC
 ·let hn:Ź∉(zD K).map (·.1):=by rw[Xz];show u
  rw[tv_none.mpr hn]at N;let#[l,e1,L1,l1,f1]:=Qc2 I.L hn (by rw[Nr];show Ni few Ð);let s:=xke;let E:=I.L.lt r Ç;let w1:l[wl]?=sO zug:=by rw[f1 wl I.wf s];show I.w
  let J:gAt G Ź=nO:=by
   cases z:gAt G Ź with
   |none=>rfl
   |some y=>show absurd (by rw[<-I.L.kd];show yh #[_,VW z,rfl]) hn
  let F:∀a,a∈zw9->a∈Cp\/a=h.length:=λa d=>by
   unfold fpL at d ⊢;rw[Ee]at d;simp only[NK,NI,NB,Dl,DQ,or_false]at d ⊢
   rcases d with d|d|d|d|d|d
   ·show HM p0
   ·show Ğ (Ė p0)
   ·show Ğ (Ė (jF p0))
   ·show Ğ (Ė (jF (c9 p0)))
   ·show Ğ (Ė (jF (c9 (.inr d))))
   ·show ê d
  let D:wl∉zw9:=λz=>(F wl z).elim I.wf λz=>NL s z;let ah:∀x∈zw9,r<=x:=λx z=>(F x z).elim (I.af x) λz=>by rw[z];show Nq E
  let B:Wt.length<=6400:=Nh (QiX Wt K I.wn I.wk) few;let o:wl<l.length:=by rw[l1];show E9 s
  let I1:BgI p out M C r aN aR aA wl n0 hA X zre (Wt++[Ź]) jwh c zwd:=by
   let ai:LsH C zwd r aN aR aA (zD zre) (zB zre) jwh:=by
    let:=L1.frame (h':=l.set wl (Ï xE2)) λa d=>by rw[Qt o,if_neg λz=>D zs1]
    simpa[zD,zB]using this
   refine#[ai,HU o,D,λx U=>by rw[Qt o,if_neg (λz=>by let:=I.aw;omega),f1 x (λz=>qY5 U) (NZ U E)];show I.a x U,ah,I.aw,Ô k j,?_,Ô k j,Ô k j,λk v m=>I.sd k v qvg,λk v m=>ua (I.vk k v qvg),λe he=>?_,λk ae h2 h3 q' Y=>?_]
   ·show γ j z
    ·show I.ko k z
    ·rw[ĸ z];show Qpx A (I.ko key hk) Z
   ·rw[Ek];show#[I.wn,Å,λa d b hb z=>u (by rw[<-ND.mp hb,<-z];show I.wk a d)]
   ·show γ j z
    ·show ua (I.wk k z)
    ·show NY _ z
   ·let#[x1,x2]:=I.xw k j;refine#[ua x1,è z]
    show zrf x2
    ·show u (by rw[<-ĸ z];show x1)
   ·rcases NI.mp he with z|z
    ·show I.sz e z
    ·rw[ĸ z];show NO _
   ·let aa:k∈K:=by
     rcases NI.mp ae with z|z
     ·show z
     ·show ý ja2 h2
    let#[a1,a2]:=I.cp k aa (λz=>h2 wM) h3 q' Y;show#[ua a1,by rw[QaJ J];show a2]
  let#[t,h',e,I',S,Q]:=Qqw I1 hc qR6 Z Ç (kw:=kw);refine#[_,_,t,h',Jk (QpY (h1:=h) ?_ (Jk (σ1:=zvf) (h1:=l) ?_ (?_:_=sO (MF.nx zpb zwd)))) e,I',Å,S,λk v m=>Q k v (by rw[QaJ J];show m),λk j=>ua j,zR7]
  ·let:jOa=sO (Ϣ,h):=qd8;show lC
  ·show QcX (Qkp rfl I.L.i rfl rfl rfl e1)
  ·let z:Wt.length<sizeLine:=uZ B;unfold lT;simp[tyW,w1,z]
#print"-"
section
variable{p:È}{out:Ì}{M:í}{C:Addr}{r aN aR aA wl n0:Nat}{hA:MH}{X K Wt:Ħ}{G:GA}{c:Nat}{h:MH}
def Qjq(A:ù)(a:Ť){n:Nat}:(wa zxf n).length<=400:=by
 let d:=QaH (M:=AR) (q:=n);let b:(EE p out).length<=2*out.length:=UA A (n:=out.length) Č;omega
def bw1{k w k' w' d v:Nat}(a:k'+w=k+w')(b:k=v+d)(h:v=w+1):k'=w'+(d+1):=Í
def bp1{k w k' w' b a:Nat}(d:k'+w=k+w')(m:b+w'=k'+a):b+w=k+a:=Í
def Qs2(A:ù){Q:Ê}(hQ:∀e∈AR,Mb)(F:n0<r)(J:qej){key:Ky}(I:BgI p out M C r aN aR aA wl n0 hA [] K (Wt++[key]) G c h)(m:Ť)(hw:v3)(hc:c+400<10000000){kw:W}{x3 x5 x6:Þ} :
  ∃g d o h' u s,Jq C cw h=sO (ô (pu Pq u s) h') /\
   BgI p out M C r aN aR aA wl n0 hA [] g d o (c+400) h'/\(∀k∈K,k∈g)/\qo0:=by
 let v:=xke;let l:SY:=qU2 I;let nd:=I.wn;rw[Ek]at nd;let kW:key∉Wt:=λz=>nd.2.2 key z key Ç rfl;let hh:∀a,a≠wl->(h.set wl zug)[a]?=h[a]?:=λa S=>by rw[Qt v,j5 S]
 let I1:BgI p out M C r aN aR aA wl n0 hA [key] K Wt G c pY:=by
  refine#[I.L.frame λa S=>hh a λz=>I.wf (S6 z S),HU v,I.wf,λx hx=>by rw[hh x (NL (Nf hx I.aw))];show I.a x hx,I.af,I.aw,I.ko,nd.1,qE5 I,zY6,I.sd,I.vk,I.sz,λk U D h3 q i=>I.cp k U zl5 Ç q i]
  ·rw[ND.mp hk];show#[l,kW]
  ·show zrf D
   ·show h3 z
 let e1:QA 3 mG cw h=sO (ô gU pY):=by
  let w:=I.w;rw[Ee]at w;unfold lT;simp[tyW,w]
 let ko:=I.ko key l;let N:key.2.length<=1000:=Nh (Nh ko.w.length_le hw) Ð;let ea:=QgL (M:=M) A hQ (k:=key) ((I1.a n0 F).trans J) N
 let#[aa,h',el,u,s,g,d,o,rfl,f,E,H,B]:=Zd (items:=jX9) (b:=QL [5,6]) (body:=Jt C) (λj Y h=>∃u s g d o,Y=qe8 u s/\BgI p out M C r aN aR aA wl n0 hA [key] g d o (c+j) h/\(∀q∈(wa zxf key.1).take j,Ź∈g/\P0∈gL o Ź)/\qo0/\∀k∈K,k∈g)
  jWc 0 gU pY #[x5,x6,K,Wt,G,rfl,I1,Å,rfl,xW] (by
   rintro j w hj Y h ⟨u,s,g,d,o,rfl,f,E,H,B⟩
   rw[Ei,Nt]at hj;let#[q,i,rfl]:=Ng.mp hj;rw[NQ]at *;let P:=Ü i;let wf:=qR7;let#[K2,W2,G2,D,t,I2,m1,m2,m3,m4,m5]:=Qoq A f m hw (Ni (Ew (Nq (Nf P wf)) c) hc) (key:=key) (q:=q) (B key l) (EI i) (kw:=kw);refine#[zvf,rfl,_,_,Ý t,_,_,K2,W2,G2,rfl,I2,Ô Z y,bp1 H m5,λk hk=>m4 k (B k hk)];rw[E8,i]at y
   show γ y z
   ·let#[a1,a2]:=E Z z;show#[m4 _ a1,m3 _ _ a2]
   ·let:Z=q:=é z
    show uY #[m1,m2])
 rw[Nr,Nr,NQ,El]at E;rw[Nr,Nr,NQ]at f;refine#[g,d,o,h',u,s,Jk e1 ?_,?_,B,H]
 ·let ei:Qm qb5 gU pY=sO (jX9,nO,qi9):=by
   let:(Qf 2 Vb (Aq lF)) gU pY=sO (À jWc,qi9):=by
    unfold lT;simp[ea]
   show zuf
  show Xl (b:=QL [5,6]) ei el
 ·let wf:=qR7;refine#[f.L,f.w,f.wf,f.a,f.af,f.aw,f.ko,f.wn,f.wk,jn4,f.sd,f.vk,λe he=>Nh (f.sz e he) (Ew wf c),λk U D _ q i=>?_]
  by_cases z:k=key
  ·subst z;show E q i
  ·show f.cp k U D lU q i
def Qm5(A:ù){Q:Ê}(S:∀e∈AR,Mb)(u:n0<r)(v:qej)(b:Ť)(hw:v3){kw:W}:∀(n d:Nat) (K Wt:Ħ) (G:GA) (h:MH) (x3 x5 x6:Þ) (f:Nat),BgI p out M C r aN aR aA wl n0 hA [] K Wt G (400*d) h->d+n=6401->K.length=Wt.length+d->n<f ->
  ∃d' l B h' q i g,jV4 (Jq C)=sO (ô (pu q i g) h')/\BgI p out M C r aN aR aA wl n0 hA [] l [] B (400*d') h'/\d'<=6401/\∀k∈K,k∈l:=by
 intro n d K Wt G h x3 x5 x6 f
 induction f generalizing n d K Wt G h x3 x5 x6 with
 |zero=>show λ_ _ _ x=>Sk x
 | succ f P=>
  intro I hd D x;let w:=I.w;let dl:d<=6401:=hd▸Nu d n;cases Wt with
  |nil=>
   refine#[d,K,G,h,x3,x5,x6,Zz ?_,I,dl,xW];show qU3
  | cons j W0=>
   cases n with
   |zero=>show ý (I.few b hw) (DM.mpr (by rw[D];show Nh (Nv hd.symm) vq))
   |succ n=>
    obtain⟨Wt,key,F⟩:∃Wt key,j::W0=Wt++[key]:=jF8 j W0
    let a:(j::W0).length=Wt.length+1:=by rw[F,NJ];rfl
    rw[F]at I;let#[l,z,B,h',i,g,t,Y,L,N]:=Qs2 A S u v I b hw (ź (N8 (IL 400 dl) 400)) (kw:=kw) (x3:=x3) (x5:=x5) (x6:=x6);let#[d',U,G2,E,q,o,m,J,I2,y,s]:=P n (d+1) l z B h' Pq i g Y ((Ld d n).trans hd) (bw1 N D a) (YaF x);refine#[d',U,G2,E,q,o,m,?_,I2,y,λk hk=>s k (L k hk)];rw[Z6 (σ2:=qe8 i g) (h2:=h') ?_ t]
    ·show J
    ·show qU3
#print"-"
abbrev tvZ(D:ľ)(k:Ky):Int:=(tv D k).getD 0
abbrev tot(K:Ħ)(D:ľ):Int:=(K.map wL).sum
def Qmq{b:Type}{f g:b->Int}{a:b}:∀(K:Ø b),K.Nodup->a∈K->(∀k,k≠a->g k=f k)->(K.map g).sum=xkf+(g a-f a):=by
 intro K
 induction K with
 |nil=>
  intro _ h _;simp at h
 |cons x K d=>
  intro j h e;let#[c,l]:=Eo.mp j;rw[NB,NB,Fz,Fz]
  show Ņ h
  ·let:K.map g=K.map f:=ER λk hk=>e k λz=>c (by rw[<-z];show hk);rw[this];omega
  ·let:=d l h e;let i:=e x λz=>c (j0 z h);rw[this,i];omega
def QoX{a:Type}{f:a->Int}{c:Int}:∀(K:Ø a),(∀k∈K,f k<=c)->xkf<=K.length*c:=by
 intro K
 induction K with
 |nil=>
  intro _;simp
 |cons x K b=>
  intro h;let e:=h x Ç;let d:=b λk hk=>h k (Ny _ hk);rw[NB,Fz,NS];let:((K.length+1:Nat):Int)*c=K.length*c+c:=by rw[Int.natCast_add,Int.add_mul];simp
  rw[this];omega
section
variable{p:È}{out:Ì}{M:í}{K:Ħ}{G:GA}{X Wt:Ħ}{D:ľ}{B:jP}{c:Nat}
structure GOk(p:È)(out:Ì)(M:í)(K:Ħ)(G:GA):Prop where
 kn:K.Nodup
 ko:∀k∈K,xb
 kg:G.map (·.1)=K
 sd:jwg
 vk:jCc
 cp:∀k∈K,∀q∈nX,jU1
abbrev Sat(D:ľ)(k:Ky)(v:BT):Prop:=∀x y,jG D=sO x->xkg->x+v.2<=y
structure CC(p:È)(out:Ì)(M:í)(K:Ħ)(G:GA)(X:Ħ)(D:ľ)(B:jP)(Wt:Ħ)(c:Nat):Prop where
 kd:D.map (·.1)=K
 wk:∀k∈Wt,k∈K
 dr:∀k v,jG D=sO v->zO9
 ok:∀k∈K,k∉Wt->k∉X->∀v∈zii,Sat D k v
 ri:∃T:Ky->Nat,(∀k,T k<=c)/\∀a k,xya->k∈K/\∃m x y,(a,m)∈zii/\tv D a=sO x/\jG D=sO y/\x<=y+m/\(x=y+m->T k<T a)
 sm:(c:Int)<=tot K D
 ln:Wt.length<=K.length+c
def QgN{v:BT}{k:Ky}(g:Bv)(h:RQ):0<=v.2:=by
 let#[q,_,e]:=g.sd k v h;let:v.2=moI zx1 v.1.2:=by rw[<-congrArg Prod.snd e];rfl
 rw[this];unfold moI;split<;>decide
def CC.top(A:ù)(b:ϣ)(g:Bv)(C:CC p out M K G X D B Wt c)(d:Ť)(h:Sf):c<=1280000:=by
 let j:=QoX (f:=tvZ D) (c:=200) K λk hk=>by
  let#[v,a]:=zB6 C;unfold tvZ;rw[a];let:=(QiH A b (C.dr k v a)).2;apply v<=200;omega
 let e:=C.sm;unfold tot at e;let i:(K.length:Int)*200<=6400*200:=Int.mul_le_mul_of_nonneg_right ċ Ð;omega
def CC.rise(g:Bv)(C:CC p out M K G X D B Wt c){key:Ky}{v:BT}{x y:Int}(hk:SY)(t:v∈wY)(r:tv D key=sO x)(n:xkg)(S:y<x+v.2)(hB:B.map (·.1)=K):CC p out M K G X nP qvh (Wt++[v.1]) (c+1):=by
 let H:=g.vk key v t;let Z:=QgN g t;let F:v.1∈D.map (·.1):=by rw[C.kd];show H
 refine#[by rw[YZ F];show C.kd,zY6,λk w hw=>?_,λk l h A u hu a b i j=>?_,?_,?_,by let:=C.ln;simp;omega]
 ·rcases NI.mp hk with z|z
  ·show C.wk k z
  show P3 z H
 ·rw[V5]at hw;split at hw
  ·rename_i e;subst e;cases hw;let#[q,Q,e]:=g.sd key v t;let l:Der p out M (ask p out M v.1 q).1 x:=by rw[e];show C.dr key x r
   let h:=Der.up l Q;rw[e]at h;show h
  ·show C.dr k w hw
 ·let E:k≠v.1:=jI h (yZ z);rw[V5,Ó E]at i;let s:=C.ok k l (λz=>h wM) A u hu;rw[V5]at j;show jBd j a i n
  ·show s a b i j
 ·let#[T,J,N]:=C.ri;refine#[λk=>if k=v.1 then c+1 else T k,è k,Õ a k o]
  ·apply(if k=v.1 then c+1 else T k)<=c+1;let:=J k;split<;>omega
  ·rw[V5]at o
   by_cases e:a=v.1
   ·rw[Ò e]at o;cases o;show HC e #[hk,v.2,x+v.2,if zZc then x+v.2 else x,t,jO4,?_,?_,?_]
    ·rw[V5];show zc8
     ·show r
    ·split<;>omega
    ·intro z
     by_cases d:zZc
     ·rw[Ò d]at z;rw[d]at r;show â r n;omega
     ·simp only[d,if_false,if_true];let:=J key;omega
   ·rw[Ó e]at o;let#[l,m,I,L,h,A,i,j,U]:=N a k o
    by_cases d:k=v.1
    ·subst d;rw[n]at i;show ì i #[l,m,I,x+v.2,h,zpj e A,jO4,ć,λz=>ć]
    ·refine#[l,m,I,L,h,zpj e A,zpj d i,j,è z];simp only[e,d,if_false];show U z
 ·let P:=Qmq (f:=tvZ D) (g:=tvZ nP) (a:=v.1) K g.kn H λk hk=>by
   unfold tvZ;rw[V5,zd6]
  let Y:tvZ nP v.1=x+v.2:=by unfold tvZ;rw[V5,į];rfl
  let d:tvZ D v.1=y:=by unfold tvZ;rw[n];rfl
  let:=C.sm;unfold tot at *;rw[P,Y,d];push_cast;omega
#print"-"
def Qiy{items:Ã}{src:A8}{b:MG}{body:SM}(P:io)(d:jC9):∀(r:Ã) (n:Nat) (σ:MSt) (h:MH),AV n ->
  (∀(j:Nat) (w:W),jk8) ->
  jvd:=by
 intro r
 induction r with
 |nil=>
  show jUj
 | cons w r i=>
  show jG7 p o
  let#[a,h',m,f]:=i (n+1) σ2 h2 g λj x l σ h c=>by
   let:=e (j+1) x zki σ h (by rw[show qS7 by omega];show c);rw[show n+(j+1)+1=n+1+j+1 by omega]at this;show this
  refine#[a,h',?_,by rw[NS,show jV5 by omega];show f];rw[Zp,zE3,p,Nk,o];show m
section
variable{C:Addr}{h:MH}{r aN aR aA:Nat}{D:ľ}{B:jP}{G:GA}
def QnV(H:Ÿ){k:Ky}{v:Int}(hk:k∈D.map (·.1))(e:b9):∃h',J1 xyb Ϫ (ĭ v) h=sO h'/\ϵ h' (tu D k v) B/\ij/\∀a,zig->Bx:=by
 let hN:=qA9;let#[l,m,j]:=H.d3;let c:∀x a,zig->(h.set aN x)[a]?=h[a]?:=λx a d=>by rw[Qt hN,j5 d]
 refine#[_,QaB (f:=W.int) (v:=v) H.n e,#[xbc l,by rw[Qt hN,į],by rw[c _ aR (Eb j)];show H.b,H.g.frame λa d=>c _ a (H.dg a d).2.1,H.d3,H.dg,by rw[YZ hk];show H.kd,by rw[YZ hk];show H.kb],Es,c _]
def Qn3(H:Ÿ){k:Ky}{v:jc4}(hk:k∈D.map (·.1))(l:b9):∃h',J1 xyc Ϫ (kO v) h=sO h'/\ϵ h' D (tu B k v)/\ij/\∀a,zih->Bx:=by
 let j:=qAa;let#[p,o,m]:=H.d3;let c:∀x a,zih->(h.set aR x)[a]?=h[a]?:=λx a e=>by rw[Qt j,j5 e]
 let d:k∈B.map (·.1):=by rw[H.kb];show hk
 refine#[_,QaB (f:=kO) (v:=v) H.b (by rw[H.len.2];show l),#[xbc o,by rw[c _ aN m];show H.n,HU j,H.g.frame λa e=>c _ a (H.dg a e).2.2,H.d3,H.dg,H.kd,by rw[YZ d];show H.kb],Es,c _]
#print"-"
abbrev rA(r:Nat)(key:Ky)(a:Nat)(x3 x4:Þ):MSt:=[υ r,sO jc5,sO Ġ,x3,x4]
section
variable{p:È}{out:Ì}{M:í}{C:Addr}{r aN aR aA rl:Nat}{K:Ħ}{G:GA}{X W0 Rs:Ħ}{D:ľ}{B:jP}{c:Nat}{h:MH}
def QnF(A:ù)(ng:ϣ)(g:Bv)(H:Ÿ)(J:CC p out M K G X D B jc6 c)(ab:Ť)(hK:Sf){key:Ky}(hk:SY){v:BT}(hv:v∈wY)(hr:h[rl]?=lr)(rf:rl∉Cp) :
  ∃S B' b c' h',Q9 C uo h=sO (ô uo h')/\ϵ h' S B'/\CC p out M K G X S B' (W0++b) c'/\h'[rl]?=sO jL7/\ij/\(∀a,cZ->a≠rl->Bx)/\b.length+c=Rs.length+c' /\
   (∀a∈aA::G.map (·.2.1),Bx)/\(zW6\/Sat S key v)/\(xrj->zW6)/\(∀u∈wY,Sat D key u->zW6\/Sat S key u):=by
 let t:=g.vk key v hv;let w:∀k∈K,k∈D.map (·.1):=λk hk=>by rw[J.kd];show hk
 let#[x,P]:=JX (w key hk);let#[y,N]:=JX zcg
 let F:b9:=by
  let:D.length=K.length:=by let:=qY4 J;show ϻ
  rw[this];show Ni hK Ð
 let ia:=xyg N;let ik:=xyg P;let ea:Qe J3 jL9 å uo h=sO (Á y,h):=Wx zmb rfl ia;let ek:Qe ZX jS8 ĕ uo h=sO (Á zNb,h):=Wx (Wx zmb rfl ik) rfl rfl
 let Q:Qk (Qe wLt jy4 jF9) uo h=sO (decide xyh,h):=by
  let:Qe wLt jy4 jF9 uo h=sO (ă (AQ xyh),h):=Wx ea ek rfl;show lC
 by_cases q:y<x+v.2
 ·rw[vv q]at Q;let#[h1,e1,H1,l1,f1]:=QnV H (v:=x+v.2) zcg F;let Y:v.1∈(tu D v.1 zNb).map (·.1):=by rw[YZ zcg];show w v.1 t
  let#[I,e2,H2,l2,f2]:=Qn3 H1 (v:=sO key) Y (by rw[Qn4 zcg];show F);let rN:rl≠aN:=qsg;let rR:rl≠aR:=qsg;let E:I[rl]?=lr:=by rw[f2 rl rR,f1 rl rN];show hr
  let j:=Ü E;let o:=J.rise g hk hv P N q (by rw[H.kb];show J.kd);rw[EH]at o;let top:=o.top A ng g ab hK
  let aa:Rs.length<sizeLine:=by
   let:=o.ln;show(jb,Ni (ć:Rs.length<=1300000) Ð)
  let H3:ϵ qa7 nP qvh:=H2.frame λa t=>by rw[Qt j,if_neg λz=>rf (j0 z t)]
  let ep:QQ jn0 uo I=sO (ô uo qa7):=by
   unfold rA;simp[tyW,E,aa]
  refine#[_,_,Rs++[v.1],c+1,I.set rl (Ï qib),QpY Q ?_,H3,o,HU j,by rw[Es,l2,l1],Õ a l Z,zR7,Ô a l,?_,è z,λu hu s=>?_]
  ·refine Jk (QeV ek zmb rfl e1) ?_;refine Jk (QeV (v:=zR) (h1:=h1) rfl (sL H1) rfl e2) ep
  ·rw[Qt j,j5 Z,f2 a jy7,f1 a jy7]
  ·let hd:=H.dg a l;rw[Qt j,if_neg (λz=>rf (by rw[z];show BW l;rcases l with l|l<;>simp[l])),f2 a hd.2.2,f1 a hd.2.1]
  ·show jud
   ·refine znf;rw[V5,Ó z,P]at m;rw[V5,į]at d;show(AZ m d,Yaw _)
  ·rw[<-EH];show ua z
  ·show jud
   ·refine znf;rw[V5,Ó z]at m;rw[V5]at d;show jBd d L m N
    ·show s L U m d
 ·rw[S7 q]at Q;refine#[D,B,Rs,c,h,Qqa Q rfl,H,J,hr,rfl,AE,rfl,ş,znf,λz=>z,λu _ s=>ê s];rw[P]at m;rw[N]at d;show AZ m d;omega
#print"-"
def J6{m:ME}{σ:MSt}{h h1:MH}{x:W}(e:zqa):xni=sO ([x],h1):=by
 unfold Qa;rw[e];rfl
def mt9{T:String}{f:cf}{mo:ME}{a:MA}{σ:MSt}{h h1 h2:MH}{o:W}{as:Ã}{res:Ú}(c:mo σ h=Ċ o h1)(b:tyW h1 T o=true)(e:a σ h1=sO (as,h2))(d:f o as h2=res):mMt T f mo a σ h=res:=by
 unfold mMt;rw[c,Nk,Ò b,e];show d
section
variable{p:È}{out:Ì}{M:í}{C:Addr}{r aN aR aA wl:Nat}{K:Ħ}{G:GA}{W0:Ħ}{D:ľ}{B:jP}{c:Nat}{h:MH}{cs:Nat}
def QhI(A:ù)(ng:ϣ)(g:Bv)(H:Ÿ){key:Ky}(hk:SY)(cc:CC p out M K G [key] D B W0 c)(aa:Ť)(hK:Sf) :
  ∃f x Rs m h',QF C [Ä r,zR] h=sO (ī,h')/\ϵ h' f x/\CC p out M K G [] f x jc6 m/\h'[h.length]?=lr/\(∀a,jnd)/\xkh:=by
 let#[q,Y]:=Gh (G:=G) (k:=key) (by rw[g.kg];show hk);let Z:wY=q.2:=by unfold gL;rw[Y]
 let hm:=VW Y;let hp:q.1∈aA::G.map (·.2.1):=C6 (CY #[_,hm,rfl]);let H0:ϵ AI D B:=H.frame λa ha=>NF (H.lt a ha);let rf:jLa:=iI z xs0;let y:(h++dO)[q.1]?=zrd:=H0.g.o _ hm
 let#[af,h',el,N,L,f,x,Rs,m,rfl,ah,H',d,X,ll,fr,ln,st]:=Qiy (items:=q.2.map KY) (src:=xyi) (b:=QL [3,4]) (body:=Q9 C) (λj I e=>∃N L f x Rs m,I=rA r key h.length N L/\e[q.1]?=zrd/\ϵ e f x/\CC p out M K G [key] f x jc6 m/\e[h.length]?=lr/\e.length=zXb/\(∀a,cZ->vx->e[a]?=h[a]?)/\xkh/\∀u∈q.2.take j,xrj\/Sat f key u)
  (λn I e hP s hs=>by
   let#[_,_,_,_,_,_,_,Q,_]:=hP;cases hs;show Q) qq1 0 qx3 AI #[nO,nO,D,B,[],c,rfl,y,H0,by rw[EM];show cc,Å,Å,λa _ ha=>NF ha,Å,Å] (by
   rintro j w hj I e ⟨N,L,f,x,Rs,m,rfl,Q,H',d,X,ll,fr,ln,st⟩
   rw[Nt]at hj;let#[v,hv,rfl]:=Ng.mp hj;rw[NQ]at *;let S:v∈wY:=by rw[Z];show EI hv
   let#[D2,B2,R2,c2,h2,t,H2,ab,U,l2,f2,n2,p2,s1,s2,s3]:=QnF A ng g H' d aa hK hk S X rf;refine#[rA r key h.length jUe (pT v),rfl,_,_,t,_,_,D2,B2,R2,c2,rfl,by rw[p2 q.1 hp];show Q,H2,ab,U,by rw[l2];show ll,λa F E=>by rw[f2 a F (NL E)];show fr a F E,ć,λu hu=>?_];rw[E8,hv]at hu
   rcases NI.mp hu with z|z
   ·rcases st u z with J|J
    ·show Ý (s2 J)
    ·show s3 u (by rw[Z];show FI z) J
   ·let:u=v:=é z
    show uY s1)
 rw[Nr,NQ,El]at st;refine#[f,x,Rs,m,h',?_,H',#[d.kd,d.wk,d.dr,λk e h2 _ u hu=>?_,d.ri,d.sm,d.ln],X,fr,ln]
 ·unfold QF Qx;refine Qi9 (h1:=h') (v:=ī) (Jk (σ1:=rA r key h.length nO nO) (h1:=vr) rfl ?_);refine Jk (Xl (src:=xyi) (items:=q.2.map KY) (h1:=vr) ?_ el) rfl;let e1:Qe J3 (qGi î) ø qx3 AI=sO (zfe,vr):=Wx (sL H0) rfl (H0.ixA Y);unfold Qm;rw[e1];simp[Vy,y]
 ·by_cases z:k=key
  ·subst z;rw[Z]at hu;show(st u hu).elim (λq=>Ai q h2) id
  ·show d.ok k e h2 lU u hu
def Qqu(A:ù)(J:ϣ)(g:Bv)(H:Ÿ){key:Ky}(f:CC p out M K G [] D B (W0++[key]) c)(m:Ť)(L:Sf)(hw:h[wl]?=sO (Ï ((W0++[key]).map Qr)))(wf:zma){n0:Nat}{kw:W}{x3 x5 x6:Þ} :
  ∃s t Wt q h',Jn C cw h=sO jW5/\ϵ h' s t/\CC p out M K G [] s t Wt q/\h'[wl]?=sO zug/\ju0/\qPa/\Wt.length+c=W0.length+q:=by
 let d:=(Nd.mp hw).1;let hk:SY:=qU2 f
 let I:CC p out M K G [key] D B W0 c:=#[f.kd,qE5 f,f.dr,λk o E n u hu=>f.ok k o (λz=>by
  show zrf E
  ·show n z) Ç u hu,f.ri,f.sm,by let:=f.ln;show jb;omega]
 let H1:ϵ (h.set wl jL8) D B:=qb8 H d
 let#[s,t,Rs,q,h',e,S,j,x,F,U]:=QhI A J g H1 hk I m L;rw[Es]at e x F;let l:h'[wl]?=sO jL8:=by rw[F wl wf d,Qt d,į]
 let b:=Ü l;let N:=Ü x;let top:=j.top A J g m L;let w:=j.ln;simp at w;let z:W0.length+Rs.length<=sizeLine:=Nh (ć:_<=1300000) Ð;refine#[s,t,W0++Rs,q,h'.set wl (Ï ((W0++Rs).map Qr)),?_,qb8 S b,j,HU b,λa o E n=>by rw[Qt b,j5 n,F a o E,Qt d,j5 n],by rw[Es];omega,zR7]
 let Q:mMt "list" QeB ĕ Qc cw h=sO (zR,qia):=by
  rw[Ee]at hw;unfold lT;simp[tyW,hw]
 let P:UF C "raise_askers" 2 (QF C) ó (à mG) cw h=sO (ī,h'):=Qkp rfl H.i rfl (as:=[zR]) (h1:=qia) (J6 Q) rfl e;let ty:tyW h "list" xyf=true:=by simp[tyW,hw]
 refine QcX (v:=.non) (mt9 rfl ty (J6 P) ?_);unfold Xo
 let lo:loW h' gx=sO ql4:=by
  unfold loW;simp[x]
 simp only[l,lo,Nk];rw[if_pos (by rw[Nr,Nr];show z),Ee]
#print"-"
section
variable{p:È}{out:Ì}{M:í}{C:Addr}{r aN aR aA wl:Nat}{K:Ħ}{G:GA}
def cw1{w t a P K c b:Nat}(d:t+c=w+b)(e:a+P=K+c)(h:a=w+1):t+(P+1)=K+b:=Í
def cw2{w P K c:Nat}(d:K<=6400)(a:P+0=1300000)(b:w+1+P=K+c)(top:c<=1280000):False:=Í
def QjN(A:ù)(I:ϣ)(g:Bv)(j:Ť)(x:Sf)(wf:zma){n0:Nat}{kw:W}{x3 x5 x6:Þ}:∀(n P:Nat) (Wt:Ħ) (D:ľ) (B:jP) (c:Nat) (h:MH) (f:Nat),Ÿ->CC p out M K G [] D B Wt c->qhg->P+n=1300000->Wt.length+P=K.length+c->n<f ->
  ∃s u F h',jV4 (Jn C)=sO jW5/\ϵ h' s u/\CC p out M K G [] s u [] F/\ju0/\qPa:=by
 intro n P Wt D B c h f
 induction f generalizing n P Wt D B c h with
 |zero=>show λ_ _ _ _ _ w=>Sk w
 | succ f Z=>
  intro H o hw J L w;let b:=hw;cases Wt with
  |nil=>
   refine#[D,B,c,h,Zz ?_,H,o,ti,Nw _];simp at hw;unfold lT;simp[GV,hw]
  | cons m q=>
   let top:=o.top A I g j x;cases n with
   |zero=>show(cw2 x J L top).elim
   | succ n=>
    obtain⟨W0,key,S⟩:∃W0 key,m::q=W0++[key]:=jF8 m q
    let d:(m::q).length=W0.length+1:=by rw[S,NJ];rfl
    rw[S]at o hw;let#[s,u,Wt,F,h',t,H',E,v,fr,i,Y]:=Qqu A I g H o j x hw wf (n0:=n0) (kw:=kw) (x3:=x3) (x5:=x5) (x6:=x6);let#[D2,B2,c2,l,X,H2,z,y,e]:=Z n (P+1) Wt s u F h' H' E v ((Ld P n).trans J) (cw1 Y L d) (YaF w);refine#[D2,B2,c2,l,?_,H2,z,Ł a Q l N,Nh i e]
    ·rw[Z6 (σ2:=lT n0 kw r x3 jO9 x5 x6) (h2:=h') ?_ t]
     ·show X
     ·simp at b;unfold lT;simp[GV,b]
    ·rw[y a Q (Nf l i) N,fr a Q l N]
#print"-"
def Qlr{C:Addr}{f:Str}{mo mv:ME}{σ:MSt}{h h1:MH}{v:W}{n:Nat}{fs:Θ W}(e:zlc)(d:qq7)(c:h1[n]?=zPi)(a:rY):GJ C f mo mv σ h=sO (ô σ (h1.set n zD4)):=by
 let b:Qbo C h1 Φ=sO fs:=by
  unfold Qbo;show yw c;simp
 unfold GJ;rw[e,Nk,d,Nk];unfold Qam;simp only[b,Nk];rw[Ò a]
def QmV{C:Addr}{h0:MH}{σ:MSt}:Qij C 1 (QY C) Qc σ h0=sO (vQ h0,h0++oK):=by
 let e:QY C [vQ h0] (h0++dC)=sO (.non,h0++oK):=by
  refine QoT (σ1:=l6) ?_;let a:∀(σ:MSt) (h:MH),Ka σ h=sO (ī,qJ4):=ş;let d:=Qlr (C:=C) (f:="numbers") (mo:=Qb 0) (mv:=Ka) (σ:=l6) (h:=h0++dC) (n:=h0.length) (fs:=[]) jd0 rfl Ç Ð
  let m:((h0++xki++[vF]).set h0.length (.ins C (Qcx "numbers" (.ref (TH h0 xki)) [])))=jO5:=by
   show jhc
  rw[m]at d;let c:=Qlr (C:=C) (f:="risen_by") (mo:=Qb 0) (mv:=Ka) (σ:=l6) (h:=jO5) (n:=h0.length) (fs:=[gH]) jd0 rfl Ç Ç
  let l:((h0++[jY8,vF]++[vF]).set h0.length (.ins C (Qcx "risen_by" (.ref (TH h0 [jY8,vF])) [gH])))=jH7:=by
   show jhc
  rw[l]at c;let b:=Qlr (C:=C) (f:="askers") (mo:=Qb 0) (mv:=Ka) (σ:=l6) (h:=jH7) (n:=h0.length) (fs:=[gH,jCd]) jd0 rfl Ç Ç
  let j:((h0++jne++[vF]).set h0.length (.ins C (Qcx "askers" (.ref (TH h0 jne)) [gH,jCd])))=h0++oK:=by
   show jhc
  rw[j]at b;show Jk d (Jk c b)
 apply(if jFa then(QY C [vQ h0] (h0++dC)).bind _ else nO)=_;rw[if_pos (show jFa from rfl),e];rfl
def Qnp{C:Addr}{h0:MH}:LsH C zt1 h0.length yT yX uW [] [] []:=by
 refine#[Å,?_,?_,#[?_,Å,Å,Å],#[ć,ć,ć],?_,rfl,rfl]
 show qC9
 show qC9
 ·show xkj;simp
 ·intro a b;show jo b;omega
def Qbg{G:GA}(h:∀e∈G,e.2.2=[])(k:Ky):zii=[]:=by
 unfold gL;cases c:yc with
 |none=>rfl
 |some q=>show h _ (VW c)
section
variable{p:È}{out:Ì}{M:í}{C:Addr}{h0:MH}{n0:Nat}
def Qpz{keys:Ħ}(q:keys.Nodup)(A:keys.length<=6400){kw:W} :
  ∃x3 G h,ZR Sn zI (Jm C) jYb zt1=sO (ô (lT n0 (Ï S0) h0.length x3 nO nO nO) h) /\
   LsH C h h0.length yT yX uW (zD keys) (zB keys) G/\qI5/\jPe:=by
 let#[o,u,v,x3,G,rfl,L,ge,l,lo]:=Zd (items:=keys.map Qr) (b:=QZ 3) (body:=Jm C) (λj m h=>∃x3 G,m=qdf x3/\LsH C h h0.length yT yX uW (zD zPj) (zB zPj) G/\qI5/\jPe)
  S0 0 jYb zt1 #[nO,[],rfl,Qnp,Å,λa c=>NF c,λa c=>RF c] (by
   rintro j w n m h ⟨x3,G,rfl,L,ge,l,lo⟩
   rw[Nt]at n;let#[k,hk,rfl]:=ϗ n;rw[NQ]at *;let r:=zSb
   let f:k∉(zD zPj).map (·.1):=by
    rw[Xz];intro z;show By i d z;rw[Ybu]at d;split at d
    ·rename_i g;show ý (QiA q d hk) (NL g)
    ·cases d
   let#[B,x,L1,y,f1]:=Qc2 L f (by rw[Nr,Ez];omega);let t:h0.length<=h.length:=Nq (L.lt h0.length Ç);refine#[qdf (sO Ϫ),rfl,_,_,Ý (QcX (Qkp rfl L.i rfl rfl rfl x)),_,G++zEg,rfl,?_,Ô e s,Ô a c,Ô a c]
   ·rw[E8,hk];simpa[zD,zB]using L1
   ·show γ s z
    ·show ge e z
    ·rw[ĸ z]
   ·rw[f1 a (λz=>absurd (lo a z) ċ) (Nf c t)];show l a c
   ·simp only[fpL,Ee,NB,Dl,NK,NI,DQ,or_false]at c
    rcases c with c|c|c|c|c|c
    ·omega
    ·omega
    ·omega
    ·omega
    ·show lo a (by simp only[fpL,NK];show Ć (Ė (jF (c9 c))))
    ·omega)
 show(Mx L,#[x3,G,u,Xl (b:=QZ 3) rfl v,L,ge,l,lo])
def Qgm(A:ù)(ng:ϣ){Q:Ê}(hQ:∀e∈AR,Mb)(j:Ť)(hw:v3)(m:h0[n0]?=sO o9){keys:Ħ}(w:keys.Nodup)(Z:∀k∈keys,xb) :
  ∃aN aR aA K G D B c h',Zk C [Ä n0,À S0] h0=sO (vQ h0,h')/\LsH C h' h0.length aN aR aA D B G/\Bv/\mQ/\(∀k∈keys,k∈K)/\(qge h')/\Sf:=by
 let y:=Qat j hw w Z;let t:=Ü m;let#[U,G,d,e1,L1,ge,H,lo1]:=Qpz (C:=C) (h0:=h0) (n0:=n0) w y (kw:=À S0);let E:h0.length<d.length:=L1.lt h0.length Ç
 let I0:BgI p out M C h0.length yT yX uW d.length n0 h0 [] keys keys G (400*0) jJ3:=by
  refine#[xz0 L1 l,Å,iI z (L1.lt _ z),λx hx=>?_,lo1,Nq E,Z,w,xW,Å,Õ k v b,Õ k v b,Ô e o,jH8]
  ·rw[NF ċ,H x hx]
  show xyj
  show xyj
  ·rw[ge e o];show NO _
 let#[d',K,r,f,S,P,N,e2,I2,ae,sb]:=Qm5 A hQ t m j hw (kw:=À S0) 6401 0 keys keys G jJ3 U nO nO 20000000 I0 rfl rfl Ð;let few:=I2.few j hw;let u:K.Nodup:=by let:=I2.L.nod;rwa[Xz]at this
 let g:GOk p out M K r:=#[u,I2.ko,by rw[I2.L.kd,Xz],I2.sd,I2.vk,λk hk q hq=>I2.cp k hk Ç Ç q hq]
 let ek:mFn K1 (B5 zuh) (lT n0 (Ï S0) h0.length S (sO (uI d)) P N) f=sO (vQ f,f++zqj):=by
  let:XT f (ú yT)=sO (tb W.int u3):=by simp only[XT,I2.L.n]
  unfold mFn;rw[J6 (un9 rfl (V6 I2.L.i rfl)),Nk];unfold K1;simp only[this,Ea];simp[tb,zD,Du]
 let J:CC p out M K r [] u3 zJ K 0:=by
  let X:∀k v,jG u3=sO v->v=0:=λk v b=>by
   show jxb
  let b0:∀k v,jG zJ=sO v->v=nO:=λk v b=>by
   show jxb
  refine#[Xz,xW,λk v b=>by rw[X k v b];show .zero k,jH8,#[λ_=>0,λ_=>Nw _,λa k hb=>?_],?_,Sw]
  ·let:=b0 a _ hb;cases this
  ·let:∀(L:Ħ),(∀k,tvZ u3 k=0)->(L.map (tvZ u3)).sum=0:=λL hz=>by
    induction L with
    |nil=>rfl
    |cons x L ih=>rw[NB,Fz,ih,hz];rfl
   unfold tot
   rw[this K λk=>by
    unfold tvZ;cases c:jG u3 with
    |none=>rfl
    |some v=>show X k v c]
   decide
 let H3:LsH C (f++zqj) h0.length yT yX uW u3 zJ r:=I2.L.frame λa l=>NF (I2.L.lt a l);let s:f.length∉fpL h0.length yT yX uW r:=iI z (I2.L.lt _ z);let#[D,B,c,h3,e3,H4,I,F,ab]:=QjN A ng g j few s (n0:=n0) (kw:=À S0) (x3:=S) (x5:=P) (x6:=N) 1300000 0 K u3 zJ 0 (f++zqj) 20000000 H3 J Ç rfl rfl Ð;refine#[_,_,_,K,r,D,B,c,h3,?_,H4,g,I,sb,Ô a l,few]
 ·unfold Zk Qx;refine Qi9 (Jk (QS QmV) ?_);refine Jk e1 ?_;refine Jk (QS (v:=vQ d) (h1:=d++[À S0]) rfl) ?_;refine Jk e2 ?_;refine Jk (QS ek) ?_;refine Jk e3 ?_;rfl
 ·let aa:=I2.L.lt h0.length Ç;rw[F a (λz=>Yaf l (I2.af a z)) Bt ċ,NF ċ];show I2.a a l
#print"-"
def VN{m:ME}{a:MA}{σ:MSt}{h h1 h2:MH}{x:W}{xs:Ã}(e:zqa)(b:a σ h1=sO (xs,h2)):Qa m a σ h=sO (x::xs,h2):=by
 unfold Qa;rw[e,Nk,b];rfl
def QbP{n:Nat}{f:FM}{a:MA}{σ:MSt}{h h1:MH}{as:Ã}{r:Ú}(e:zI7)(en:xu8)(b:jha=r):Qf n f a σ h=r:=by
 unfold Qf mFn;rw[e,Nk];apply(if xu8 then jha else nO)=r;rw[if_pos en,b]
def Qt5{m:ME}{σ:MSt}{h h1:MH}{v:W}(e:zkb):Q6 m σ h=AO h1:=by
 unfold Q6;rw[e];rfl
abbrev rU(p:È)(r:Nat)(key:Ky)(bl:Nat)(x4:Þ):MSt:=[Ő,υ r,sO jc5,sO (.ref bl),x4]
section
variable{p:È}{out:Ì}{M:í}{C:Addr}{r aN aR aA:Nat}{K:Ħ}{G:GA}{D:ľ}{B:jP}{c:Nat}
def Qcu(g:Bv)(cc:mQ){T:Ky->Nat}(A:qic)(hB:B.map (·.1)=K){bl:Nat}(X:bl∉Cp):∀(n:Nat) (key:Ky) (Bk:Ê) (h:MH) (f:Nat),T key<=n->SY->n<f->Bk.length+n<=1300000->Ÿ->h[bl]?=jnf->(∀q∈Bk,A0) ->
  ∃(d:Ky) (j:Ê) (h':MH),Qs (Qk (PX zxb)) (Yt C) f kA h=sO (ô (rU p r d bl nO) h')/\d∈K/\j.length<=1300000/\(∀q∈j,A0)/\h'[bl]?=sO (Ï (j.map QR))/\ij/\∀a,a≠bl->Bx:=by
 intro n
 induction n with
 | zero=>
  intro key Bk h f Q hk P N H s u;show jq7;cases v with
  |some k=>let:=(A key k l).2;omega
  |none=>
   show jO7
 | succ n I=>
  intro key Bk h f Q hk P N H s u;show jq7;let o:=Ü s;cases v with
  |none=>
   show jO7
  | some k=>
   let#[x,J]:=A key k l;let E:∀a,a≠bl->(h.set bl (Ï zz6))[a]?=h[a]?:=λa m=>by rw[Qt o,j5 m]
   let y:ϵ zxj D B:=H.frame λa m=>E a λz=>X (S6 z m)
   let#[d,j,h',t,a1,a2,a3,a4,Z,Y]:=I k (Bk++qx4) zxj f ċ x ċ Bt y (by rw[Qt o,į]) (λq w=>by
    show cM w z u q
    ·rw[ĸ z];show(g.ko key hk).n)
   refine#[d,j,h',?_,a1,a2,a3,a4,by rw[Z,Es],λa m=>by rw[Y a m,E a m]];rw[Z6 (σ2:=rU p r k bl nO) (h2:=h.set bl (Ï zz6)) ?_ ?_]
   ·show t
   ·let:Qe Jw zxb Bl kA h=sO (Ϣ,h):=Wx jVa rfl rfl;show lC
   ·let z:Bk.length<sizeLine:=Ni (ć:Bk.length<=1300000) Ð
    let U:QQ jt3 kA h=sO (ô kA zxj):=by
     unfold rU Qr;simp[tyW,s,z,QR]
    let S:=qI6 y;show Jk U (QS (Wx (sL y) rfl S))
def QdM(A:ù)(h0:CD)(I:∀s∈out,AX)(ng:ϣ)(g:Bv){h:MH}(H:Ÿ)(o:mQ)(e:Ť)(hK:Sf){key:Ky}(hk:SY) :
  ∃(L:Ê) (h':MH),ZW C [QJ p,Ä r,zR] h=sO (À cr,h')/\∀a,vx->Bx:=by
 let#[T,t1,t2]:=o.ri;let top:=o.top A ng g e hK;let hB:B.map (·.1)=K:=by rw[H.kb];show o.kd
 let tB:qic:=λa k hb=>by
  let#[b,m,x,y,U,h3,h4,h5,h6]:=t2 a k hb;let s:=o.ok k b Ç Ç (a,m) U y x h4 h3;show#[b,h6 (Int.le_antisymm h5 s)]
 let bf:jLa:=iI z xs0;let H1:ϵ AI D B:=xz0 H u;let ab:=t1 key;let#[d,Bk,b,t,a1,a2,a3,Y,a5,a6]:=Qcu (C:=C) g o tB hB bf (T key) key [] AI 20000000 Č hk ċ Bt H1 Ç Ç;let w:=g.ko d a1;let pos:eZ:=Ni Ŋ w.n;let#[F0,Q,j,e0]:=Y1 A e pos;let i:∀q∈ks F0,A0:=λq F=>QeL A pos ((j q).mp F);let f:xk7:=Nh (QeT Q i) e
 let hz:d.1∈ks F0:=by
  let hm:=Kh w.n;let:=xrf I;rw[Qpf A w.n]at this;show(j _).mpr this
 let#[La,v,la,ea]:=GF Q (T9 f) hz;let e1:=e0 b;let e2:=ea jng b.length Ç;let es:=W5 A b;let ae:La.reverse.length<=200:=by rw[ED];show Nh la f
 let e3:=λh=>Xe A (La.reverse++Bk.reverse) (λq F=>by
  show γ F z
  ·show i q (v.mem q xy8)
  ·show a3 q xy8) (by rw[NJ,ED (as:=Bk)];omega) h
 refine#[La.reverse++Bk.reverse,zwi,?_,Ô a u]
 ·unfold ZW Qx;refine Qi9 (Jk (σ1:=rU p r key h.length nO) (h1:=vr) rfl (Jk t ?_))
  let s4:Qf 2 J2 jse (rU p r d h.length nO) b=sO (À R9,zmc):=by
   unfold rU Qr;simp[es,e1,e2]
  refine zh2 s4;let J:(b++qA)[h.length]?=jnf:=by show lD Y
  let E:qb9:=by
   rw[Nr,ED (as:=Bk.map QR),Nr];show Nh (ć:_<=1300200) Ð
  let S:Qe ZX ĕ qm7 ((rU p r d h.length nO).set 4 (sO (Ï R9))) jng=sO (À ((La.reverse++Bk.reverse).map QR),zwi):=by
   refine Wx (x:=À R9) (h1:=zmc) rfl (y:=.ref (TH b qA)) (h2:=zwi) ?_ ?_
   ·unfold mFn;rw[J6 (x:=ī) (h1:=zmc) rfl,Nk];unfold Ge lsW;show yw J;rfl
   ·let lo:loW jYa jCe=sO zw7:=by
     unfold loW;simp
    apply((loW sf (Ï R9)).bind λP=>(loW sf jCe).bind λN=>mm P N (W.lst (P++N),sf))=_;rw[lo];apply(if qb9 then sO (W.lst (La.reverse.map QR++zw7),sf)else nO)=_;rw[Ò E,Ee,Yad (l:=Bk)]
  let X:=e3 jYa;generalize(La.reverse++Bk.reverse).map QR=LL at S X;let s6:=VN (m:=Qb 0) (x:=QJ p) (h1:=b++qA) rfl (J6 S);show Qt5 (QbP s6 rfl X)
 ·let aa:b.length=zXb:=CS a5
  rw[EH,NF ċ,a6 a jf9,NF u]
#print"-"
def QhE{ns:Ũ}(f:xz1):Yh ns∈ns/\∀n∈ns,n<=Yh ns:=by
 let#[g,e]:=argBest_gt (λi=>xwe) zPb;let a:argBest jZh zPb<ns.length:=ć
 constructor
 ·unfold Yh;rw[EB,Nn a];show Ff a
 ·intro n c;show By j b c;let d:=Ü b;let:=e j ċ;rw[show xwf=n by rw[EB,b];rfl]at this;show this
def Qe3:∀{ns:Ũ},Qbs pJ=sO ns:=by
 intro ns
 induction ns with
 |nil=>
  show rfl
 |cons n ns a=>
  rw[NB];apply(Qbs pJ).map (n::·)=_;rw[a];rfl
def Qhi{ns:Ũ}{h:MH}(a:xz1):Qcm [À pJ] h=sO (Á (Yh ns),h):=by
 unfold Qcm;simp only[lsW,Nk,Qe3];rw[Ò a]
abbrev rwW(e:BT):W:=Î [.int e.1.1,.tup mR,Ae e]
abbrev rwT(e:BT):Tr:=.t [.i e.1.1,.t qY6,.i e.2]
def Ql8:∀(l:Â),zT8 (plN 6)=zR5:=by
 intro l
 induction l with
 |nil=>
  show rfl
 |cons x l a=>
  rw[NB,Dm,a];rfl
def QoJ(e:BT):plN 8 (rwW e)=sO (rwT e):=by
 let:plN 7 jLc=sO (.t qY6):=by
  apply((e.1.2.map W.str).mapM (plN 6)).map Tr.t=_;rw[Ql8];rfl
 apply(([W.int e.1.1,Î mR,Ae e]:Ã).mapM (plN 7)).map Tr.t=_;rw[Dm,Dm,Dm,this];rfl
def Qkc:∀(l:ľ),plL zTa=sO xl0:=by
 intro l
 induction l with
 |nil=>
  show rfl
 |cons e l a=>
  rw[NB];apply((plN 8 (rwW e)).bind λt=>(plL zTa).map (t::·))=_;rw[QoJ,Nk,a];rfl
def QgF(l:ľ):One xl0:=by
 refine#[.i,[.l .s,.i],Ô t b];show lA e b;refine#[_,rfl,ĉ þ (.cons #[_,rfl,Γ a] (du þ))];show(lA y a,Mq y)
def QeN{l:ľ}{h:MH}:YU [À zTa] h=zt7:=by
 unfold YU;simp only[lsW,Nk,Qkc];show Ŕ (QgF l)
section
variable{p:È}{out:Ì}{M:í}{K:Ħ}{G:GA}{D:ľ}{B:jP}{c:Nat}
def Qk2(A:ù)(h:ϣ)(g:Bv)(a:mQ){k:Ky}{x:Int}(d:Der p out M k x):k∈K->∃v,jG D=sO v/\x<=v:=by
 induction d with
 |zero k=>
  intro hk;let#[v,e]:=zB6 a;show#[v,e,(QiH A h (a.dr k v e)).1]
 |@up k q v d j i=>
  intro hk;let#[f,l]:=g.cp k hk q j;let#[u,hu,b]:=i f;let#[w,hw]:=zB6 a;let:=a.ok _ f Ç Ç _ l u w hu hw;show#[w,hw,Il (YaV b _) this]
#print"-"
#print"-My"
namespace St
def Qqi(ks:Â):∃d:Â,Hn d/\zY d=true:=by
 refine#[ks.mergeSort (λa b=>qoj),List.mergeSort_perm _ _,?_];refine' sortedS_of_pairwise
 let:=List.pairwise_mergeSort (le:=λa b:Str=>qoj) (λa b c f e=>by
  rw[decide_eq_true_eq]at *;show List.le_trans f e) (λa b=>by
  rw[F3,decide_eq_true_eq,decide_eq_true_eq]
  show List.le_total _ _) ks
 show this.imp λh=>le_of_lt.mpr pb
def srt_spec(ks:Â):(srt ks).Perm ks/\sortedS (srt ks)=true:=by
 let#[a,p,h]:=Qqi ks;rw[srt_eq p h];show B3 p h
#print"-St"
namespace My
open L2 Mi My3 My4
def Qks{i:Type}{fin:ŷ}{items:Ã}{src:A8}{b:MG}{mt:MT}{me:ME}{h:MH}(P:xG){enc g:i->W}{t:i->Bool}(n:Bo):∀(xs:Ø i) (d:Ã) (e:MSt),P e->d.length+xs.length<=sizeLine ->
  (∀x∈xs,jq0 e h) ->
  qhh e=fin (d++(xs.filter t).map g) h:=by
 intro xs
 induction xs with
 |nil=>
  intro d e _ _ _;rw[Dl];unfold Zx;rw[Ò n];simp
 | cons x xs l=>
  intro d e p q m;let#[a,u,j,s,r]:=m x NA e p;let f:=λy o=>m y (Ny x o);rw[NS]at q;rw[NB];unfold Zx;rw[Ò n,u,Nk,s,Nk];cases c:t x with
  |true=>
   apply((me a h).bind λv=>if qS1 then zS5 qCa (d++[v.1]) a v else nO)=_;rw[r c,Nk,if_pos ċ,l _ a j Bt f];simp[c]
  |false=>
   apply qhh a=_;rw[l _ a j ċ f];simp[c]
def QaW{c:Type}{fin:ŷ}{mi:MI}{cp:χ}{items:Ã}{src:A8}{b:MG}{mt:MT}{me:ME}{σ:MSt}{h h1:MH}(P:xG){enc g:c->W}{t:c->Bool}{xs:Ø c}(hi:qm0)(l:items=xs.map enc)(i:live src items h1)(j:P dm)(f:Bn)
  (e:∀x∈xs,jq0 d h1):zLb b=fin ((xs.filter t).map g) h1:=by
 show zY3;apply Zx fin items src b mt me items [] dm h1=_;let:=Qks (fin:=fin) (items:=items) (src:=src) (b:=b) (mt:=mt) (me:=me) P i xs [] dm j (Ģ f) e;rw[<-l]at this;rw[this,Dq]
def fn9{f:ŷ}{a:MA}{σ:MSt}{h h1:MH}{as:Ã}{r:Ú}(e:zI7)(b:jha=r):mFn f a σ h=r:=by
 unfold mFn;rw[e,Nk,b]
def QfH{p:È}{s:Spt}{w:Str}(h:C4 s=sO w):w∈Wds p:=by
 unfold mdS at h;show d7 h
 ·let#[x,a,h]:=ģ h;let#[l,b,h]:=ģ h;let:w∈prw p:=Fi.mpr #[x,EI a,FZ.mpr #[l,EI b,h]];show(St.srt_spec _).1.mem_iff.mpr ((St.uniq_mem _ _ rfl w).mpr this)
abbrev kyL(p:È)(out:Ì):Ħ:=(List.range out.length).map λn=>tz
def ky_mem{p:È}{out:Ì}{k:Ky}:k∈ze3↔xf7/\k.2=Wds p:=by
 unfold kyL;show Đ n w k;simp[NC];constructor
 ·rintro⟨a,h,rfl,rfl⟩;show Mq h
 ·rintro⟨h,rfl⟩;show#[n,h,rfl,rfl]
def Qsg{p:È}{out:Ì}:(kyL p out).Nodup:=by
 unfold kyL List.Nodup;rw[DE];show List.Pairwise.imp (λh e=>h (congrArg Prod.fst e)) Fh
abbrev mo(p:È)(M:í)(x2 x3 x4 x5 x6 x7 x8:Þ):MSt:=[Ő,uc,x2,x3,x4,x5,x6,x7,x8]
section
variable{p:È}{out:Ì}{M:í}{C:Addr}{K:Ħ}{G:GA}{D:ľ}{B:jP}{c r aN aR aA:Nat}{h:MH}
def Qsp{f:Type}:∀{L:List (Ky×f)},(L.map (·.1)).Nodup->∀e∈L,tv L e.1=sO e.2:=by
 intro L
 induction L with
 |nil=>
  intro _ e b;cases b
 | cons x L g=>
  intro d e b;rw[NB,Eo]at d;unfold tv;rw[NV]
  by_cases z:x.1=e.1
  ·rcases HE b with rfl|a
   ·simp
   ·show absurd (CY #[e,a,z.symm]) d.1
  ·rcases HE b with rfl|a
   ·show CV z
   ·rw[show decide (x.1=e.1)=false from S7 z];show g d.2 e a
def QqD(hd:D.map (·.1)=K){k:Ky}(hk:k∈K):jG D=sO zch:=by
 let#[v,a]:=JX (L:=D) (k:=k) (by rw[hd];show hk);unfold tvZ;rw[a];rfl
def Qea(H:Ÿ)(hd:D.map (·.1)=K){k:Ky}(hk:k∈K){m1 m2:ME}{σ:MSt}(b:ė m1=sO (Ä r,h))(a:ė m2=xyd):Qe J3 (Pm m1) m2 σ h=sO (Á zch,h):=
 Wx (un9 b zR8) a (QbU (f:=W.int) H.n (QqD hd hk))
def Qo4(H:Ÿ)(hd:D.map (·.1)=K){d:Ħ}(j:∀k∈d,k∈K)(l:qO7)(h0:0<d.length){x2 x3:Þ} :
  mFn Qcm (ç (BR tM jbb (B0 (Pm ø) î))) (mo p M x2 x3 jCf di nO nO nO) h=sO (Á (Yh (d.map wL)),h):=by
 let:=QaW (fin:=Zv) (mi:=Qm ĕ) (cp:=jbb) (b:=QZ 0) (mt:=Vw) (me:=Qe J3 (Pm ø) î) (σ:=mo p M x2 x3 jCf di nO nO nO) (h:=h) (h1:=h) (src:=nO) (items:=d.map Qr) (xs:=d) (enc:=Qr) (g:=λk=>Á zch) (t:=xA) (λf=>∃a,f=[a,υ r]) rfl rfl Ty þ l (by
  rintro k hk f ⟨a,rfl⟩
  show#[_,rfl,þ,rfl,λ_=>Qea H hd (j k hk) rfl rfl])
 let e:(d.filter xA).map (λk=>W.int zch)=(d.map wL).map .int:=by
  rw[zsb,Ei];rfl
 rw[e]at this;show fn9 xz2 (Qhi (aB h0))
def Qk1(H:Ÿ)(hd:D.map (·.1)=K){b:Ħ}(f:∀k∈b,k∈K)(i:RK){n:Int}{x2 x3:Þ} :
  QD Zv tM xe8 η (ò (Ă jWi ø)) î (mo p M x2 x3 (sO jL7) di Bw nO nO) h=sO (À ((b.filter (yt k zTb)).map Qr),h):=by
 refine QaW (fin:=Zv) (h1:=h) (src:=nO) (items:=b.map Qr) (xs:=b) (enc:=Qr) (g:=Qr) (t:=yt k zTb) (λd=>∃a,d=[a,ğ n,υ r]) rfl rfl Ty þ i ?_
 rintro k hk d ⟨a,rfl⟩
 refine#[_,rfl,þ,?_,Λ];let m:=Qea (m1:=Qb 2) (m2:=Qb 0) (σ:=zje) H hd (f k hk) rfl rfl;let l:Qe wEq jWi ø zje h=sO (ă (AQ zTb),h):=Wx m rfl (by simp;show F4.mpr Ç);apply Qk _ zje h=_;unfold Qk;rw[l];rfl
def QlZ(H:Ÿ)(hd:D.map (·.1)=K)(o:K.Nodup)(u:qO9){x2 x3 x4 x6 x7:Þ} :
  mFn YU (B5 (QD Zv (Xh zui) zT0 vp Vw (jh (Aq (ϳ (cG (B0 zuh jte))))))) zn5 h=zt7:=by
 let ei:Xh zui zn5 h=sO ((tb W.int D).map (·.1),sO (.d aN),h):=by
  let:mUn (zve C) ť zn5 h=xfg:=un9 rfl zR8;unfold Xh;rw[this,Nk];simp only[H.n]
 let:=QaW (fin:=Zv) (mi:=Xh zui) (cp:=zT0) (b:=wX) (mt:=Vw) (me:=oi (π (ϳ (ç (B0 zuh (Ĳ (Qa î (ō ø)))))))) (xs:=D) (enc:=λe=>zC) (g:=rwW) (t:=xA) (λf=>∃a b,f=[a,b,υ r]) ei (by simp[tb,Du]) (λn s=>by show ì s #[_,H.n,rfl]) AF u (by
  rintro e j f ⟨a,b,rfl⟩
  refine#[jji,rfl,AF,rfl,xT];let hk:e.1∈K:=by rw[<-hd];show yh (MZ e j)
  let l:=Qea (m1:=Qb 2) (m2:=qc8) (σ:=jji) H hd hk rfl rfl
  let q:tvZ D e.1=e.2:=by
   unfold tvZ;rw[Qsp (by rw[hd];show o) e j];rfl
  rw[q]at l
  show fn9 (VN (m:=Qb 0) (x:=.int e.1.1) (h1:=h) rfl (VN (m:=Qb 1) (x:=Î mR) (h1:=h) rfl (J6 l))) rfl)
 rw[zsb]at this;show fn9 xz2 QeN
#print"-"
section
variable{bs ws:Â}{p:È}{out:Ì}{M:í}{C:Addr}
def Qpm{x2 x3 x4 d:W}{r:Nat}{N:Int}{e:Ã}{f:W}{H h2:MH}(i:zj1 d H=Ċ f H)(g:ZW C [QJ p,Ä r,f] H=jMd) :
  Q6 (ji0 C) jp7 H=sO (.rt (Ĩ [ii,Á N,À e,dB]) h2):=by
 generalize ZW C=F at g
 let h:Qf 3 F jGj jp7 H=jMd:=
  QbP (VN (m:=Qb 0) (x:=QJ p) (h1:=H) rfl (VN (m:=Qb 5) (x:=Ä r) (h1:=H) rfl (J6 (Wx (a:=Qb 7) (x:=d) (h1:=H) rfl (b:=mC oJ) (y:=wH) (h2:=H) rfl i)))) rfl g
 show Qt5 (fn9 (VN (m:=mC xL8) (x:=ii) (h1:=H) rfl (VN (m:=Qb 6) (x:=Á N) (h1:=H) rfl (VN h (J6 (m:=Qb 8) (x:=dB) (h1:=h2) rfl)))) rfl)
set_option maxHeartbeats 1000000 in
def Qmz(F:S5)(l:AG)(A:ù)(h0:CD)(E:∀s∈out,AX)(d:Ť)(hM:AC)(eg:Yc ud []=sO (.non,[]))(u:ϣ) :
  ∃(N:Int) (L:Ê) (g:MH),XQ C ud []=sO (Î zjf,g)/\jRj:=by
 let pos:eZ:=A.pos;let I:=(Qa9 F l).2.1;let ew:=K6 F l [];let#[Q,hQ,eQ]:=Gb (M:=M) F A hM;let o:=eQ [];rw[Dq]at o
 let kk:∀k∈ze3,xb:=λk hk=>by
  let#[f,J]:=ky_mem.mp hk;show#[f,by rw[J];show List.Sublist.refl _]
 let#[aN,aR,aA,K,G,D,B,c,f,e5,H,P,i,sub,fr,few]:=Qgm (C:=C) (M:=M) (h0:=[uO]) (n0:=0) A u hQ d I rfl (keys:=ze3) Qsg kk;let kl:zKi=out.length:=by unfold kyL;simp
 let j:zKi<=sizeLine:=by rw[kl];show nz d
 let dl:qO9:=by
  let:(D.map (·.1)).length=K.length:=by rw[i.kd]
  rw[Nr]at this;rw[this];show Nh few Ð
 let Z:0<zKi:=by rw[kl];show pos
 let s3:mFn XF (à mB) (mo p M bA nO nO nO nO nO nO) []=sO (Î yP,[]):=fn9 (J6 (QbP qua rfl ew)) rfl
 let er:W9 (à qc2) zw8 []=sO (QE 0 out.length,nO,[]):=by
  let s:Qf 1 Zs P4 zw8 []=sO (À ϝ,[]):=QbP qua rfl (A.s []);refine XY ?_ oy;show J6 (fn9 (J6 s) Ç)
 let s4:QD Zv jGi vZ η Vw jig zw8 []=sO (À mN,[]):=by
  let:=Jy (fin:=Zv) (cp:=vZ) (me:=qc8) (caps:=[sO oZ]) (λw=>Î [w,.tup yP]) er þ (λw _=>rfl) (by rw[Y7];show nz d);rw[this]
  let e:(QE 0 out.length).map (λw=>W.tup [w,Î yP])=(kyL p out).map Qr:=by
   unfold QE kyL Qr;simp[Du]
  rw[e];rfl
 let s5:Qf 2 (Zk C) jx8 jQ2 []=sO (yr,f):=by
  let s:Qf 2 Vm zjh jQ2 []=sO (ο,[uO]):=QbP (VN (m:=Qb 0) (x:=QJ p) (h1:=[]) rfl (J6 (m:=Qb 1) (x:=À Ϝ) (h1:=[]) rfl)) rfl o;show QbP (VN s (J6 (m:=Qb 4) (x:=À mN) (h1:=[uO]) rfl)) rfl e5
 let Y:=Qo4 (p:=p) (M:=M) (x2:=xO) (x3:=sO oZ) H i.kd sub j Z;let t:=Qk1 (p:=p) (M:=M) (x2:=xO) (x3:=sO oZ) (n:=Yh qqh) H i.kd sub j;let#[bm,bg]:=QhE (ns:=(kyL p out).map wL) (aB Z);generalize hN:Yh qqh=N at Y t bm bg;generalize hb:(kyL p out).filter (λk=>decide (tvZ D k=N))=bst at t;let s8:=QlZ (p:=p) (M:=M) (x2:=xO) (x3:=sO oZ) (x4:=sO (Ï mN)) (x6:=ğ N) (x7:=sO (Ï (bst.map Qr))) H i.kd P.kn dl
 obtain⟨h,S,rfl⟩:∃h S,bst=h::S:=by
  let#[k,hk,he]:=NC.mp bm;let:k∈bst:=by rw[<-hb];show EL.mpr #[hk,decide_eq_true he]
  cases bst with
  |nil=>cases this
  |cons a b=>show#[a,b,rfl]
 let z:h∈K:=sub h (EL.mp (by rw[hb];show NA)).1;let#[L,J,e9,ae]:=QdM (C:=C) A h0 E u P H i d few z;refine#[N,L,J,?_,λn x hn hd=>?_]
 ·unfold XQ Qx;refine Qi9 (Jk xfd ?_);refine Jk (σ1:=mo p M bA nO nO nO nO nO nO) (h1:=[]) rfl ?_;show(kr s3 s4,kr s5 Y,kr t s8);let hx:zj1 (Ï ((h::S).map Qr)) f=sO (Qr h,f):=Å
  show Qpm hx e9
 ·let hk:(tz:Ky)∈ze3:=ky_mem.mpr #[hn,rfl];let#[v,hv,y]:=Qk2 A u P i hd (sub _ hk);let:=bg (tvZ D tz) (CY #[_,hk,rfl]);unfold tvZ at this;rw[hv]at this;show Il y this
def QmT(t:S5)(b:AG)(A:ù)(h0:CD)(d:∀s∈out,AX)(i:Ť)(u:AC) :
  ∃v:W,(zRh\/jp8)/\∀h:MH,Gf C ud h=Ċ v h:=by
 show qei c
 let#[w,hw,y]:=Qfn (M:=M) t b A h0 d i u
 rcases hw with⟨rfl,B⟩|hw
 ·let a:ϣ:=λj e H o E=>B j (QfH o) e H o E;let#[N,L,g,em,hd]:=Qmz (C:=C) t b A h0 d i u (y []) a;refine#[_,ê #[N,L.map Po,rfl,a,hd],è h];let hL:=Zi (mO g) _ (KL (f:=Po) (l:=L) zph)
  let:=VG (m:=XQ C) (args:=ud) (as:=ud) (ns:=[]) (os:=[]) (os':=[]) (g:=g) (h:=h) (w':=Î zjf) (Xp c) Ç rfl em rfl Ç (by
   rw[Dq]
   let F:th (mO g) (Ï cr)=sO (Ï cr):=by
    unfold th;rw[hL];rfl
   apply(ths _ zjf).map W.tup=_;unfold ths ths ths ths ths;rw[F]
   rfl)
  unfold Gf;simpa[Qz]using this
 ·refine#[w,.inl hw,λh=>Qv (g:=[]) c ?_ ?_]
  ·let D:Qe Jw ó Bl zAf []=sO (Ϣ,[]):=by
    show xfh;rfl
   refine Qi9 (Jk (QS (y [])) (QuP ?_))
   let:Qk (PX ó) zAf []=sO (true,[]):=by
    unfold Qk;rw[D];rfl
   apply ZI _ _ _ zAf []=_;unfold ZI;show Ξ
  ·show(xfh,juc)
#print"-"
structure Rm where
 w:Str
 s:Spt
 b:Bool
abbrev rO(r:Rm):MO:=À [.str r.w,Qj r.s,.bl r.b]
abbrev r0:Rm:=#["",zKf,false]
abbrev gt(R:ö)(i:Nat):Rm:=R.getD i r0
abbrev ixs(R:ö):Ê:=(List.range R.length).filter zmd
abbrev kil(gone:Â)(r:Rm):Rm:={ r with b:=decide (r.w∉gone) }
abbrev fin(gone:Â)(r:Rm):Rm:=if r.b=true then kil gone r else r
abbrev prR(r:Rm):jed:=(r.w,r.s)
abbrev Qb0(R:ö):Sa:=(R.filter (·.b)).map prR
def Qew(R:ö):(List.range R.length).map (gt R)=R:=by
 refine' List.ext_getElem
 ·simp
 ·intro i b a;simp[gt,a]
def QmE(R:ö):(ixs R).map (gt R)=R.filter (·.b):=by
 conv=>rhs;rw[<-Qew R]
 rw[F8];rfl
def YO{R:ö}{i:Nat}(h:zt2):CM:=by
 unfold ixs at h;rw[EL,Ef]at h;show h.1
def Qno{R:List Rm}{i:Nat}(h:i<R.length):zt2↔(gt R i).b=true:=by
 unfold ixs;rw[EL,Ef];show#[λz=>z.2,λz=>#[h,z]]
def QqJ(R:ö):(ixs R).Nodup:=Ybz Oh Fh
abbrev QfQ(gone:Â)(R:ö)(is:Ê):ö:=(List.range R.length).map λi=>if i∈is then qG3 else gt R i
def QhK{gone:Â}{R:ö}:QfQ gone R []=R:=by
 show Qew R
def WI{gone:Â}{R:ö}{is:Ê}:(QfQ gone R is).length=R.length:=by simp[QfQ]
def Gz{gone:Â}{R:ö}{is:Ê}{i:Nat}(h:CM):(QfQ gone R is)[i]?=sO (if i∈is then qG3 else gt R i):=by
 unfold QfQ;rw[Nt,Di h];rfl
def Qif{gone:Â}{R:ö}{is:Ê}{i:Nat}(h:CM):(QfQ gone R is).set i (kil gone kD)=QfQ gone R (is++[i]):=by
 show SI j
 show gh b j R
 ·rw[Ig,Gz b,Gz b,WI]
  show Ě a i j
  ·subst a;simp[h]
  ·simp[a,Eb a]
 ·show zN2 xQg
def Qho{gone:Â}{R:ö}:QfQ gone R (ixs R)=lP:=by
 conv=>rhs;rw[<-Qew R]
 rw[Ei];refine ER (Ô i c);let:=Qno (Ef.mp c);apply _=zI1;unfold fin
 by_cases a:r6=true
 ·rw[Ò a,if_pos (this.mpr a)]
 ·rw[Ó a,if_neg (λz=>a (this.mp z))]
def QhW{gone:Â}{R:ö}:Qb0 ut=(Qb0 R).filter (λx=>decide (x.1∉gone)):=by
 unfold Qb0
 induction R with
 |nil=>rfl
 | cons r R a=>
  rw[NB,DP,DP]
  by_cases c:r.b=true
  ·by_cases d:r.w∈gone
   show qyb
   show qyb
  ·simp[fin,c]at a ⊢;show a
abbrev liv(gone:Â)(R:ö):Ê:=(ixs R).filter (yt i ((gt R i).w∉gone))
def QnM{R:ö}:(ixs R).map (λi=>prR kD)=Qb0 R:=by
 unfold Qb0;rw[<-QmE,Ei];rfl
def Qfw{R:ö}{w:Str}{s:Spt}:Qb0 (R++[tp])=Qb0 R++[(w,s)]:=by simp[Qb0,prR]
noncomputable abbrev rf(i:Nat):W:=Ä (i+2)
noncomputable abbrev Rcd:=Ê×Ê
abbrev YF(c:Rcd):W:=Î [À (c.1.map rf),À (c.2.map rf)]
abbrev hk(R:ö)(F:ja):MH:=À ((List.range R.length).map rf)::À qKj::R.map rO
def Qk8{R:ö}{F:ja}{i:Nat}{r:Rm}(h:R[i]?=sO r):(hk R F)[i+2]?=sO (rO r):=by
 apply(R.map rO)[i]?=_;rw[Nt,h];rfl
def YC{R:ö}{i:Nat}(h:CM):R[i]?=sO kD:=by
 rw[Nn h];simp[gt,h]
noncomputable abbrev kS(p:È)(mn rn:W)(x5 x6 x7 x8 x9:Þ):MSt:=[Ő,sO mn,sO rn,sO ë,ž,x5,x6,x7,x8,x9]
def QfI{p:È}{mn rn:W}{x5 x7 x9:Þ}{gone:Â}{R:ö}{F:ja}{i:Nat}{r:Rm}(hi:R[i]?=sO r) :
  ZA jTj Sq=sO (ô jTj (hk qCb F)):=by
 let b:=Qk8 (F:=F) hi
 let a:(hk R F).set (i+2) (Ï [.str r.w,Qj r.s,ă (wG (r.w∈gone))])=hk qCb F:=by
  apply _::_::(R.map rO).set i _=_;unfold hk;rw[Es,Yae];simp[rO,kil]
 simp[b,rO,inL,ixN,a]
def Qe8{p:È}{mn rn:W}{x5 x8' x9:Þ}{gone:Â}{R:ö}{F:ja} :
  ∃x8,Zp pE nO jh2 ZA pE jRc Sq=sO (ô (kS p mn rn x5 sJ fY x8 x9) jnh):=by
 let a:=Zd (items:=xfi) (b:=QZ 8) (body:=ZA) (λn o h=>∃x8,o=kS p mn rn x5 sJ fY x8 x9/\h=hk (QfQ gone R ((ixs R).take n)) F)
  pE 0 jRc Sq #[x8',rfl,by rw[List.take_zero,QhK]] (by
   show(xb6 q o x8,Ϻ i l q,zj4 s g l);let f:zt2:=NH.mpr (ĺ j l);let d:=YO f;rw[NQ]
   let c:i∉(ixs R).take j:=by
    intro z;let#[k,hk,e]:=DZ.mp z;rw[Ez]at hk;rw[List.getElem_take]at e;let:=(Iy (QqJ R)).mp (Hd e g);omega
   let m:(QfQ gone R ((ixs R).take j))[i]?=sO kD:=by rw[Gz d,Ó c]
   refine#[_,rfl,_,_,Ý (QfI m),sO zff,rfl,?_];rw[Qif d,Iu,l]
   rfl)
 let#[r,t,e,x8,rfl,rfl]:=a;rw[Nr,NQ,El,Qho]at e;show B3 x8 e
set_option backward.eqns.nonrecursive false in
abbrev gB(R:ö):yj
 |Ä n=>(gt R (n-2)).b
 |_=>false
def Ue{R:ö}{F:ja}{mi:MI}{σ:MSt}{is:Ê}{src:A8}(hi:mi σ Sq=sO (is.map rf,src,Mo))(d:live src xl1 Sq)(g:∀i∈is,CM)(j:is.length<=sizeLine) :
  QD Zv mi [nO] η qnh î σ Sq=sO (À ((is.filter zmd).map rf),Mo):=by
 let l:=Ws (fin:=Zv) (mi:=mi) (cp:=[nO]) (b:=QZ 0) (mt:=Kx lY) (me:=Qb 0) (σ:=σ) (h:=Mo) (items:=is.map rf) (src:=src) (λf=>∃a,f=[a]) (gB R) id hi d þ (λw hw f #[a,c]=>by
  subst c;let#[i,hi,rfl]:=zf8;let e:=Qk8 (F:=F) (YC (g i hi));refine#[[sO zff],rfl,þ,?_,Λ]
  simp[e,rO,gB]) (Ģ j)
 rw[l,F8,YbN];rfl
abbrev QcB(R:ö)(o:SA)(s:Spt):ö:=match o with
 |ã w=>R++[tp]
 |none=>R
def QhC{R:ö}{o:SA}{s:Spt}:Qb0 (QcB R o s)=Qb0 R++o.toList.map (λw=>(w,s)):=by
 cases o with
 |none=>simp[QcB]
 |some w=>simp[QcB,Qfw]
def Qhs{R:ö}{o:SA}{s:Spt}:R.length<=qR8/\qR8<=wb:=by
 cases o<;>simp[QcB]
def Qjl{gone:Â}{R:ö}{i:Nat}(h:CM):gt ut i=zI1:=by simp[gt,h]
def Qh2{gone:Â}{R:ö}:((ixs R).filter λi=>(gt ut i).b)=liv gone R:=by
 refine YbJ (Ô i c);let a:=YO c;let d:=(Qno a).mp c;rw[Qjl a];simp[fin,d,kil]
def Qap{R:ö}{F:ja}{c:Rcd}:(hk R F).set 1 (Ï (F.map YF++[YF c]))=hk R (F++[c]):=xz3
def QkJ{R:ö}{F:ja}{r:Rm}:((Mo++[rO r]).set 0 (Ï ((List.range R.length).map rf++[Ä (R.length+2)])))=hk (R++[r]) F:=by simp[hk,IR]
def QnK{R:ö}{F:ja}:(hk R F).length=R.length+2:=xz3
def Qdn{p:È}{N:Nat}{bs ws:Â}(S:Ľ){M:í}{rn:W}{s:Spt}{x6 x7 x8 x9:Þ}{R:ö}{F:ja}(Y:AC)(P:jc s)(X:R.length<=6000000)(hF:F.length<=6000000) :
  ∃B A a z,JW (qo1 x6 x7 x8 x9) Sq=sO (ô (qo1 B A a z) (hk xF0 (F++[(ixs R,liv qvd R)]))):=by
 let eg:∀h,jT3:=λh=>Qgu Y;let em:∀h,qbf:=λh=>Qms S P;generalize zif=gone at *;generalize C4 s=o at *;let H:R.length<sizeLine:=uZ X;let E:F.length<sizeLine:=Ni hF Ð;let Q:(ixs R).length<=R.length:=by let:=E5 (λi=>r6) (List.range R.length);simpa[ixs]using this
 let u:=Ue (R:=R) (F:=F) (mi:=Qm å) (σ:=jT7 x7 x8) (is:=List.range R.length) (src:=sO (.l 0)) (by unfold Qm Qb;simp[Vy,hk]) (λn f=>by cases f;rfl) (λi g=>Ef.mp g) Bt;let#[a,e8]:=Qe8 (p:=p) (mn:=À Ϝ) (rn:=rn) (x5:=sO BQ) (x8':=x8) (x9:=x9) (gone:=gone) (R:=R) (F:=F);let t:=Ue (R:=lP) (F:=F) (mi:=Qm jt) (σ:=jT7 fY a) (is:=ixs R) (src:=nO) (by unfold Qm Qb;simp[Vy]) Ty (λi g=>by simpa using YO g) ċ;rw[Qh2]at t;let q:((List.range R.length).filter zmd)=ixs R:=rfl;rw[q]at u;let ei:∀x8 (h:MH),Qm jt (zv6 x8 x9) h=sO (xfi,nO,h):=ş;let j:∀R,qg1:=λR=>rfl;let U:∀F:ja,(hk ut F)[0]?=jnj:=λF=>rfl;let fd:=Qap (R:=lP) (F:=F) (c:=zKj);simp only[YF]at fd;refine#[sO (Ï xDb),sO (Ï pE),a,sO Ht,?_]
 let ap:∀{x:W} {n:Nat} {d:Ã} {h:MH},h[n]?=Ar d->qS1->xv1 [x]=sO (.non,Ű (Ï (d++[x]))):=λ{x n d h} f J=>by
  unfold Qp;show yw f;rw[Ò J]
 let D:QQ jp2 jni jnh=sO (ô jni zr0):=by
  refine QcX (v:=.non) (mt9 (o:=yr) (h1:=zRj) rfl rfl (J6 (fn9 (VN (x:=À pE) (h1:=zRj) rfl (J6 t)) (r:=sO (YF zKj,zRj)) rfl)) ?_);rw[ap (j _) (aB E),<-Qap]
 refine Jk (QS (eg _)) (Jk (QS u) (Jk (Xl (b:=QZ 8) (body:=ZA) (ei _ _) e8) (Jk D (Jk (QS (em _)) ?_))));cases o with
 |none=>rfl
 | some w=>
  let Z:∀(L:MH),(zuj++L)[0]?=jnj:=Λ;apply ZI _ _ _ zr1 zr0=_
  let st:QQ jwc zr1 zr0=sO (ô zr1 (hk (lP++[tp]) sv)):=by
   refine QcX (v:=.non) (mt9 (o:=ο) (h1:=zuj) rfl rfl (J6 (x:=.ref (hk ut sv).length) (h1:=zuj++[rO tp]) rfl) ?_);rw[ap (Z _) (Ģ H),QnK,QkJ]
  show st
set_option backward.eqns.deepRecursiveSplit false in
abbrev QdD(M:í)(p:È):Sa->Ì->List (HF xs1)
 |_,[]=>[]
 |al,s::r=>al::QdD M p jT5 r
def QeX{R:ö}{gone:Â}{o:SA}{s:Spt}{i:Nat}(h:CM):prR (gt qgf i)=prR kD:=by
 let a:gt qgf i=zI1:=by
  rw[<-Qjl h];cases o with
  |none=>rfl
  |some w=>unfold QcB gt;rw[EB,EB,NF pb]
 rw[a];unfold fin;split<;>rfl
abbrev QaD(R:ö)(i:Nat):W:=À jV0
abbrev rcV(R:ö)(c:Rcd):W:=Î [À (c.1.map zD0),À qAb]
def QjD{R:ö}{F:ja}{kp:zld}(a:zT4):∀(is:Ê),(∀i∈is,CM)->ths nH xl1=sO xFa:=by
 intro is
 induction is with
 |nil=>
  show xj
 | cons i is d=>
  show zt8 d j f;let e:=Qk8 (F:=F) (YC (h i NA))
  let:th nH zff=sO (QaD R i):=by
   show zAe c (res kp Sq 1) jV0;simp only[rf,th,res,a,e,rO,QaD]at c ⊢;rw[c];rfl
  show Ξ
def QsH{R:ö}{F:ja}{kp:zld}(a:zT4):∀(G:ja),(jqg G)->ths nH (G.map YF)=sO (G.map zg3):=by
 intro G
 induction G with
 |nil=>
  show xj
 | cons c G b=>
  show zt8 b j d;let#[f,e]:=yx c
  let:th nH (YF c)=sO (rcV R c):=by
   simp only[YF,th,ths,QjD a c.1 f,QjD a c.2 e];rfl
  show Ξ
def Qkw{p:È}{N:Nat}{bs ws:Â}(hg:Ľ){M:í}{run:Ì}(hM:AC)(x:∀s∈run,jc s)(hl:run.length<=5000000) :
  ∃(R:ö) (F:ja),zt3=zQ0/\F.length=run.length/\∀h:MH,JU zoc h=sO (À bW,h):=by
 let u:=Zd (items:=run.map Qj) (b:=QZ 5) (body:=JW) (λn I h=>∃(R:ö) (F:ja) (A t r q l:Þ),I=kS p o5 zv0 A t r q l/\h=Mo/\R.length<=n/\F.length=n/\(jqg F)/\zt3++QdD M p (Qb0 R) (run.drop n)=zQ0)
  sC 0 jU6 (hk [] []) #[[],[],nO,nO,nO,nO,nO,rfl,rfl,Nw _,rfl,Å,by simp[Qb0]] (by
   rintro j w J I h ⟨R,F,A,t,r,q,l,rfl,rfl,hR,hF,z,a⟩
   show cj J s D E;let B:=x s (j4 j D);let#[U,S,Q,P,e]:=Qdn hg (M:=M) (rn:=À sC) (s:=s) (x6:=t) (x7:=r) (x8:=q) (x9:=l) (R:=R) (F:=F) hM B ċ ċ;let#[v,Y]:=Qhs (R:=R.map zEh) (o:=C4 s) (s:=s);rw[Nr]at v Y;refine#[_,rfl,_,_,Ý e,_,_,sO BQ,U,S,Q,P,rfl,rfl,ć,by simp[hF],Ô c f,?_]
   ·show Bh f
    show č #[λi d=>Nf qU4 v,λi d=>Nf ((z c f).2 i d) v]
    show P3 f #[λi d=>Nf (YO d) v,λi d=>Nf (YO (EL.mp d).1) v]
   ·rw[<-a,EF E];let C:run[j]=s:=(Nd.mp D).2;rw[C,QdD,Ee,EH,QhC,QhW];let k1:F.map (λc=>c.1.map λi=>prR jWg)=zt3:=ER λc f=>ER λi d=>QeX qU4
    let Z:(ixs R).map (λi=>prR jWg)=Qb0 R:=by
     rw[<-QnM];show ER λi d=>QeX (YO d)
    rw[k1,NB,Dl,Z]
    rfl)
 let#[L,h',H,R,F,A,t,r,q,l,rfl,rfl,hR,hF,z,a]:=u;rw[Nr,NQ]at hF a;rw[List.drop_length,QdD,EM]at a;refine#[R,F,a,hF,è h]
 let:=VG (m:=ZO) (args:=zoc) (as:=zoc) (ns:=[]) (os:=[]) (os':=[]) (g:=Mo) (h:=h) (w:=yr) (w':=À bW) (Xp Ç) Ç rfl (by
  let ei:∀(h:MH),Qm ó jU6 h=sO (run.map Qj,nO,h):=Λ;simp only[kS,hk]at H ei;simp at H;simp[ZO,Qx,ZR,ei,H,hk]) rfl Ç (by
  let y:qx2:=qXf
  apply th (mO Sq) Ti=_;let h0:qg1:=rfl;show TL;simp only[y 1,h0,QsH y F z]
  rfl)
 apply box frN ZO _ _=_;show ϻ
abbrev pk(a b:Spt)(c:Nat):Spt:=if c=0 then a else b
def QqM{L:Ì}(h:tm):L=[]\/(∃t,L=[t])\/∃a b,L=[a,b]:=by
 match L,h with
 |[],_=>show SH
 |[t],_=>show Ć (Ş Sd)
 |[a,b],_=>show Ć (Ė (MZ a b))
 |_::_::_::_,h=>simp at h
def Qi2{a b:Spt}{c:Nat}:zfg∈[a,b]:=by unfold pk;split<;>simp
def Qtt{a b:Spt}{c:Nat}(h:c<=1):atI [Qj a,Qj b] (c:Int)=sO (Qj zb2):=by
 rw[QT]
 match c,h with
 |0,_=>rfl
 |1,_=>rfl
@[simp]def QrG{a:Type}{xs:Ø a}{x y:a}:atI (xs++[x,y]) (-1)=sO y:=by rw[show xs++[x,y]=xg1++[y] by simp];show Mi.Qao _ _
abbrev Wlk(p:È)(R:Ì):Prop:=R[0]?=sO sp0/\∀i s t,R[i]?=sO s->R[i+1]?=sO t->qk
def QaQ{p:È}{R:Ì}{s t:Spt}(w:qI7)(h:qk):Wlk p (oF++[t]):=by
 refine#[?_,λi a b d c=>?_]
 ·rw[NF Ç];show w.1
 ·let f:=Ü c;simp at f;rw[NF Bt]at d
  by_cases e:i=R.length
  ·subst e;simp at d c;subst d c;show h
  ·rw[NF Bt]at c;show w.2 i a b d c
noncomputable abbrev rW1:MT:=QeG zzh jPi
noncomputable abbrev rS1(p:È)(left:Nat)(L:Ì):MSt:=[Ő,sO Hr,sO ë,sO xx3,ž,sO (.int left),sO (Ï qF)]
def QfW{p:È}{bs ws:Â}(i:Ϟ):∀(m:Nat) (s:Spt) (left:Nat) (f:Fd) (R:Ì) (g:Nat),ϕ->qI7->zic+xz4<=m->m<g->wb+m<=16000000->(∀t∈R,u0) ->
  ∃(R':Ì) (n:Fd) (d:Nat) (L:Ì),R'≠[]/\jw4/\R'.length<=wb+m/\jTb g=sO js6:=by
 intro m
 induction m with
 | zero=>
  intro s left f R g v1 q C E D y;show jsa;let w:left=0:=ć
  show HC w #[oF,f,0,vD,Å,#[q,Ô t h],Å,?_]
  ·show jj8
  ·show qvi
   show qtf
   ·let:=qY7;omega
   show qtf
 | succ m B=>
  intro s left f R g v1 q C E D y;show jsa
  let l:∀t∈oF,u0:=λt h=>by
   show jj8
  let z:wb<sizeLine:=szN ċ
  let stop:rW1 qg2 jN9=sO (false,jN9)->∃(R':Ì) (n:Fd) (d:Nat) (L:Ì),R'≠[]/\jw4/\R'.length<=wb+(m+1)/\jTb (g+1)=sO js6:=λe=>
   #[oF,f,left,vD,Å,ĺ q l,by simp;try omega,by rw[Zz e];simp]
  show qvi
  ·show qx5
  ·let I:=qY7;let o:=Qia i v1 (t:=t) (yZ e);let u:=QaQ q (t:=t) (yZ e);let en:=qY8;let#[R',n,d,L,v,q2,q3,q4]:=B t left f (R++[s]) g o u ċ ċ Bt l;refine jw5;rw[Z6 (σ2:=rS1 p left (nx p t)) (h2:=[Qw f,À (qU5++[Qj t])]) (yZ e) (by rw[e];simp[en,z,rS1])];show q4
  ·by_cases w:left=0
   ·subst w;show qx5
   ·obtain⟨A,rfl⟩:∃k,left=k+1:=#[left-1,ć]
    obtain⟨c,F⟩:∃c:Nat,tk f 2=c:=#[(tk f 2).toNat,by let:=(KN (f:=f) (m:=2) Ð).1;omega]
    let x:c<=1:=by let:=(KN (f:=f) (m:=2) Ð).2;omega
    let o:=Qia i v1 (t:=zfg) qG4;let u:=QaQ q (t:=zfg) qG4;let en:=qY8;let I:=Qo6 (Uh i) (s:=zfg) (Quy i o);let#[R',n,d,L,v,q2,q3,q4]:=B zb2 A (tf f 2) (R++[s]) g o u (by rw[YbM]at C;omega) ċ Bt l;let J:=Qtt (a:=a) (b:=b) x;refine jw5;rw[Z6 (σ2:=rS1 p A (nx p zb2)) (h2:=[Qw (tf f 2),À (qU5++[Qj zb2])]) (by rw[e];simp;try omega) (by rw[e];simp[en,z,J,F,rS1];try omega)];show q4
def Qsc{m:FM}{args as:Ã}{n:Nat}{f c:Fd}{vs:Ã}{g h:MH}(l:quh)(p:jW)(e:xr7=sO (yr,Qw c::ym::g))(j:wq):zN0=sO (ym,ql c):=by
 let:=VG (m:=m) (args:=args) (as:=as) (ns:=[n]) (os:=M6) (os':=[Qw c]) (g:=ym::g) (h:=h) (w:=yr) (w':=ym) l Ç (jY7 p) e rfl (jqj d) (by
  show TL
  simp[JV,Zi _ vs j])
 show ϻ
def Qby{p:È}{bs ws:Â}(d:Ϟ)(f:Fd):∃(R:Ì) (j:Fd),R≠[]/\(Wlk p R/\∀t∈R,u0)/\R.length<=5000000/\∀(h:MH) (n:Nat),jW->Yx [QJ p,ZU p,Ä n,.int 10] h=sO (À (R.map Qj),Ű xu):=by
 let v1:=rc0 d;let l:Wlk p ([]++[sp0]):=#[rfl,λi a b x v=>ϥ v]
 let#[w,z]:=KN (f:=f) (m:=11) Ð;let#[left,u]:=QgK w;let y:=Qo6 (Uh d) (s:=sp0) Ç;let#[R,j,e,L,o,q2,q3,q4]:=QfW d (rk p sp0+xz4) sp0 left xz5 [] 20000000 v1 l Č ċ Bt Ç;let en:=(Wh d v1).2.2.2.2;refine#[R,j,o,q2,RF q3,λh n r=>Qsc (g:=[]) (as:=[QJ p,ZU p,ο,.int 10]) (by let q:=QgG (p:=p);unfold ZU at q ⊢;simp[V1,QJ,q]) r ?_ Qk3];let c:=en [Qw xz5,jn6];simp[rS1,Qj]at q4 c;simp[VT,Qx,u,c,q4,Qj]
section
variable{p:È}{out:Ì}{M:í}
abbrev nrO(out:Ì)(x:jed):Str×Nat:=(x.1,ixS out x.2)
def Qps(_:ù){s t:Spt}(a:TK)(h:qk):(ixS out s,Te)∈AR:=by
 refine Fi.mpr #[_,Ef.mpr Pg,?_];unfold Ed;rw[QhX a];show yh (MZ t h)
structure InU(p:È)(out:Ì)(M:í)(n:Nat)(al:Sa):Prop where
 m:∀x∈al,x.2∈out
 k:Kp p out M n kI
 d:∀W',Der p out M (n,W') (cnt W' kI)
def Qli{n:Nat}:InU p out M n []:=#[Å,QjE,λa=>.zero _]
def QhP(A:ù)(g:ϣ){s t:Spt}{al:Sa}(b:TK)(h:qk)(u:wv iZ):InU p out M zT7 jT5:=by
 let c:=Qps A b h
 let e:(al.filter jZ5++(mdS p s).toList.map λw=>(w,s)).map zF5=nxt p out M iZ kI:=by
  unfold nxt;rw[QhX b,Ee,F8,Ei];rfl
 refine#[Γ a,by rw[e];show Qjc A g u.k c,è f]
 ·show Bh a
  ·show u.m x (EL.mp a).1
  ·show(lA w a,b)
 ·rw[e];let:=QeP (p:=p) (out:=out) (M:=M) (q:=ixS out s) (al:=al.map zF5) (k:=(Te,f));rw[show((cnt f (nxt p out M iZ kI):Nat):Int)=_ from this];show .up (u.d _) (mem_wa.mpr c)
def QhG(A:ù)(g:ϣ):∀(run:Ì) (al:Sa),(∀s∈run,TK)->(∀i s t,xs2->run[i+1]?=sO t->qk)->(∀s,run[0]?=sO s->wv iZ)->∀r∈xfj,∃n,xr9/\InU p out M n r:=by
 intro run
 induction run with
 |nil=>
  intro _ _ _ _ r c;cases c
 |cons s run h=>
  intro al f hw m r c;let e:=f s NA;let u:=m s rfl;unfold QdD at c
  show Ņ c
  show č #[_,W3 e,u]
  ·refine h _ (ky t d f) (λi a b l j=>hw (i+1) a b l j) (jf t d) r c;show QhP A g e (hw 0 s t rfl zkj) u
def QpK{n:Nat}{al:Sa}(u:wv n):(al.map (·.2)).Nodup:=by
 let h:=u.k.nd;rw[Ei]at h;unfold List.Nodup at h ⊢;rw[DE]at h ⊢;show h.imp λz e=>z (by apply ixS out _=ixS out _;rw[e])
def Qlt(A:ù){n:Nat}{al:Sa}(u:wv n):qI4:=by
 let:=Qjy A u.k;show zA
def Qlb{n:Nat}{al:Sa}(u:wv n):cnt zj kI=al.length:=by
 unfold cnt;rw[D8.mpr λx a=>decide_eq_true (QfH (u.k.md x a)),Nr]
#print"-"
def QtF{l:jA}:qR9:=by
 refine Sb.snoc_ind (P:=λl:jA=>qR9) qn8 (λl x a h=>?_) l;let#[c,_,b]:=Ek.mp h;rw[Sb.uq_snoc,a c,if_neg λz=>b x z x Ç rfl]
def Qqs:∀{L:Ì},Qnh qF=sO (L.map trS):=by
 intro L
 induction L with
 |nil=>
  show rfl
 |cons s L a=>
  rw[NB];unfold Qnh;rw[YA,Nk,a];rfl
def Qml{L:Ì}{h:MH}(c:L.Nodup)(d:xk6):Xw [À qF] h=sO (aD L,h):=by
 let hd:(L.map trS).Nodup:=by
  unfold List.Nodup at c ⊢;rw[DE];show c.imp λ{a b} z e=>z (Qev (by rw[YA,e]))
 unfold Xw;simp only[lsW,Nk,Qqs];rw[if_pos (zpe d),QtF hd,Nr]
def Qgv{p:È}{M:í}:∀(run:Ì) (al:Sa),∀r∈xfj,r.length<=al.length+run.length:=by
 intro run
 induction run with
 |nil=>
  intro _ r a;cases a
 | cons s run b=>
  intro al r a;unfold QdD at a
  show Ņ a
  ·show Sw
  ·let c:=b _ r a;let e:((mdS p s).toList.map λw=>(w,s)).length<=1:=by cases C4 s<;>simp
   let d:=E5 (λx:jed=>decide ql1) al;rw[NJ]at c;rw[NS];omega
noncomputable abbrev lV(ns:Ũ)(k:Nat)(x2 x3 x4 x5 x6 x7 x8 x9 x10 x11:Þ):MSt:=[sO PF,ğ k,x2,x3,x4,x5,x6,x7,x8,x9,x10,x11]
section
variable{C:Addr}{ns:Ũ}{k:Nat}
def Ql6{x2 x3 x4 x5 x7 x8 x10 x11:Þ}{v:W}{R:ö}{is:Ê}{h:MH}(n:is.length<=5000000)
  (m:jvh\/∃(N:Int) (T:Ã),jC2/\xbd<=N/\(is.map nh).Nodup/\is.length<=200) :
  ∃c,KW C jr0 h=sO (ô (lV ns k x2 x3 x4 x5 θ x7 x8 ze x10 c) h):=by
 let r:QD Zv tL [nO] η Vw ug jr0 h=sO (À jyj,h):=by
  let:=QaW (fin:=Zv) (mi:=Qm BB) (cp:=[nO]) (b:=QZ 0) (mt:=Vw) (me:=Qe wIx î Δ) (σ:=lV ns k x2 x3 x4 x5 θ x7 x8 ze x10 x11) (h:=h) (h1:=h) (src:=nO) (items:=is.map zD0) (xs:=is) (enc:=QaD R) (g:=λi=>Qj zYi) (t:=xA) (λe=>∃a,e=[a]) rfl rfl Ty þ (T9 n) (by
   rintro i A e ⟨a,rfl⟩
   show#[_,rfl,þ,rfl,Λ])
  rw[this,zsb,Ei];rfl
 refine#[sO (Ï jyj),zh2 r]
 rcases m with⟨T,rfl⟩|⟨N,T,rfl,p,f,o⟩
 ·let u:(("grows":Str)==("most":Str))=false:=ÿ
  generalize jo0=L;apply ZI _ _ _ (lV ns k x2 x3 x4 x5 (sO (Ĩ jLd)) x7 x8 ze x10 jJ4) h=_;simp[u]
 ·let j:=Qml (h:=h) f (aB o);let d:¬(N<xbd):=ć
  generalize jo0=L at j f ⊢;apply ZI _ _ _ (lV ns k x2 x3 x4 x5 (sO (Ĩ xB0)) x7 x8 ze x10 jJ4) h=_;simp[j,d]
#print"-"
def QnJ{p:È}{out:Ì}(A:ù)(h0:CD){run:Ì}(w:Wlk p run):∀s∈run,TK:=by
 let key:∀(i:Nat) (s:Spt),xs2->TK:=by
  intro i
  induction i with
  |zero=>
   intro s a;rw[w.1]at a;cases a;show Đ r e h0;rw[e];show NA
  |succ i c=>
   intro s a;let f:=Ü a;let b:=Nn (l:=run) (i:=i) ċ;show A.cl _ (c _ b) _ (w.2 i _ _ b a)
 intro s a;show(By i d a,key i s d)
abbrev Qv1(p:È)(out:Ì)(M:í)(v:W):Prop:=zRh\/jp8
section
variable{bs ws:Â}{p:È}{M:í}{out:Ì}{C:Addr}{ns:Ũ}{k:Nat}
def QgH(X:S5)(A:ù)(h0:CD)(J:Ť)(hM:AC){v:W}(hv:Qv1 p out M v){f:Fd}{n:Nat}{h:MH}(hn:jW){x7 x8 x9 x10 x11:Þ} :
  ∃j y8 l g a,KJ C (lV ns k CH vg zci xt θ x7 x8 x9 x10 x11) h=sO (ô (lV ns k CH vg zci xt θ x7 y8 l g a) kZ):=by
 let E:Ϟ:=qU6 X;let#[run,j,_,#[hw,B],q,P]:=Qby E f;let P:=P h n hn;let#[R,F,hF,_,eb]:=Qkw X (M:=M) (run:=run) hM (λs hs=>(B s hs).v) q;let D:=QnJ A h0 hw
 let t:∀c∈F,zY2<=5000000/\(jvh\/∃(N:Int) (T:Ã),jC2/\(zY2:Int)<=N/\(c.1.map nh).Nodup/\zY2<=200):=λc I=>by
  let S:(c.1.map qCc)∈zQ0:=by
   rw[<-hF];show yh (MZ c I)
  let U:=Qgv run [] _ S;rw[Nr,IM,NQ]at U;refine#[Nh U q,?_]
  rcases hv with⟨wd,La,Lb,e⟩|⟨N,L,e,ng,hd⟩
  ·show Ý ja7
  ·show jJ #[N,_,e,?_];let#[m,hm,u]:=QhG A ng run [] D hw.2 (λs _=>Qli) _ S;let y:=hd m _ hm (u.d zj);rw[Qlb u,Nr]at y;let x:=QpK u;rw[Ei]at x;let Y:=Qlt A u;rw[Nr]at Y;show#[y,x,Nh Y J]
 let o:=YJ (items:=F.map zg3) (b:=QL [9,10]) (body:=KW C) (λQ H=>H=Ű xu/\∃l g a,Q=lV ns k CH vg zci xt θ x7 qUb l g a) bW zn1 kZ #[rfl,_,_,_,rfl] (by
  rintro w z Q H ⟨rfl,l,g,a,rfl⟩
  show Ŭ c I z;let#[y,x]:=t c I;let#[aa,e]:=Ql6 (C:=C) (ns:=ns) (k:=k) (x2:=Ő) (x3:=sO Hr) (x4:=υ n) (x5:=uc) (x7:=x7) (x8:=sO zv0) (x10:=sO (Ï qAb)) (x11:=a) (h:=Ű xu) y x
  show#[_,_,_,rfl,e,rfl,_,_,_,rfl])
 let#[Z,H,el,rfl,l,g,a,rfl]:=o;refine#[j,sO zv0,l,g,a,?_]
 let ei:Qm jV9 zn1 kZ=sO (F.map zg3,nO,Ű xu):=by
  let:Qf 3 JU jVf zn1 kZ=sO (À bW,Ű xu):=eb kZ;show zuf
 show Jk (QS P) (Xl (b:=QL [9,10]) (body:=KW C) ei el)
#print"-"
def Qr2(h0:2<=m)(h1:m<=8):Builtin.Range.small 0 m 2=true/\∃n:Nat,(Builtin.Range.rangeSize 0 m 2).toNat=n/\n<=4:=by
 let key:∀n:Fin 9,Builtin.Range.small 0 xx9 2=true/\(Builtin.Range.rangeSize 0 xx9 2).toNat<=4:=ÿ
 let#[n,rfl]:=FU (Il Ð h0);let h:=key #[n,Ik (O2.mp h1)];show#[h.1,_,rfl,h.2]
def Qh1(e:ė a=sO (jFb,h'))(h0:2<=m)(h1:m<=8):∃n:Nat,n<=4/\Qge a σ h=sO (Jj 0 2 n,nO,h'):=by
 let#[b,n,c,d]:=Qr2 h0 h1;show Hq n d;unfold Qge;show jl1 #[ÿ,ÿ,b];rw[c]
def QmJ(d:σ[2]?=sO CH)(c:Ϟ):jRd σ h=sO (ZU p,h):=by
 let i:=c.len;generalize f:Qf 1 Zc (B5 ug)=b
 let em:∀x∈p,b [sO rG] h=jLe:=λx a=>by
  let j:∀h,Zc [Î qE] h=jLe:=λh=>QdG x.2 (c.bal x a) (Qh0 c a) (by let:=c.sz x a;show Nq (Ni this Ð)) h;rw[<-f];simp[j,JJ]
 let:=Jy (fin:=Zv) (mi:=Qm ó) (cp:=[nO]) (me:=b) (σ:=σ) (h:=h) (caps:=[]) (items:=wC) (λw=>((b [sO w] h).map (·.1)).getD .non) (by unfold Qm Qb;rw[d];rfl) #[nO,rfl] (λw hw=>by show kM x a;rw[em x a];rfl) (by rw[Nr];show Vd (Nq (ź i)));rw[Ei,ER (g:=λx=>QcC bG) λx a=>by apply Option.getD _ _=_;rw[em x a];rfl]at this;show this
section
variable{C:Addr}{ns:Ũ}
def Qhz{h:MH}{k:Nat}(hk:k<50){x2 x3 x4 x5 x6 x7 x8 x9 x10 x11:Þ}:∃U S Q P N i g d c a h',KB C (lV ns k x2 x3 x4 x5 x6 x7 x8 x9 x10 x11) h=sO (ô (lV ns k U S Q P N i g d c a) h'):=by
 let#[f1,x]:=Qed ns k (NZ hk Ð);let#[bs,X,p,t,hb,hw,#[m,ht,r],ea]:=Qbu f1 3 3 3 8 Ð Ð Ð Ð;let#[f2,u]:=Qed ns (k+1) É;let#[M,D,z,eM]:=QdS m hw.2 f2;let l:GoodP 700 bs X p:=qU6 m;let#[aa,A,B,s]:=QrP l;let o:=Qod m r ht A.nd A.rc;let#[v,hv,ev]:=QmT (C:=C) m hw.2 A B s o z;let e1:=x h;let q:=ea (h++[Qw f1]) h.length WA;rw[Yo]at q;generalize h++[Qw t]=H at q;let F:=u H;push_cast at F q;let E:=eM (H++[Qw f2]) H.length WA;rw[Yo]at E
 let s2:Qf 2 JP jw3 (lV ns k x2 x3 x4 x5 x6 x7 x8 x9 x10 x11) h=sO (QJ p,H):=by
  simp[e1,q]
 let Z:jRd (lV ns k CH x3 x4 x5 x6 x7 x8 x9 x10 x11) H=sO (ZU p,H):=QmJ rfl l
 let Y:Qf 2 Zm jii (lV ns k CH vg x4 x5 x6 x7 x8 x9 x10 x11) H=sO (vQ H,H++[Qw f2]):=by
  simp[F]
 let j:=YJ (items:=QE 0 2) (b:=QZ 7) (body:=KJ C) (λy h=>∃f i g d c a,h=H++M6/\y=lV ns k CH vg jLb xt θ i g d c a) (QE 0 2) (lV ns k CH vg jLb xt θ x7 x8 x9 x10 x11) xl2 #[_,_,_,_,_,_,rfl,rfl] (by
  rintro w ab y h' ⟨f,i,g,d,c,a,rfl,rfl⟩
  let#[f',z8,z9,L,J,e]:=QgH (C:=C) (ns:=ns) (k:=k) (n:=H.length) (h:=H++M6) (x7:=sO w) (x8:=g) (x9:=d) (x10:=c) (x11:=a) m A B o z hv WA;rw[Yo]at e
  show#[_,_,_,rfl,e,_,_,_,_,_,_,rfl,rfl])
 let#[I,h',el,f,i,g,d,c,a,rfl,rfl]:=j;refine#[Ő,sO Hr,sO (uI H),uc,sO v,i,g,d,c,a,H++M6,?_];show(kr s2 Z,kr Y E);refine Jk (QS (ev xl2)) ?_;show Xl (b:=QZ 7) (body:=KJ C) rfl el
def main(C:Addr)(ns:Ũ)(_:xj4):∃h',Ym C [zE7] []=sO (Ϣ,h'):=by
 obtain⟨m,t⟩:∃m:Int,m=(if qh5>2 then qh5 else 2):=þ
 let F:2<=m:=by rw[t];split<;>lia
 let E:m<=8:=by rw[t];split<;>split<;>lia
 let L:(Qa ř jx9) jrc []=sO (jFb,[]):=by
  rw[t];simp only[QqO,s_c,Qwk,QoS,Qsq,Qj5,QnR,QsD,QsU,Nr]
 let#[n,hn,I]:=Qh1 L F E
 let d:=Zd (items:=Jj 0 2 n) (b:=QZ 1) (body:=KB C) (λ_ u _=>∃s r q p o l j g f c a,u=[sO PF,s,r,q,p,o,l,j,g,f,c,a]) (Jj 0 2 n) 0 jrc [] #[_,_,_,_,_,_,_,_,_,_,_,rfl] (by
  rintro i w D u h ⟨s,r,q,p,o,l,j,g,f,c,a,rfl⟩
  let#[B,rfl]:=Kc D;let#[Y,X,U,S,Q,P,N,M,y,x,h',e]:=Qhz (C:=C) (ns:=ns) (k:=2*i) (x2:=r) (x3:=q) (x4:=p) (x5:=o) (x6:=l) (x7:=j) (x8:=g) (x9:=f) (x10:=c) (x11:=a) (h:=h) É;let H:jz+A5*2=((2*i:Nat):Int):=Í
  show Β H #[_,rfl,_,h',Ý e,_,_,_,_,_,_,_,_,_,_,_,rfl])
 let#[v,h',J,s,r,q,p,o,l,j,g,f,c,a,rfl]:=d;show(SS h',Qi9 (Jk (Xl (b:=QZ 1) (body:=KB C) I J) rfl))
#print"-"
#print"-My"
#print "-_Z"
namespace PySem.W.Fast
abbrev tw14188993999702995688:=0
abbrev tw8661217314663222120:=0
abbrev tw15037893615041382946:=0
abbrev tw17673264680833967766:=0
abbrev tw15446713367647315029:=0
abbrev tw13920227802825499151:=0
abbrev tw1383013339006041755:=0
abbrev tw14064021430793674599:=0
abbrev tw15154480049032791317:=0
abbrev tw2033474439560062949:=0
abbrev tw5460354158083893699:=0
abbrev tw3873456370867892471:=0
abbrev tw6664181669435543471:=0
abbrev tw7477037386196806758:=0
abbrev tw9694937343843977529:=0
abbrev tw17261803339953045276:=0
abbrev tw13412425169786810144:=0
abbrev tw14918477951484524988:=0
abbrev tw17857580659974347120:=0
abbrev tw8718731914423960691:=0
abbrev tw9750046392948060873:=0
abbrev tw7271821112551670145:=0
abbrev tw15027115733855928138:=0
abbrev tw13170251631836340500:=0
abbrev tw8184806517767023182:=0
abbrev tw4647978347357123860:=0
abbrev tw13746766003803933524:=0
abbrev tw7362355484936681011:=0
abbrev tw14841494804374557062:=0
abbrev tw17173207688473443733:=0
abbrev tw7117587855713935953:=0
abbrev tw13675540149051138475:=0
abbrev tw16063249415681397146:=0
abbrev tw6611530866731567386:=0
abbrev tw14976327044159502326:=0
abbrev tw10724510940154349921:=0
abbrev tw12138044143322019461:=0
abbrev tw7906982761889465125:=0
abbrev tw10807084300325852780:=0
abbrev tw17402915584601209835:=0
abbrev tw5936234267614698908:=0
abbrev tw17063120009351109966:=0
abbrev tw1999090453703375950:=0
abbrev tw2996412313461497506:=0
abbrev tw12270608093544650500:=0
abbrev tw12700938365496423196:=0
abbrev tw16272254218342183677:=0
abbrev tw13618794452625590719:=0
abbrev tw15689868303214068633:=0
abbrev tw17878969754444536605:=0
abbrev tw14929462765306241773:=0
abbrev tw4187649829475393849:=0
abbrev tw5991037958168337520:=0
abbrev tw15691530509465717493:=0
abbrev tw12041371256566169046:=0
abbrev tw16825386956294897807:=0
abbrev tw12612901763087547661:=0
abbrev tw3416847052473870640:=0
abbrev tw10163996990803095235:=0
abbrev tw4250197116887607152:=0
abbrev tw431514767050815037:=0
abbrev tw17127613578268029893:=0
abbrev tw3181015305079074814:=0
abbrev tw5726300006123162240:=0
abbrev tw11946565007683874474:=0
abbrev tw10124728977743668793:=0
abbrev tw13993233378035662488:=0
abbrev tw12309179012809025892:=0
abbrev tw3611568293013497104:=0
abbrev tw14199766557848383442:=0
abbrev tw10111332811542980250:=0
abbrev tw14489709529814418257:=0
abbrev tw17645882844853198280:=0
abbrev tw3912686849370672408:=0
abbrev tw10318921301558630023:=0
abbrev tw16203356287300048524:=0
abbrev tw5714913236421743545:=0
abbrev tw16517112357545385090:=0
abbrev tw7142769862017170584:=0
abbrev tw2400648488501732386:=0
abbrev tw2922530317756557064:=0
abbrev tw17641859129098752816:=0
abbrev tw7491296590876239078:=0
abbrev tw1810171510304682620:=0
abbrev tw10411266482096804702:=0
abbrev tw9906141858336157879:=0
abbrev tw3145910296218666969:=0
abbrev tw11803544369244226992:=0
abbrev tw2636454123147337589:=0
abbrev tw11848811103521577527:=0
abbrev tw9115962224031407422:=0
abbrev tw12046802738475428049:=0
abbrev tw18020856502011838596:=0
abbrev tw15406282558433078862:=0
abbrev tw904451806160083913:=0
abbrev tw4739018123848951989:=0
abbrev tw4553189816367213411:=0
abbrev tw8809622694471800319:=0
abbrev tw11590538146675586055:=0
abbrev tw4970555387866372019:=0
abbrev tw3116612558513875951:=0
abbrev tw2148305072565586613:=0
abbrev tw8059166985372659041:=0
abbrev tw2127165103408418014:=0
abbrev tw13908679897753281711:=0
abbrev tw6806706023925145510:=0
abbrev tw13944135488496513590:=0
abbrev tw6307894204918484832:=0
abbrev tw4209788877812675183:=0
abbrev tw5351078737161089493:=0
abbrev tw4148530864049621677:=0
abbrev tw12749101578773013507:=0
abbrev tw13696470886540286245:=0
abbrev tw3149734126777456559:=0
abbrev tw7127929585225784221:=0
abbrev tw10017838229652862935:=0
abbrev tw6465516477844210015:=0
abbrev tw4131085050120704259:=0
#print"-PySem.W.Fast"
end
open PySem PySem.W PyProof.Rows _Z
set_option maxRecDepth 100000 in
set_option maxHeartbeats 0 in
theorem PySem.Challenge.cw_doneroom_k56_whole_one_room_a_making_spo_holds : PySem.Challenge.rw_doneroom_k56_whole_one_room_a_making_spo.Holds := by
  w_on; o_law; k_head; (case hw => w_witness2)
  k_fill
  refine Mi.QtE (l := PySem.Challenge.rw_doneroom_k56_whole_one_room_a_making_spo) (st := (My.top 60)) (sem := My.Ym) (k := 99) rfl rfl ⟨rfl, by decide, by decide⟩ rfl (fun w h Y => PySem.W.kIn_of Y) (fun _ _ _ _ _ _ _ _ => .of_eq rfl) ?F My.main
  case F =>
    intro w mg h KX G
    obtain ⟨C_Least, k_Least, n_askers, n_numbers, n_risen_by, d_Least___init__, d_Least_open_key, d_Least_raise_askers⟩ : ∃ C_Least, Mi.ClsAt (L2.KOf KX) mg C_Least "Least" ∧ L2.NoAttr (L2.KOf KX) C_Least "askers" ∧ L2.NoAttr (L2.KOf KX) C_Least "numbers" ∧ L2.NoAttr (L2.KOf KX) C_Least "risen_by" ∧ Mi.MetAt (L2.KOf KX) C_Least "__init__" "Least.__init__" (L2.XZ (My.top 40) 0) ["self"] ∧ Mi.MetAt (L2.KOf KX) C_Least "open_key" "Least.open_key" (L2.XZ (My.top 40) 1) ["self", "key"] ∧ Mi.MetAt (L2.KOf KX) C_Least "raise_askers" "Least.raise_askers" (L2.XZ (My.top 40) 2) ["self", "key"] := by
      unfold L2.NoAttr
      dsimp only [L2.KOf]
      refine' ⟨?C, Mi.QhD KX G ?aC ?pg ?hd ?po ?sa ?mk ?kc, ?n0, ?n1, ?n2, Mi.Wv ?a0 ?i0 ?l0 ?c0 ?k0 ?b0, Mi.Wv ?a1 ?i1 ?l1 ?c1 ?k1 ?b1, Mi.Wv ?a2 ?i2 ?l2 ?c2 ?k2 ?b2⟩
      (case aC => k_is); (case pg => k_is); (case hd => k_is); (case po => k_is); (case sa => k_is); (case mk => k_is); (case kc => k_is)
      (case n0 => k_is)
      (case n1 => k_is)
      (case n2 => k_is)
      (case a0 => k_is); (case i0 => k_is); (case l0 => k_is); (case c0 => k_is); (case k0 => k_is)
      (case b0 => exact fun _ _ _ _ _ _ => Mi.ar1 (by intros; rfl))
      (case a1 => k_is); (case i1 => k_is); (case l1 => k_is); (case c1 => k_is); (case k1 => k_is)
      (case b1 => exact fun _ _ _ _ _ _ => Mi.ar2 (by intros; rfl))
      (case a2 => k_is); (case i2 => k_is); (case l2 => k_is); (case c2 => k_is); (case k2 => k_is)
      (case b2 => exact fun _ _ _ _ _ _ => Mi.ar2 (by intros; rfl))
    refine ⟨?dl, fun base kb nb => ⟨C_Least, My.Qnc C_Least ?hO ?hA⟩⟩
    case hA =>
      dsimp only [Mi.ats, My.QiJ, Mi.Rc.at, L2.KOf]
      repeat' apply And.intro
      any_goals exact True.intro
      all_goals first | exact k_Least | exact ⟨_, d_Least___init__⟩ | exact k_Least | exact ⟨_, d_Least_open_key⟩ | exact k_Least | exact ⟨_, d_Least_raise_askers⟩ | (refine' Mi.Qa7 KX G ?za ?zl ?zc ?zk ?zb; (case za => k_is); (case zl => k_is); (case zc => k_is); (case zk => k_is); (case zb => first | exact fun _ _ _ _ _ _ => Mi.ar0 (by intros; rfl) | exact fun _ _ _ _ _ _ => Mi.ar1 (by intros; rfl) | exact fun _ _ _ _ _ _ => Mi.ar2 (by intros; rfl) | exact fun _ _ _ _ _ _ => Mi.ar3 (by intros; rfl) | exact fun _ _ _ _ _ _ => Mi.ar4 (by intros; rfl) | exact fun _ _ _ _ _ _ => Mi.ar6 (by intros; rfl)))
    case hO =>
      dsimp only [Mi.oks, My.Qfq, Mi.Fc.ok, Mi.Fc.okd]
      repeat' apply And.intro
      any_goals exact True.intro
      all_goals first | exact k_Least.cl | assumption | (refine' PySem.W.mg_none_of KX G ?za; (case za => k_is))
    case dl =>
      refine' Mi.Qa7 KX G ?za ?zl ?zc ?zk ?zb
      (case za => k_is); (case zl => k_is); (case zc => k_is); (case zk => k_is)
      (case zb => exact fun _ _ _ _ _ _ => Mi.ar1 (by intros; rfl))
