import PyProof.Rows.All
import Wide.All
import OpenK.AllK
import Wide.FinOn
import Lean
import PyProof.EqAt
import PyProof.EqKinds
import PyProof.TupleCall
import KE.KDictList
import KE.KRevIter
import KE.KTurns
import PyProof.Rows.SetFrom
import PyProof.Rows.SortStr
import PyProof.FactsAll.set
import PyProof.Draws
import PyProof.EnumMake
import PyProof.AttrMissSeq
import KE.KDictOf
import PyProof.Walks
import KE.KSortTup
import KE.KItemsList
import KE.KDictSum
import PyProof.Rows.SortRev
import KE.KDictLaws
import PyProof.DictTruth
import PyProof.MinMaxWalk
import PyProof.WalkInts
import PyProof.ExcAttrAll.ValueError
import KE.KIsAll
import PyProof.DictRoadsH
import PyProof.SeqI3
import PySem.Challenge.RW_doneroom_k83_whole_a_line_put_in
set_option compiler.extract_closed false
set_option compiler.reuse false
set_option genSizeOf false
section
variable{G:Prop}
theorem xa{p q:Prop}(h:p∧q)(k:p→q→G):G:=k h.1 h.2
theorem xaa{p q r:Prop}(h:p∧q∧r)(k:p→q→r→G):G:=k h.1 h.2.1 h.2.2
theorem xaaa{p q r s:Prop}(h:p∧q∧r∧s)(k:p→q→r→s→G):G:=k h.1 h.2.1 h.2.2.1 h.2.2.2
theorem xaaaa{p q r s t:Prop}(h:p∧q∧r∧s∧t)(k:p→q→r→s→t→G):G:=k h.1 h.2.1 h.2.2.1 h.2.2.2.1 h.2.2.2.2
theorem xaaaaa{p q r s t m:Prop}(h:p∧q∧r∧s∧t∧m)(k:p→q→r→s→t→m→G):G:=k h.1 h.2.1 h.2.2.1 h.2.2.2.1 h.2.2.2.2.1 h.2.2.2.2.2
theorem xaaea{p q:Prop}{r s:A→Prop}(h:p∧q∧∃x,r x∧s x)(k:p→q→∀x,r x→s x→G):G:=h.2.2.elim fun x h0=>k h.1 h.2.1 x h0.1 h0.2
theorem xaea{p:Prop}{q r:A→Prop}(h:p∧∃x,q x∧r x)(k:p→∀x,q x→r x→G):G:=h.2.elim fun x h0=>k h.1 x h0.1 h0.2
theorem xaeeaa{p:Prop}{q r s:A→B→Prop}(h:p∧∃x y,q x y∧r x y∧s x y)(k:p→∀x y,q x y→r x y→s x y→G):G:=h.2.elim fun x h0=>h0.elim fun y h1=>k h.1 x y h1.1 h1.2.1 h1.2.2
theorem xe{p:A→Prop}(h:∃x,p x)(k:∀x,p x→G):G:=h.elim fun x h=>k x h
theorem xea{p q:A→Prop}(h:∃x,p x∧q x)(k:∀x,p x→q x→G):G:=h.elim fun x h=>k x h.1 h.2
theorem xeaa{p q r:A→Prop}(h:∃x,p x∧q x∧r x)(k:∀x,p x→q x→r x→G):G:=h.elim fun x h=>k x h.1 h.2.1 h.2.2
theorem xeaaaa{p q r s t:A→Prop}(h:∃x,p x∧q x∧r x∧s x∧t x)(k:∀x,p x→q x→r x→s x→t x→G):G:=h.elim fun x h=>k x h.1 h.2.1 h.2.2.1 h.2.2.2.1 h.2.2.2.2
theorem xeaae{p q:A→Prop}{r:A→B→Prop}(h:∃x,p x∧q x∧∃y,r x y)(k:∀x,p x→q x→∀y,r x y→G):G:=h.elim fun x h=>h.2.2.elim fun y h1=>k x h.1 h.2.1 y h1
theorem xee{p:A→B→Prop}(h:∃x y,p x y)(k:∀x y,p x y→G):G:=h.elim fun x h=>h.elim fun y h=>k x y h
theorem xeea{p q:A→B→Prop}(h:∃x y,p x y∧q x y)(k:∀x y,p x y→q x y→G):G:=h.elim fun x h=>h.elim fun y h=>k x y h.1 h.2
theorem xeeaa{p q r:A→B→Prop}(h:∃x y,p x y∧q x y∧r x y)(k:∀x y,p x y→q x y→r x y→G):G:=h.elim fun x h=>h.elim fun y h=>k x y h.1 h.2.1 h.2.2
theorem xeeaaa{p q r s:A→B→Prop}(h:∃x y,p x y∧q x y∧r x y∧s x y)(k:∀x y,p x y→q x y→r x y→s x y→G):G:=h.elim fun x h=>h.elim fun y h=>k x y h.1 h.2.1 h.2.2.1 h.2.2.2
theorem xeeaaaa{p q r s t:A→B→Prop}(h:∃x y,p x y∧q x y∧r x y∧s x y∧t x y)(k:∀x y,p x y→q x y→r x y→s x y→t x y→G):G:=h.elim fun x h=>h.elim fun y h=>k x y h.1 h.2.1 h.2.2.1 h.2.2.2.1 h.2.2.2.2
theorem xeeaaaaa{p q r s t m:A→B→Prop}(h:∃x y,p x y∧q x y∧r x y∧s x y∧t x y∧m x y)(k:∀x y,p x y→q x y→r x y→s x y→t x y→m x y→G):G:=h.elim fun x h=>h.elim fun y h=>k x y h.1 h.2.1 h.2.2.1 h.2.2.2.1 h.2.2.2.2.1 h.2.2.2.2.2
theorem xeeea{p q:A→B→C→Prop}(h:∃x y z,p x y z∧q x y z)(k:∀x y z,p x y z→q x y z→G):G:=h.elim fun x h=>h.elim fun y h=>h.elim fun z h=>k x y z h.1 h.2
theorem xeeeaa{p q r:A→B→C→Prop}(h:∃x y z,p x y z∧q x y z∧r x y z)(k:∀x y z,p x y z→q x y z→r x y z→G):G:=h.elim fun x h=>h.elim fun y h=>h.elim fun z h=>k x y z h.1 h.2.1 h.2.2
theorem xeeeaaa{p q r s:A→B→C→Prop}(h:∃x y z,p x y z∧q x y z∧r x y z∧s x y z)(k:∀x y z,p x y z→q x y z→r x y z→s x y z→G):G:=h.elim fun x h=>h.elim fun y h=>h.elim fun z h=>k x y z h.1 h.2.1 h.2.2.1 h.2.2.2
theorem xeeeaaaa{p q r s t:A→B→C→Prop}(h:∃x y z,p x y z∧q x y z∧r x y z∧s x y z∧t x y z)(k:∀x y z,p x y z→q x y z→r x y z→s x y z→t x y z→G):G:=h.elim fun x h=>h.elim fun y h=>h.elim fun z h=>k x y z h.1 h.2.1 h.2.2.1 h.2.2.2.1 h.2.2.2.2
theorem xeeeea{p q:A→B→C→D→Prop}(h:∃x y z u,p x y z u∧q x y z u)(k:∀x y z u,p x y z u→q x y z u→G):G:=h.elim fun x h=>h.elim fun y h=>h.elim fun z h=>h.elim fun u h=>k x y z u h.1 h.2
theorem xeeeeaaa{p q r s:A→B→C→D→Prop}(h:∃x y z u,p x y z u∧q x y z u∧r x y z u∧s x y z u)(k:∀x y z u,p x y z u→q x y z u→r x y z u→s x y z u→G):G:=h.elim fun x h=>h.elim fun y h=>h.elim fun z h=>h.elim fun u h=>k x y z u h.1 h.2.1 h.2.2.1 h.2.2.2
theorem xeeeeeaaa{p q r s:A→B→C→D→E→Prop}(h:∃x y z u v,p x y z u v∧q x y z u v∧r x y z u v∧s x y z u v)(k:∀x y z u v,p x y z u v→q x y z u v→r x y z u v→s x y z u v→G):G:=h.elim fun x h=>h.elim fun y h=>h.elim fun z h=>h.elim fun u h=>h.elim fun v h=>k x y z u v h.1 h.2.1 h.2.2.1 h.2.2.2
theorem xeeeeeeaaaa{p q r s t:A→B→C→D→E→F→Prop}(h:∃x y z u v w,p x y z u v w∧q x y z u v w∧r x y z u v w∧s x y z u v w∧t x y z u v w)(k:∀x y z u v w,p x y z u v w→q x y z u v w→r x y z u v w→s x y z u v w→t x y z u v w→G):G:=h.elim fun x h=>h.elim fun y h=>h.elim fun z h=>h.elim fun u h=>h.elim fun v h=>h.elim fun w h=>k x y z u v w h.1 h.2.1 h.2.2.1 h.2.2.2.1 h.2.2.2.2
end
theorem y11{p q:A→Prop}(x:A)(h0:p x)(h1:q x):∃x,p x∧q x:=⟨x,h0,h1⟩
theorem y12{p q r:A→Prop}(x:A)(h0:p x)(h1:q x)(h2:r x):∃x,p x∧q x∧r x:=⟨x,h0,h1,h2⟩
theorem y13{p q r s:A→Prop}(x:A)(h0:p x)(h1:q x)(h2:r x)(h3:s x):∃x,p x∧q x∧r x∧s x:=⟨x,h0,h1,h2,h3⟩
theorem y14{p q r s t:A→Prop}(x:A)(h0:p x)(h1:q x)(h2:r x)(h3:s x)(h4:t x):∃x,p x∧q x∧r x∧s x∧t x:=⟨x,h0,h1,h2,h3,h4⟩
theorem y15{p q r s t m:A→Prop}(x:A)(h0:p x)(h1:q x)(h2:r x)(h3:s x)(h4:t x)(h5:m x):∃x,p x∧q x∧r x∧s x∧t x∧m x:=⟨x,h0,h1,h2,h3,h4,h5⟩
theorem y16{p q r s t m n:A→Prop}(x:A)(h0:p x)(h1:q x)(h2:r x)(h3:s x)(h4:t x)(h5:m x)(h6:n x):∃x,p x∧q x∧r x∧s x∧t x∧m x∧n x:=⟨x,h0,h1,h2,h3,h4,h5,h6⟩
theorem y17{p q r s t m n o:A→Prop}(x:A)(h0:p x)(h1:q x)(h2:r x)(h3:s x)(h4:t x)(h5:m x)(h6:n x)(h7:o x):∃x,p x∧q x∧r x∧s x∧t x∧m x∧n x∧o x:=⟨x,h0,h1,h2,h3,h4,h5,h6,h7⟩
theorem y20{p:A→B→Prop}(x:A)(y:B)(h0:p x y):∃x y,p x y:=⟨x,y,h0⟩
theorem y21{p q:A→B→Prop}(x:A)(y:B)(h0:p x y)(h1:q x y):∃x y,p x y∧q x y:=⟨x,y,h0,h1⟩
theorem y22{p q r:A→B→Prop}(x:A)(y:B)(h0:p x y)(h1:q x y)(h2:r x y):∃x y,p x y∧q x y∧r x y:=⟨x,y,h0,h1,h2⟩
theorem y23{p q r s:A→B→Prop}(x:A)(y:B)(h0:p x y)(h1:q x y)(h2:r x y)(h3:s x y):∃x y,p x y∧q x y∧r x y∧s x y:=⟨x,y,h0,h1,h2,h3⟩
theorem y24{p q r s t:A→B→Prop}(x:A)(y:B)(h0:p x y)(h1:q x y)(h2:r x y)(h3:s x y)(h4:t x y):∃x y,p x y∧q x y∧r x y∧s x y∧t x y:=⟨x,y,h0,h1,h2,h3,h4⟩
theorem y25{p q r s t m:A→B→Prop}(x:A)(y:B)(h0:p x y)(h1:q x y)(h2:r x y)(h3:s x y)(h4:t x y)(h5:m x y):∃x y,p x y∧q x y∧r x y∧s x y∧t x y∧m x y:=⟨x,y,h0,h1,h2,h3,h4,h5⟩
theorem y26{p q r s t m n:A→B→Prop}(x:A)(y:B)(h0:p x y)(h1:q x y)(h2:r x y)(h3:s x y)(h4:t x y)(h5:m x y)(h6:n x y):∃x y,p x y∧q x y∧r x y∧s x y∧t x y∧m x y∧n x y:=⟨x,y,h0,h1,h2,h3,h4,h5,h6⟩
theorem y30{p:A→B→C→Prop}(x:A)(y:B)(z:C)(h0:p x y z):∃x y z,p x y z:=⟨x,y,z,h0⟩
theorem y31{p q:A→B→C→Prop}(x:A)(y:B)(z:C)(h0:p x y z)(h1:q x y z):∃x y z,p x y z∧q x y z:=⟨x,y,z,h0,h1⟩
theorem y32{p q r:A→B→C→Prop}(x:A)(y:B)(z:C)(h0:p x y z)(h1:q x y z)(h2:r x y z):∃x y z,p x y z∧q x y z∧r x y z:=⟨x,y,z,h0,h1,h2⟩
theorem y33{p q r s:A→B→C→Prop}(x:A)(y:B)(z:C)(h0:p x y z)(h1:q x y z)(h2:r x y z)(h3:s x y z):∃x y z,p x y z∧q x y z∧r x y z∧s x y z:=⟨x,y,z,h0,h1,h2,h3⟩
theorem y34{p q r s t:A→B→C→Prop}(x:A)(y:B)(z:C)(h0:p x y z)(h1:q x y z)(h2:r x y z)(h3:s x y z)(h4:t x y z):∃x y z,p x y z∧q x y z∧r x y z∧s x y z∧t x y z:=⟨x,y,z,h0,h1,h2,h3,h4⟩
theorem y35{p q r s t m:A→B→C→Prop}(x:A)(y:B)(z:C)(h0:p x y z)(h1:q x y z)(h2:r x y z)(h3:s x y z)(h4:t x y z)(h5:m x y z):∃x y z,p x y z∧q x y z∧r x y z∧s x y z∧t x y z∧m x y z:=⟨x,y,z,h0,h1,h2,h3,h4,h5⟩
theorem y40{p:A→B→C→D→Prop}(x:A)(y:B)(z:C)(u:D)(h0:p x y z u):∃x y z u,p x y z u:=⟨x,y,z,u,h0⟩
theorem y41{p q:A→B→C→D→Prop}(x:A)(y:B)(z:C)(u:D)(h0:p x y z u)(h1:q x y z u):∃x y z u,p x y z u∧q x y z u:=⟨x,y,z,u,h0,h1⟩
theorem y42{p q r:A→B→C→D→Prop}(x:A)(y:B)(z:C)(u:D)(h0:p x y z u)(h1:q x y z u)(h2:r x y z u):∃x y z u,p x y z u∧q x y z u∧r x y z u:=⟨x,y,z,u,h0,h1,h2⟩
theorem y43{p q r s:A→B→C→D→Prop}(x:A)(y:B)(z:C)(u:D)(h0:p x y z u)(h1:q x y z u)(h2:r x y z u)(h3:s x y z u):∃x y z u,p x y z u∧q x y z u∧r x y z u∧s x y z u:=⟨x,y,z,u,h0,h1,h2,h3⟩
theorem y44{p q r s t:A→B→C→D→Prop}(x:A)(y:B)(z:C)(u:D)(h0:p x y z u)(h1:q x y z u)(h2:r x y z u)(h3:s x y z u)(h4:t x y z u):∃x y z u,p x y z u∧q x y z u∧r x y z u∧s x y z u∧t x y z u:=⟨x,y,z,u,h0,h1,h2,h3,h4⟩
theorem y50{p:A→B→C→D→E→Prop}(x:A)(y:B)(z:C)(u:D)(v:E)(h0:p x y z u v):∃x y z u v,p x y z u v:=⟨x,y,z,u,v,h0⟩
theorem y51{p q:A→B→C→D→E→Prop}(x:A)(y:B)(z:C)(u:D)(v:E)(h0:p x y z u v)(h1:q x y z u v):∃x y z u v,p x y z u v∧q x y z u v:=⟨x,y,z,u,v,h0,h1⟩
theorem y52{p q r:A→B→C→D→E→Prop}(x:A)(y:B)(z:C)(u:D)(v:E)(h0:p x y z u v)(h1:q x y z u v)(h2:r x y z u v):∃x y z u v,p x y z u v∧q x y z u v∧r x y z u v:=⟨x,y,z,u,v,h0,h1,h2⟩
theorem y53{p q r s:A→B→C→D→E→Prop}(x:A)(y:B)(z:C)(u:D)(v:E)(h0:p x y z u v)(h1:q x y z u v)(h2:r x y z u v)(h3:s x y z u v):∃x y z u v,p x y z u v∧q x y z u v∧r x y z u v∧s x y z u v:=⟨x,y,z,u,v,h0,h1,h2,h3⟩
section
open Lean
def obS:=["eeeeeeaaaa","eeeeeaaa","eeeaaaa","eeaaaaa","eeeeaaa","eeeaaa","eeaaaa","eeaaa","eeeaa","aeeaa","eeeea","aaaaa","eaaaa","eeaa","aaea","eeea","eaae","aaaa","eaa","eea","aaa","aea","ea","aa","ee","a","e"]
def obG(ps:Array (TSyntax ``Parser.Tactic.rcasesPatLo))(t:Term):MacroM (TSyntax `tactic):=do
 let n:=ps.size
 if n<2 then Macro.throwUnsupported
 let p←ps.mapM fun p=>do `(rintroPat|$(←`(rcasesPat|($p))):rcasesPat)
 let c←if t.raw.isIdent then `(tactic|try clear $(⟨t.raw⟩)) else `(tactic|skip)
 let a←(obS.toArray.filter (·.length<n)).mapM fun s=>do
  let k:=s.length
  let x:=mkIdent ("x"++s).toName
  if k+1==n then `(tacticSeq|refine $x $t ?_;$c;rintro $p*)
  else
   let q:=ps.extract k n
   let r:=p.extract 0 k
   `(tacticSeq|refine $x $t ?_;$c;rintro $r* z;obtain⟨$[$q],*⟩:=z)
 let a:=a.push (←`(tacticSeq|rcases $t:term with ⟨$[$ps],*⟩))
 `(tactic|first $[|$a]*)
def obI(ts:Array Term)(f:Term->MacroM (TSyntax ``Lean.Parser.Tactic.tacticSeq)):MacroM (TSyntax `tactic):=do
 let n:=ts.size
 if n<3||n>9 then Macro.throwUnsupported
 let a←([3,2,1,4,5].filter (·<n)).toArray.mapM fun i=>do f (←`($(mkIdent s!"y{i}{n-1-i}".toName) $ts*))
 let a:=a.push (←f (←`((⟨$[$ts],*⟩))))
 `(tactic|first $[|$a]*)
end
local macro_rules
 |`(tactic|exact⟨$[$t],*⟩)=>obI t fun x=>`(tacticSeq|exact $x)
 |`(tactic|refine⟨$[$t],*⟩)=>obI t fun x=>`(tacticSeq|refine $x)
local macro_rules|`(tactic|obtain⟨$[$p],*⟩:=$t)=>obG p t
theorem zq{a c:A}{b d:B}(e:some (a,b)=some (c,d)):a=c∧b=d:=by cases e;exact⟨rfl,rfl⟩
local macro_rules|`(tactic|cases $h:ident)=>`(tactic|first|subst $h|(have z:=Option.some.inj $h;clear $h;subst z)|(obtain⟨x,y⟩:=zq $h;clear $h;subst x;subst y)|cases ($h))
set_option Elab.async false
set_option bootstrap.genMatcherCode false
set_option linter.all false
set_option maxRecDepth 100000
section
open Lean
def zS(m:NameMap Syntax):Nat->Syntax->Syntax
 |n+1,.node _ k a=>.node .none k (a.map (zS m n))
 |_,.ident i r v p=>match m.find? v.getRoot with
  |some s=>if v.isAtomic then s else mkIdent (v.replacePrefix v.getRoot s.getId)
  |_=>.ident i r v p
 |_,s=>s
def zA(d:NameMap (List Name×Syntax))(e:Syntax->Syntax)(s:Syntax):Option Syntax:=
 let (f,a):=if s.isOfKind `Lean.Parser.Term.app then (s[0],s[1].getArgs) else (s,#[])
 match d.find? f.getId with
 |some (p,b)=>if p.length==a.size then some (if p==[] then e b else zS ((p.zip a.toList).foldl (fun m x=>m.insert x.1 (e x.2)) {}) 999 (e b)) else none
 |_=>none
def zO(k:SyntaxNodeKind)(a:Array Syntax):Syntax:=.node .none k a
def zL(a:Array Syntax):Syntax:=zO `null a
def zT(s:String):Syntax:=.atom .none s
def zU(k:String):Name:=.str `Lean.Parser.Tactic k
def zP:Nat->Syntax->Syntax
 |n+1,s=>if s.isIdent then zO (zU "rcasesPat" ++ `one) #[s] else if s.getKind==`Lean.Parser.Term.anonymousCtor then zO (zU "rcasesPat" ++ `tuple) #[s[0],zL (s[1].getArgs.map fun x=>if x.isAtom then x else zO (zU "rcasesPatLo") #[zO (zU "rcasesPatMed") #[zL #[zP n x]],zL #[]]),s[2]] else zO (zU "rcasesPat" ++ `ignore) #[s[0]]
 |_,s=>s
def zK(k:SyntaxNodeKind)(a:Array Syntax):Syntax:=
 let g:=fun s t=>zO (zU t) (a.set! 0 (zT s))
 if k==zU "tacticLet__" then
  let q:=a[2]![0]
  if q[0].getKind==`Lean.Parser.Term.anonymousCtor then zO (zU "obtain") #[zT "obtain",zL #[zO (zU "rcasesPatMed") #[zL #[zP 9 q[0]]]],zL #[],zL #[q[3],zL #[q[4]]]] else g "have" "tacticHave__"
 else if k==zU "tacticLetI__" then g "let" "tacticLet__"
 else if k==zU "show" then g "exact" "exact"
 else if k==zU "apply" then g "show" "show"
 else if k==zU "refine'" then g "apply" "apply"
 else if k==`«term#[_,]» then
  let b:=a[1]!.getArgs
  if b.size==0 then zO k a else if b.size%2==0 then zO k (a.set! 1 (zL b.pop)) else zO `Lean.Parser.Term.anonymousCtor #[zT "⟨",a[1]!,zT "⟩"]
 else zO k a
def zE(d:NameMap (List Name×Syntax)):Nat->Syntax->Syntax
 |n+1,s=>match zA d (zE d n) s with
  |some t=>t
  |_=>match s with
   |.node _ k a=>
    let a:=if k==`Lean.Parser.Term.basicFun then a.modify 0 fun b=>zL (b.getArgs.map fun x=>if x.isOfKind `Lean.Parser.Term.hole then mkIdent `_x else x) else a
    zK k (if k==`null then a.foldl (fun r x=>
     if x.isOfKind (zU "show") then
      let t:=if x[1].isOfKind `Lean.Parser.Term.tuple then x[1][1][0]::x[1][1][2].getSepArgs.toList else [x[1]]
      (t.foldl (fun r t=>r.push (zT ";")++match zA d (zE d n) t with
       |some y=>if y.isOfKind `Lean.Parser.Term.byTactic then y[1][0][0].getArgs else #[zK (zU "show") #[x[0],y]]
       |_=>#[zK (zU "show") #[x[0],zE d n t]]) #[]).foldl (fun (r,b) y=>(if b then r else r.push y,false)) (r,true)|>.1
     else r.push (zE d n x)) #[] else a.map (zE d n))
   |.atom _ v=>zT v
   |.ident _ r v p=>.ident .none r v p
   |x=>x
 |_,s=>s
def zN(m:Syntax):Syntax:=m.setArg 4 (zL #[zO `Lean.Parser.Command.noncomputable #[zT "noncomputable"]])
def zD:Nat->Syntax->Syntax
 |n+1,c=>
  let d:=c[1]
  if c.isOfKind `Lean.Parser.Command.mutual then c.setArg 1 (zL (d.getArgs.map (zD n)))
  else if c.isOfKind `Lean.Parser.Command.in then c.setArg 2 (zD n c[2])
  else if d.isOfKind `Lean.Parser.Command.definition then c.setArg 1 (zO `Lean.Parser.Command.theorem #[zT "theorem",d[1],zO `Lean.Parser.Command.declSig #[d[2][0],d[2][1][0]],d[3]])
  else if d.isOfKind `Lean.Parser.Command.abbrev&&c[0][4].getNumArgs==0 then (c.setArg 0 (zN c[0])).setArg 1 (zO `Lean.Parser.Command.definition #[zT "def",d[1],d[2],d[3],zL #[]])
  else c
 |_,c=>c
def zC(d:NameMap (List Name×Syntax))(c:Syntax):Syntax:=
 match c[1].isStrLit? with
 |some s=>if s.front != '-' then c else zO `Lean.Parser.Command.end #[zT "end",zL (if s.length==1 then #[] else #[mkIdent (s.drop 1).toName,zL #[]])]
 |_=>zD 9 (zE d 999 c)
def zH(s t:String):List String:=s.toList.flatMap fun a=>t.toList.map fun b=>String.ofList [a,b]
def zQ:List String:="ÀÁÂÃÄÅÆÇÈÉÊËÌÍÎÏÐÑÒÓÔÕÖØÙÚÛÜÝÞßàáâãäåæçèéêëìíîïðñòóôõöøùúûüýþÿĀāĂăĄąĆćĈĉĊċČčĎďĐđĒēĔĕĖėĘęĚěĜĝĞğĠġĢģĤĥĦħĨĩĪīĬĭĮįİıĲĳĴĵĶķĸĹĺĻļĽľĿŀŁłŃńŅņŇňŉŊŋŌōŎŏŐőŒœŔŕŖŗŘřŚśŜŝŞşŠšŢţŤťŦŧŨũŪūŬŭŮůŰűŲųŴŵŶŷŸŹźŻżŽžſΑΒΓΔΕΖΗΘΙΚΛΜΝΞΟΡ΢ΤΥΦΧΨΩγδεζηθμνξοπςυχψωϊϋόύώϏϐϑϒϓϔϕϖϗϘϙϚϛϜϝϞϟϠϡϢϣϤϥϦϧϨϩϪϫϬϭϮϯϰϱϲϳϴϵ϶ϷϸϹϺϻ".toList.map (·.toString)++zH "jyBquvACpxHMkPSwTcflzogdinRrtmsb" "0456789abcdefghijklmnopqrtuvwxyzABCDEFGHIJKLMNOPQRSTUVWXYZ"++(zH "zjqxZJ" "abcdefghijklmnopqrstuvwxyzABCDEFGHIJKLMNOPQRSTUVWXYZ").flatMap fun s=>"0123456789abcdefghij".toList.map s.push
def zB(l:List Syntax):NameMap (List Name×Syntax):=(zQ.zip l).foldl (fun d x=>
  let b:=x.2
  let (p,b):=if b.isOfKind `Lean.Parser.Term.fun then (b[1][0].getArgs.toList.map (·.getId),b[1][3]) else ([],b)
  if b.isOfKind `Lean.Parser.Term.hole then d else d.insert (.str .anonymous x.1) (p,if b.isOfKind `Lean.Parser.Term.paren then b[1] else b)) {}
def zM(cs:Array Syntax):MacroM Syntax:=do
 unless cs[0]!.isOfKind `Lean.Parser.Command.check do Macro.throwUnsupported
 let d:=zB cs[0]![1][1].getSepArgs.toList
 return zL ((cs.extract 1 cs.size).map (zC d))
end
local macro_rules|`(mutual $cs* end)=>zM (cs.map (·.raw))
mutual
#check[
λV=>List V,List Str,by lia,λa=>.ref a,λi=>.int i,Array Keyed,λx=>.str x,by simp,List Value,by omega,by simp,λa=>by refine Nc a,λa=>.tup a,λh=>if_neg h,λa=>.lst a,λy c e=>λy c e=>?_,λh=>if_pos h,by lia,λa g=>λa g=>?_,List Pt,by omega,Value->Ω,List (Addr×Obj),λk=>.inl k,Inv X pins σ H s,by decide,λv=>some v,Option (W×MH),List Spt,λa=>.lst a,λe a=>by show uv e a,by decide,λa b=>Qc wIx a b,λa r=>OpR X a r,λa=>Qa a Qe,λg c=>(by rw[g]at c;cases c),λx=>.inr x,λb=>λb=>?_,λd=>by refine Qf d,Keyed->Int,List Expr,Option W,λw=>Rw K R w v,λa b=>PM X a b,a.h X k,Qb 0,x.2.length,λa=>yx a,Qb 1,λb P=>T prog w A E s b P st,sO frN,λx=>RelV x u,λx=>.inr x,λa=>.bl a,λa=>by show yw a,λa=>wpAny (model prog w) A a Q E s,λh=>(Nk.mp h).1,λa b=>by show absurd a b,λx=>Ψ t x,Str->M7,Qb 2,Nu _,λe a b=>(by by_cases e:a=b),λw b=>sO (w,b),GoodP 100 bs ws p,Qb 3,Rh K R h H,λa=>Qa a Qe,λa z=>a.trans z,λa o=>upd H a o,List (Nat×Nat),List Nat,λa=>An a,(by first|(show Ψ g c)|cases c),λa c j e=>thn a (Ï c j e),λV=>List (Key×V),λt e d=>(by let#[t,e]:=d),λb j=>PE X b j,λd j Q=>by intro d s j H Q I h,λi=>.inl i,λr h=>.cons r h,((c:Int)),λa h=>.nx a h,λc d s=>wpAny (model X.prog X.w) X.A c d X.xe s,λa=>StateT SortSt Sem a,sO (QO p),λb o e B=>λb o e B=>?_,λa=>jge a,.str x,NN _,λa=>jH a σ,λj=>by show yq j,Option Ln,λk=>lev ls k,λa=>.ref a,Option Int,List Cd,λa=>Bb a,λc=>.done c,Cmp prog w A s κ M f,#[_,rfl],λc=>Ny c.symm,.tup ws,List Ln,List Qr,λQ G=>by rw[Q];show G,λT=>gL T s,Ġ a,mC ST,λc a=>k R H _ Θ c a,λh=>.ref h.length,λx n p g=>(by let#[x,H1,I1,n,p]:=g),if_pos rfl,((k:Int)),λf b=>@ob _ _ f b,λh=>sO (.non,h),s.2.2.1,.lst ws,λc=>Nq.mp c,λe=>Na.mp e,λj y=>#[j,y],λa=>by show S5 a,λj t f e=>(by let#[j,t,f]:=Ĺ e),λi=>F f (arrOf st) i,Array Value,.int i,(λ_=>nO),λj=>F f ys j,λz=>NQ.mp z,λa b=>Qc wEq a b,λa=>zk5 a,model prog w,List (Tr×Addr×V),SortSt->Prop,λf c e p q d=>(by let#[f,c,e,p,q]:=d),λa σ b c=>Inv X a σ b c,λg=>.tup g,λa b=>Qc Q7 a b,λe h=>e _ _ h,λa=>sO ĭ,λg=>by show yq g,xg8=false,pin g il p,List zS4,Nat×Nat,R.ρ n,(λ_ _=>rfl),λe=>Nt _ e,λa=>by ·show å a,Nn _ _,λa=>mFn Qz a,kindOf st=κ,Qb 5,.lst [],List Int,((n:Int)),Gl X x,λg M a=>λg M=>a,λa=>by show zW a,λq=>by ·show Ø q,λa=>by show Qh a,X.calm=true,.dct [],λw v=>Rw X.K R w v,List Tr,λa b I q h=>(by let#[a,b,I,q]:=h),λa=>by show jgi a,λa b=>jg9 a b,À W->xF,Ψ t c,λe a=>(by cases e;show a),λe=>by rw[Í e];show zy0 e,λa=>wpAny _ _ a _ _ s,λS q=>(by rcases NG.mp S with q|q),Hp->Prop,λe r=>(by let e:=r.length),bs.length<=5,NK _ rfl,Ql st,.bl true,List Addr,List Env,RE->Prop,λa=>.int a,λo g D=>#[o,g,D],X.A.units+64<cLine,λr=>(by unfold Rw at r),Qb 4,λV=>List (Str×V),λa h=>sO (Ĕ a h),I.tok _,λx b=>(by rename_i x;cases b),λq=>drf h n q,CxOk c X,λi=>f a[i],λa=>by show Ŗ a,Ġ n,Ext.refl _,.type "list",Rws K R ws xs,λj=>.int (j:Nat),λg=>by simp[g],X.N[i]?=sO x,λa=>PlainL bs ws a,s.2.2.2.1,λh=>I.list h,Zn 0,c=true,λV=>Option V,λl=>Nr _ l,λb a c=>ϖ b a c,λt c=>(by let#[t,rfl]:=c),Shared->Prop,RrG E K Wr U,λb a=>b.extract a b.size,.int j,Rh X.K R h H,Zk es=true,Keyed->Prop,ZN e=false,λw o f r N=>(by let#[w,o,f]:=r.get N),λM a s=>wpAny M A a Q E s,λd=>h.get? d,sO .cell,(λ_=>rfl),λb=>(by rcases b with b|b),PM X a ma,Q6 st,Ext R R',Al p out,λk=>rem x i k,λa=>decide a,λc a=>λc=>a ,H b=nO,λb u e=>λb u e=>?_,λa=>by show zj7 a,λe a=>xe4 e a,v=Ã a,λe a c=>(by by_cases e:a=true;·rw[Ð e];show(zy0 e,Qh c)),λa d m n e=>(by let#[#[a,d],m,n]:=Ĺ e),λh v c a b=>by show(Mn h,CY v c a b h),λb r d=>Q9 b λr=>Za d,λc=>.ref c.heap.objs.size,λh=>(by show fU h;subst h),List Mj,sO fO,GoodP N bs ws p,λs=>sO (seW s),Option Addr,λx=>out.push x,Vals xs us,Reach p s,Option Pl,λo z=>(by rcases o with z|z),λa=>K.lookup a,Qb 7,λR=>Th R s t,λi=>F f xs i,λc=>Nr _ c,λR1=>Ext R R1,λa=>by show Nl a,λa b=>mMt "list" QZ a b,E n l m c,λy z c G l=>λy z c G l=>?_,λa=>xfi a,λc h f=>zj1 t c h f,mC xg7,arrOf st,λb o q r=>(by let#[b,o,q]:=yr r),λm=>(by rcases NI.mp m with rfl|m),λs b=>s.heap.get? b,λh=>#[_,h,rfl],λb=>mUn b (Qb 0),Rws K R ws vs,s.2.2.2.2.1,A.handled=nO,λQ G=>by show ī Q G,λr d j s=>λR1 H1 r d j s=>?_,Nl ?_,List Stmt,Pn p g il,ls[j]?,λO m l y=>(by let#[O,m,l]:=y),λL A f d=>k L _ _ A f d,λb a=>elem' b a,λc=>by simp only[c],λz a=>by show(š z,Ŗ a),λa=>jhh a,List (κ×Nat×À ι),λa b=>by show(wG a,wG b),λy n m e r j g=>by show(ļ y n m e,ϱ r j g m),λa b=>by refine thn a b,cg\/dI=yT,λj=>bey f left key arr[base+j],ϳ s b=sO o,λh=>h.get? b,λy q c=>(by let#[y,q,rfl]:=uo c),Loc X.env.scope x,λa q=>by rw[Qp a];show q,λt c σ=>t c s σ H _ I h,p[part]?=sO x,#[rfl,rfl],λq=>λ_ _ q=>q,List (W×W),λq h=>(by let#[rfl,q]:=h),EC _ _,.inl rfl,lo+n,gAt G k,λS=>(by cases S),λJ8=>box frN J8,λa=>by rw[if_pos a],λd=>by show d.elim,λt i q l e a=>zj4 t i q l e a,ã ñ,yQ b,jH a b,λa=>uK a,λa σ=>Inv X a σ H s,Qi (g:=[]) (by simp) ?_ rfl,λa=>Qc Q7 a (mC (.int 1)),rJ x=sO c,λa=>Qa (Qb 0) a,s.heap.objs.size+1,by decide +kernel,(λ_ _=>False),by dsimp only;lia,.ref gr,by simp;omega,t∈Ĭ T,.lst ws,λh=>I.tuple h,Qb 6,List (κ×V),((i:Int)),λe=>by dsimp only at e,.bl false,λg=>absurd rfl g,_,_,p[i]?=sO x,List Keyed,x="either",sO .free,Qb 8,PE X a ta,Option MF,RelV x v,m σ h,((0:Int)),Nn _ _,λq=>by simp[q],λf b=>@om _ _ f b,λb=>by show key _ b rfl,.frz ws,λj=>st.mono j,λe r=>(by subst e;cases r),.str _,λc=>.dct c,λt=>SV p t,λj=>by simpa using j,λr=>Nh.mp r,λa=>Nc a,λa b=>PMS X a b,k _ _ jgc e,λa=>by show Ø a,λa=>ã a,x=Ã a,λa=>QY a ?_,model X.prog X.w,.ref s.heap.objs.size,∀x,jX3,λh T D Q=>GH C b h r gr aT aD aW T D Q,Hp->VK->Prop,λh=>decide_eq_false h,λp u o=>p.trans (Ć u o),.type "tuple",out.map Qu,λs=>decide_eq_true s,λi d c q a=>by show(j6 i d c q,a),((zY8:Int)),ls.map Qj,zd9=sO l,ws.length<=5,λi l=>NP.mpr (ĺ i l),λr=>r.h X k,pur w=true,λa=>#[a,rfl],sO .local,.inr rfl,λb=>#[rfl,b],X.mg x,Nat->Nat,.bl b,Rc p s,_,.int _,λr=>by rw[<-r.length],λh a=>absurd h a,λe l=>(by cases e;cases l),λG=>gL G k,λy w'=>RelV y w',λa=>jn1 a,λa=>Ř a,by show jC8,if_pos Â,SS c,vb b,λa=>by show ç a;dsimp only,Ci a,St->Ű,ā o h,_,λa=>jL a,Qc wIx (Qb 0) (mC ST),s.toks+(Qk prog w).draws k,λa=>Qa a (Qa (Qb 3) Qe),(by let#[o,c,d,m,n]:=Vt H f),BlkOk X scope cl Nb cp,λc=>sO (zga c),xs.length<=sizeLine,h.Ns mainGlobals mg,λe=>(by show ut e;cases this),mFn Yf Qe,_,λa=>wpAny _ _ a _ _ _,List (Str×Addr),λa=>Value.ref a,(d k).trans h,λn=>nA g out out' n,λh e=>(by rcases NI.mp h with e|e),λa=>Nd a (by decide),λu c d=>(by let#[u,rfl,c]:=YI d),HOk P w H h,Ext.refl _,λe a=>Rw.mono e _ _ a,λo p d=>λo p=>d o (Φ p),λq=>((nomatch q)),.inl rfl,JK e≠0,λk=>Room k X.A,λz=>False.elim z,.tup ws,s.toks+1,j<b.size,j<a.size,λa b=>by show Nd a b,λa=>by refine Nl a,λa=>a.Perm ks,λb c e=>(by rename_i b c;cases e),max a b,List Fc,λf d a=>k R1 H1 _ f d a,id rfl,λi=>SqL.of i,λa=>by show .plain a,_,_,λa b=>Rws K R a b,λl=>Zi l ?_,λb j=>λb j=>?_,λa=>.dct a,λz=>NV _ z,λa=>by show jic a,W->W->xF,yD h T D Q,if_neg Â,λm d f i g=>Č (jn m d f) v i g,λj=>Đ d j Q,λd m n=>ϔ a d m n e,#[way,part,k,false],ls.map cdL,λH'=>Inv X pins σ H' { s with heap:=h',toks:=t' },_,e::es,.frz (ns.map .int),λa=>Heap.SameBut a s.heap h',(by show ff;cases p),by rw[if_neg (by simp)],λe c=>(by cases e;let#[v,rfl,c]:=YI rw),base+i<arr.size,(arrOf st).size,Np (Nn _ _) hu,λh1 b=>((h1.1,h1.2,b)),.frz (ns.map .int),c.sc.names.lookup x,El K (.ref f)=true,λb k=>λb=>decide (b.1=k),PMA X (e::es) ms,#[_,_,rfl],Al M (arrOf st),live src items h,_,A.units+n<cLine,λn=>nD g out out' n,λa=>pz->Q (.ref p) a,x≠"__name__",b.map zce,λa=>Np a (by decide),λr a g c=>(r.2 a g).trans c,byH L O g,λV=>ns.map V.int,sO v,_,2<=sizeLine,λg n=>λb g=>(n b g).1,a<h.length,Option Src,ZO st,λh=>by simp at h,Nat->Addr,λn L O=>ByI bs ws n L O,fpG aD D,λe=>eval e env,λx=>I.ok.hd x,((j:Int)),R.ρ n,sO o::r,_,_,List En,((1:Int)),Dp g s,λr=>r.length+1,sO q,EG _,λa x=>Rw K R a x,K.In h,λb=>Yk _ _ b,_,λb=>.bool b,_,λc=>NJ.mp c,_,λa b=>a.set i b,λe t=>PT X e t,λe=>(by rw[e]at this),V->x0,λe a=>by show Ŭ e a,λg e0=>(by let#[g,e0,e]:=Ĺ e),ο a=sO o,_,_,jj h=sO o,Þ a,λj a h e=>(by show ϱ j a h e;cases h),[Ã a],vb y,λj g=>sO (Ã j,g),đ h,Ġ T,ì e m,λa=>Qc wEq (Qc wIx (Qb 0) (mC ST)) a,λa=>Qa (Qb 1) a,mC (.str "pair"),(by first|show jv|show yU|assumption),Qi (g:=[]) (by simp) ?_ (by simp),λa=>Nx p #[way,part,k,false] a,seqObj "list" vs.toArray 0,seqObj "list" #[] 0,#[way,part,k+1,false],λa=>ForInStep.yield a,λb d=>λx b=>d x (Φ b),sO zX8,starEach es X.env,List (Str×Value),by simpa using this,λd=>ZY (drf h n) d,Rw.int _,_,_,λe=>eval e X.env,_,LineOk bs ws la l,_,if_pos fL,x.2.map Qj,λa=>.str a,λm G o l S e0=>(by let#[ad,m,rfl,G,o]:=l.lsAt S e0),Rw.bl _,λa=>Qa a (Qa (Qb 3) (Qa (Qb 4) Qe)),.Name x pos,λb=>Nd (Nn _ _) b,done out ia ib,done out na nb,EP X a b Q,Ru E B w,s.2.2.2.2.2,n<out.length,Qu s,A.units<cLine,a.size+b.size,ixS out t,.str x c,λq=>by rw[q];simp,_,λu b d=>u pos b s d H _ I h,p[0]?=sO x,λp=>.ref p.2.1,g<=ls.length,_,λH=>by rw[NB,H];rfl,RS C r n h X,λq=>by rw[q];simp,λb=>SqL K H a b,x="again",NX ..,.lst [],a m≠d m,N2 _,λa=>Qc Z0 (Qb 2) a,V7 CX X E,n<1000000,Nat->Prop,Str->Prop,λc=>sO (.bl c,h),λh2=>sO (.rt v h2),λc a=>by show Ng c a,ma σ h,λc=>Rst K R a c,e.kd=.oo,fpG aT T,a m=d m,f b[j],((m:Nat)),λa=>Mat ls k a,Zn 3,_,_,.ref _,sg g k,sg g j,λv=>(by cases v<;>rfl),λa=>Rh K R' h a,λn=>P n σ h,λR' w=>Rw K R' w v,λa=>F2 X.K a,λr=>IxR X r,λa=>.tell a,λa=>pyIter a,λa p d=>aLe wT9 a p d,λh=>(by simp[wdL]at h),λb=>Χ o6 a b,seW Aq,λa b=>by show xe6 a b,_,λf d=>zj1 x f y d,λa=>Zg a,λr=>by show(ż r,r),_,qy h2 g,List (Nat×Œ),_,λz c=>by ·rw[ĸ z];show c,λA d t D=>(by let#[A,d,t,_]:=jU D),h'.get? b,λa=>by dsimp only;show ç a,Bool->Ű,æ e,AT n,some jT,b∉ch,Ġ x,Ġ D,jq q,ϴ e,zsg z,ā w h,λv a=>#[v,rfl,a],λh1=>h1.get? a,λz=>(by rcases z with⟨rfl,rfl⟩|⟨_,rfl,rfl⟩|⟨_,rfl,rfl⟩|⟨_,rfl,rfl⟩),mC jCj,λk b c=>Room k (A.deeper (envOfC b Ŵ s.heap.objs.size f c)),by simp[dep],_,λL0=>sO (Þ (L0.map Qj)),λe g d p v q=>(by show ym e g;let#[d,p]:=v q),_,λq=>sq out q,mUn Qa0 (mC (.int 1)),∀a o,zR1->R'.F a=sO o,L.take k++[doN]++L.drop k,λr z=>by show(B5 r,z),SetTable.grown d.size,List.replicate r doN,sO zX9,FnScope N ps (Ql st),.lst xs,o.data=.set es ep t,(pendingOf st).size,(λ_=>rfl),s.heap.objs.size+1,(pendingOf a).size,List (κ×Nat×ι),λu B S d g=>(by let#[ad,u,rfl,B,S]:=d.tupAt g),_,by kernel_rfl,_,lM=h[a]?,_,λe=>i.e c e,Binds K fd ps [],k.rm.mono h.1,λF=>Paired F l₁ l₂,EgN p out pl,λw n p o e=>(by let#[#[w,n],p,o]:=yr e),MM ek eo h T G,by simp[Qj],λt c e=>(by let#[t,c,rfl]:=yr e),_,.int q.2,_,model P w,lb.drop ib,_,setArr st ys,NL e,x::r,h.length+1,_,la.drop ia,_,sO (as,ns),λh=>(Zh h).stE _ _,λA a c E s=>wpAny (model prog w) A a c E s,_,.ref aT,.inr rfl,A.units+1,Js ws=true,j<=xs.size,KeyE ek et,(by unfold ZM;rw[ei]),λb=>p.mem_iff.mp b,_,λg p=>Rw.mono g _ _ p,PE X e te,(g X k).2,YU l=true,b∈Bx p,_,λa d n q h=>(by let#[a,d,rfl,n,q]:=h),λR=>Ends K R D r,λa b=>SqT K H a b,λa=>tI K a σ H Q,λG y=>Ng (NU G _) y,λa b=>decide (a=b),DM X G a,i<a.size,i<b.size,_,λg=>fs.lookup g,λa=>eval a X.env,_,nx p s,x="or",_,List MO,t∈out,_,λa=>.Name x a,_,_,_,_,λr a=>by show Er r a,_,λu' r'=>by refine#[u',r',?_],_,lo+x,mC w,Zn 2,ls[k]?,_,H p=nO,sO p.2,b=true,R.ρ x,by rfl,λc=>Vals xs c,λa=>Wf n sh a,by refine Nc ?_,(by simp at this),λv e h=>(by let#[v,e,h]:=h),λa f=>Qbj X a f b,λe g=>#[e,g,rfl],(g X k).1,λr=>SlR X r,λl p d=>bLe wT9 l p d,λc=>sO (c:Ln),λa=>FG.mp a,λz=>λz=>?_,λx a=>.Name x a,zj5 a,zj5 m,λv p m b=>xe5 v p m b,λL G D C n=>(by let#[L,f1,f2,G,D,C]:=xh7 n),λg d v=>by show(AR e g d p v q,AL z),#[_,ų,rfl,rfl],sO (plW t),sO zZ,À V->yE,_,_,_,_,_,_,_,λa m f=>(by let#[z,a,n,r,m,e]:=zLf f),Nd (Ô:xpg) à,_,_,ϳ s S=sO o,by exact Ú,sO (Ä j,h),[ė,Ϛ,nO],λj=>(by let e:b=it:=ĝ j),λo g e U=>λb o g e=>qO U b g e,ć a o,Unit->Ω,[Ì jKj],λu r A n=>(by let#[u,r,pl,A]:=jU n),zr0 xic,wB a x,Ŏ e,Nat->ê,λl j=>zqg a d l j,_,Ġ f,jq e,Ŏ c,zsg e,yQ r,x=Ã l,H b=nO,Ò a b,v=Æ x,MH->Ü,ť w v,λM v L v1=>by show(ű M v,ű L v1),Ï a u e,λc g d e=>(by show ϱ c g d e;subst d),Mi.blk X scope cl Nb f H2 C fp wA,λa=>((false,pc a)),nz qo=jGh::starEach es X.env,Qbm rfl rfl (by simp[dep]) (by simp[dep]),FnOk X.prog X.w X.K X.mg X.base CX k f fd ps sp,starEach [a] X.env=[(false,pc a)],λa Q E=>wpAny (model X.prog X.w) X.A a Q E s,by refine bI (s:=#[way,part,k,false]) ?_;rw[D],(λx y=>l8),λa=>by refine iY;simp only[c,d];show a,GoodP 100 bs' ws' (pin g il p),mC (.str "tell"),RH C n h r aE aK aW aU E K Wr U,λb c d g=>(by show kH h;let#[a,xs,b,c,d]:=h;show g),λa S b d=>(KY (as:=a) S xje rfl b rfl).trans d,mC xj3,_,_,_,_,_,_,x.2.map cdL,.Compare a [op] [b] pos,(strKind prog w).hash x,qU2\/es.size<=1,λb R s=>codeAny (model prog w) A b R s,.bl true,Value->zFe,by simpa using hi,mC (.str "first"),(([jLj]:Ln)),List (Tr×zNj),(by intro t a;simp at a),sO (0,g),λc f y=>Inv X c f H { s with heap:=y },#[way,part,k,true],Array (Option Value),_,Option qh1,λh x=>(Qk prog w).is h x.1 x.2.1,t.fits es.size=true,Paired zyd l ks,λc=>(by rcases NG.mp c with c|c),λe=>by unfold gL;rw[e];rfl,Binds X.K fd ps ds,((.int ws.length,h)),Array (Int×Value),Di _ (by decide),Dfs p met st n out,.ref it,QL zA4,λb=>So f (arrOf st) lo b,Option (Bool×MH),J f la lb o ia ib,binaryOp .Mult,Option Nat,mC zM5,List (κ×Value),_,sO (!ws.isEmpty),λc d=>Ja f a b out c d,_,_,sIx items.size 0 lo,binaryOp .Add,QdK X.K R h d,_,r.1.ps.length,λh G=>MM ek xnj h T G,X.mg "range"=nO,((nO,())),List (Str×Str),Pb≠ue,Heap->Prop,λb=>beq_self_eq_true b,NR l _,ins g .ot ls,Option Value,(pls p).length,λZ=>by rw[ND];show Z,λQ7=>(by unfold Q7 at e;split at e),λj=>.cons j .nil,#[_,rfl,?_],λo=>ObjOk P w H h a o,λz a=>λz=>absurd a vI,λi g h=>(by let#[i,g]:=NP.mp h),λa=>SqT X.K H a ys,λR b=>After K R w b Q,_,Option Nat,_,(λ_ _=>rfl),k.gl h.2.1,λh=>(by rw[Rws.cons_iff]at h),Gl X "range",QdD p l=sO j,i<xs.size,λy=>s.2.1.push y,n<sizeLine,λa L=>LsOk bs ws a L,_,λY r l=>(by let#[u,hu,Y]:=r.get l),λr=>IterR X tg r,_,px=sO c,_,λc=>Ng c (Nn _ _),Vals dvs ds,Option Expr,_,_,_,_,_,ps.length=n,At xs i,["program"],_,s.head=true,_,0<bs.length,e.2.2.Nodup,b<=h.length,.lst ys,_,λH' a=>Inv X pins σ H' a,p.map V5,λx b a=>(by let#[x,b,a]:=Ew.mp a),λe=>λ_ _ e=>e,λw=>drf h 40 w,λn D=>(by rename_i n D;split at e),_,λl=>l.map .str,λe d q=>(by obtain _|⟨e,d⟩:=q),j<l.length,pure false,Ym X.K fin,λc d=>Jh f a b out c d,λc=>h.IsTuple a c,_,_,_,λe=>h'.get? e,λi d j a=>λR1 H1 x i d j=>a,λl=>Ch f xs l a b,QJ a b,.tup xs,(by by_cases e:p.1=k),_,ma σ h,arrOf s,λA u B S d g P=>(by let#[A,rfl,u,B,S]:=d.refAt g P),PE X b tb,_,Cls X.K C,_,PM X b mb,PM X o mo,QaZ kx xs,x.2[s.k]?,_,R1.ρ j,λe=>by rw[e];rfl,λa=>Rws K R a xs,λB=>KpL B l b b',Nt _ e,_,λi q h=>(by let#[i,rfl,q]:=h),λk n=>Ends.ext k n,sO w,λh=>(by unfold Rw at h ⊢),.yield c,arrOf st,["line"],e.kd=.ei,cd x,w∈Wd p,λq c=>q.obj n _ c,λa=>NJ.mpr a,λq=>RelV v1 q,λs=>tn i s.heap,a≠aW,_,m _ a,_,Yh ?_,sO (.ref f),Qj l,λI e=>I.cell x c e,W->Bool,.done c,List Kv,List Rc,Nat×Qr,v=.non,λa=>λ_ h=>sO a,[QO p],Ap g s,λi p g q=>(by let i:=N6 p;let g:=N6 q),((i:Nat)),λy=>by show y,λt=>Reach p t,inW x c,JG q,by simp[bxL,rdK],pure r,.frz _,_,f b[i],_,Sg g d,x∈bs,.ref 0,κ->Tr,_,H.sz.1,Ap g t,λb=>St.uniq b,λq=>q.h c X k,by rw[this];rfl,(by simp[KA]at e),_,λd j u=>EP X d j Q u s,λu=>Rd H a u,λh=>NQ.mpr h,_,λa b=>PMI X tg a b,_,λc=>kindOf c,_,λa=>tH p out a,λf e d h=>(by let#[f,e,d]:=WC h),λa=>.inr a,_,λq' U=>by rw[<-q'];show U,_,λi=>by rw[NA];show i,λa c=>by show Rws.cons a c,[sO jQ,Ϝ s2,Ϝ o,ō i,nO],_,_,λQ=>λa s σ H Q I q=>xdi Q,seW PZ,_,ji->zn9,by show(xl7,jC8),qy h1 y,_,_,λa=>by show Ë a,up Ç _ jpf,λc=>∀s t,jS->zq6,λa=>by refine or_congr DW a,[QO p,Æ w,xu2],V->ġ->ġ->yE,_,ϕ h v c a b,by intro x b;show ϲ b,by show(Hk,wg a c),λa=>show By a from ?_,_,_,á î AM,λd=>(by show Ď t e d;cases e),wn h0,by simp,Bool->Ω,λe=>by show jY e;split at e,_,_,λz d=>by show ī z d,λj a=>Vi (h1:=j) a rfl,_,BN (k+1),ğ (k+1),v∈B8 D,sO ĳ,ã î,λb=>some (Þ b),Nat×Œ,Ġ C,Ġ t,Ġ b,ł n,ĳ-1,Ci o,λa=>Qa jV a,u=BA a,b∉ex,p0 a b,HI->Ň,_,t∈qmg,ne9 à,_,λl=>.inl l,λQ=>I.pin p Q,λk=>sO (zga k),.int 0,λx8 x9=>byS ns st mn bs ws (sO (zga k)) x8 x9,_,_,typeOf zre=pure xi7,Qa (Qb 3) (Qa (mFn Qz jCb) Qe),.Name x p,_,_,λt=>Lv f a b t.2.1 cT c9,decide (s.1=1/\jQa),_,_,PassesOwn (model X.prog X.w) X.A X.env X.xe,[.str "do",.str "n"],by apply CL+n<cLine;lia,((jGe:Ln)),λa b=>lev (ls.map cdL) a-lev (ls.map cdL) b,eoD thW xkc,_,λc g=>(by subst c;show g),mC .non,_,mC T8,decide (iK<30)=true,_,Qv (Qg 1 QT (Qa (Qb 0) Qe)),λh=>.ref h.length,(moS d).map mvW,_,λc=>I1.kept (t':=c.toks) λb o e=>ŕ e,_,λv e a c=>λv e=>wpAny (model X.prog X.w) X.A a c X.xe e,E.map seW,mC He,w.params.followText "set-order",_,_,λx=>(by let#[x,_,rfl]:=zX2),X.pn++j,λa x=>a.names.lookup x,drf h 40,bootBuiltins x,DZ K mainGlobals x,λu l=>(by obtain rfl:u=Value.ref (R.ρ n):=l),λa=>by · show a,pin g zw6 p,R κ M f a₀ a₀.size a,λa=>Qc wIx (Qb 0) a,mC (.str "second"),(a==sysModules)=false,λb v=>if b.1=k then(b.1,v)else b,.type "range",Nd M5 b,λp f d j o=>(by let#[p,f,d]:=kO j o),N.length=ps.length+more,sIx items.size items.size hi,_,Ku w,λh=>MM seW xo6 h aT T,λf=>(by simp only at f;subst f),(xs.extract i j).size,met++[s],λa b=>Cal P w K mg base a x ps b,#[rfl,rfl,rfl],_,_,_,setArr st ys,mC (.str "either"),.int 4,EgN p out pl n l m c,PIn bs ws bs' p g il,Paired zyd l ls,List (Value×Value),λa=>Nl a,λe=>by show(show False from e).elim,λp=>(by unfold Js at p;rw[N0]at p),_,_,λa=>Mv lo a (arrOf st) ys,X.base.get? b=sO o,sO .globalImplicit,d++[e],List (Option Expr),λa=>R κ M f a₀ lo a,List (Qr×P7),λa=>Nd a.ln (by decide),Em _,_,λh a=>How w S T h es ep t vs i a,Vis X.env.scope x,.type "dict",(λz=>h (by rw[z])),e.2.2.length,(L.drop k).map Qj,sa+k,_,sO (1,"Rules"),(pls p).map JG,ps.zip us,_,PMI X tg iter mi,_,λB I d q m D=>(by let#[c,rfl,rfl,B]:=KH I d q m D),_,PA X (e::es) t,ForInStep GaS,ForInStep HgS,nm out.zipIdx,g i j,_,_,Array DictEntry,λa=>Qc wIx (Qb 1) a,_,_,λa=>.Constant a j pos,hF _ (by lia),lnO p s,.int i t,λj=>(by let#[o,e,c,d]:=id j),λc=>[c.heap.objs.size],_,_,_,_,_,_,t.2.2.2.1,ltc c late,λq' U=>by show PN q' U,_,_,_,xs.map .str,X.fn x=true,_,X.A.units+1,λr=>#[rfl,rfl,r],λj=>Vl p j w part k v,_,_,IntsAre vs ns,_,_,List (TE×TE),t.plain=false,_,Sb.Up t.place,(Zh z.1).star,∃x r,l=x::r,bs'.length<=5,λa=>SqL X.K H a ys,K w.params,Ru E' B' w,PlainAttrs T,(λa o ha=>?_),_,λa=>wIx a (.int i) h,λa=>(by subst this;show a),b<=h'.length,λk v=>IsT s.heap n k v,lo+x-1,Qb 9,USp p out,λd c=>d.trans c.symm,λf=>(by let#[rfl,rfl]:=f),λf=>Nd f (Nn _ _),K.In s.heap,sO (.dT kx),Wt (i+1),0<ws.length,λd=>Value.ref d,t.2.2.1,a.size-1,KF x c.N,λs=>AllBare s.gens,λe=>Rws X.K R e xs,λd=>Rws X.K R d ys,λd o=>BlkOk X d o Nb cp,_,#[#[c,]],λκ=>DecidableEq κ,PMT X a ta,_,_,W5 e=false,_,(by simp only[KA]at e),_,_,pln w=true,(by unfold pln at p),us.Perm vs,["script"],mC VH,e.fs+1,.ref 1,_,vs++dvs,_,λP S H u=>by rw[P.2 S H];show u,_,_,_,_,i.t c a,λx r=>Rws.mono x _ _ r,_,_,λi l B=>(by let#[i,l,e]:=DR.mp B),x="end",λs=>R (.un s l o),PT X a tA,sO (V5 x),_,coLoB c x,fpG aT T1,fpG aD D1,λR T Q=>IV R US T D Q P,sO a,lo+k,Dj _ _,Qx _ _,atP es,top 36,.ref 0,rH h d,λx=>env.kindOf x,λH=>SqT K H a xs,_,R.ρ x,λh=>(by rw[Rws.nil_iff]at h),[a,b,d],(λ_=>?_),.ref gr,H a=sO o,mb d p.2,_,_,aa i j p,(r-l)/2,a.size-1,f x<=f y,JK e≠3,_,_,Nx p s L,_,_,fpG aU U,sO e,by show Rws.nil,Qj7 q,λx=>IsT h n x v,_,λi e=>(by rename_i i;split at e),λb=>FR K R fs b,_,_,λh d c=>(by let#[la,h]:=Vb d c),t b H Q,c.1=nO,_,_,_,_,Ek.mp h,R1.ρ j,c::x::r,List FM,.inl ?_,.ref aW,late<=1,_,UO R US,Qt a,Qu t,λk=>#[k,?_],λX=>PMG X tg b,λn x u=>IsQ s.heap n x u,A[i]?=sO x,h'[a]?,sO σ1,j<R1.N,sO .ei,sO .ag,ι->ι,λa=>Qc Z0 (Qb 4) a,λa=>Qc V1 a (mC .non),λa=>by refine#[a,?_],λo=>h.set n o,_,λb=>Vals b us,λq=>q.lstAt r,λi=>sortedS i,_,_,_,λb=>dif_pos b,λv=>sO (v,[]),sO q.1,_,_,_,_,λA j f d g v a=>(by let#[A,j,f,d]:=g.lstI v a),h0++[.ins C []],d++c,λt c a=>sS gr s t c a,λc=>D.nx a c,λu=>(QC u).1,λc=>f b[c-1],_,_,λm=>h.kd x m,m σ h=ā v h1,_,(by show xdc;·cases e),_,∀b o,PX,∀b u,jgd,xu l j,_,_,_,λo=>AR v c y E o l,λn=>pV L G D C n,yW=ō f,λb z h y c=>by show(xfd b z h y,Au z c),by show ü r;rfl,ā l c,W->Ū,sO ou,λC m=>by show(ż C,Ψ m C),λc n=>sO { cls:=Ι,data:=i8 c n },[Î wu,Î iM],λu=>(by ·show jY e;subst e;show Ţ (xs7 u)),sO xec,á î ϯ,s.heap.get? b=sO o,decide_eq_false Â,λu=>(by show AR e j i p u q;let L:=zLd),λB=>by let:=xpa B;show uX,b≠X.env.locals,(λ_ _ q=>ŕ q),qy h1 b,_,sO (Ä (i+j),h),λm=>by rw[yF m];dsimp only;show qt,λa=>by show wG a,λi f=>PM (xu i f) elt me,la.Pairwise xS,lW l,h.get? b=sO o,_,λu r A n g=>(by let#[u,r,pl,A]:=Ρ n;show gZ),Ci e,_,_,λi j=>sO (jxj,h),λb=>J6 xf3 λz=>ϖ im a b,_,_,_,λx=>Ì [jP5,Æ x],_,qC b k,sO (Î Ry,h),zAd=ſ σ2 h2,#[rfl,ς],_,_,_,_,_,_,j b o e a,_,_,vb w,_,∀a<b,Cg,[Ä i,Ä j],(λp=>vx p),by show yg,jx=ā i x,c.map zrc,AQ L,by show ym v c;apply _,λa=>Qa (á î ϯ) a,Result->Ω,du I,λa b=>show Ů a from Nc b,λi=>by rw[QU i,Ĳ],zqg d f t p,by dsimp only;rw[Ĳ],_,ο d=sO o,MY a=sO d,ħ y,λA e1 e2 e=>(by let#[#[as,A],e1,e2]:=Ĺ e),λo=>o.Pairwise xS,SS k,È->Prop,Ā c k m,Ā z i g,û xk1 N8,zsc jQ4,zsc jKa,zsf jQ4,zsf jKa,_,_,_,Φ b,zvh h1,ã Ž,ã jV,_,P++rN,k b u q,λH' a o=>ObjOk P w H' h' a o,_,_,some tK,ϳ s l,â jQb r,v=Ã œ,some C5,_,_,_,_,jLi=true,out++jJ8,_,[xma,ś],ltc c 0,_,_,Ġ l,Ġ S,Ġ r,_,_,yS t,Μ z,Μ G,ł z,ħ g,jq x,Ŏ m,Ŏ b,Ŏ M,_,Ŏ l,λa h=>(by ·rw[Í a]at h;cases h),λj m=>(by rename_i j m;show wV m),vg b,Ci b,AT j,((Ĩ,h)),_,λa=>Qg 2 Qy a,ä a h,Ϣ f z,ϳ s b,ϳ s a,ű g r,It->Ű,_,x=Ä i,ui a x,jWa->Ň,hint+1,HN c d,λa=>Qa ă a,Mu n A,_,_,(by refine congrArg zri xg9;(repeat' (first|(with_reducible rfl)|((with_reducible refine Zy ?_ fW)<;>dsimp only)|(with_reducible refine Qo fW)|(with_reducible refine QW ?_ ?_)))),Qm (Qc wEq (Qc wIx (Qb 0) (mC (.int 0))) uL),.Call SZ qo [] pos,(by refine congrArg (λd=>Ĵ d (t σ h)) (funext (æ p));show(Ď c h p,A8 c)),_,_,(by subst e;show I1.fpOk ÿ (du I1)),_,(λj=>((os'++g)[j]?).bind xh2),#[false,key .non _ rfl qE jPb λh=>a _ h,rT],_,_,λd=>tS p out zH2 zH3 qjg d,_,λc p=>(by rw[decide_eq_false (λz=>BK z)];show zAh c p),λI1=>I1.hok.fresh (Nu _),_,λc=>mMt "dict" Vp c (Qa (Qb 1) (Qa jE1 Qe)),_,mFn Zs (Qa (mFn Qz (Qa xZ Qe)) Qe),λn=>Eg p out j++((nx p (sq out j)).take n).map λt=>(j,vq),λτ t M=>Inv (Mi.blk X scope cl Nb f H2 C fp wA) [] τ t M,attributeBase o name X.env (v5 o)=pc o,λa=>Qc wEq a (mC (.int 0)),_,drf h n,λa=>Qc ZD a (mC jEi),λb=>.Call xj8 b [] pos,(λt=>t.map λq=>zu5),X.env.scope.names.lookup x,s.heap.push { cls:=Tv,data:=mR },_,mFn J0 (Qa (Qb 0) Qe),wpAny _ A.in1 xk4 _ _ s,_,QX wT,(λe=>(ek e.1,vx e)),unsupported "internal:list.sort.merge-bound",if o then[doO]else[],λa=>PE X (.Call (.Name x p) (e::es) [] pos) a,_,_,_,_,mC (.str "again"),(by let#[g,i,e,b]:=Q.to f;let:=l e b;subst this),Qm xig,_,_,[qb zBa,qki],λa=>a==sysModules,IJ xjj,λc n=>.seq c.toArray n,@om _ _ jRj xp4,_,_,(by repeat (any_goals (first|assumption|wp_step))),_,_,_,rawInt (jX+1),_,(λq=>ne9 (by decide) xqa),Mi.blk X scope cl Nb P U C ex pn,_,_,QcZ i c (e::es),_,_,λq a=>Uw (s:={ s with heap:=q }) e c d (by decide) a,HT.sIx xs.length 0 lo,(λb c v e=>a b c v (x.trans e)),_,_,_,_,_,.Call (.Name x p) [] [] pos,λe r=>(by show zPh e;cases e),Ea (NU (by decide) _) hu,(arrOf st).extract Tz sb,(arrOf st).extract sb zHi,λb=>mMt "dict" Uk b (Qa (Qb 1) (Qa Z9 Qe)),eoD seW jZb,λd z=>show s.heap.IsTuple ad d.toArray from z,λg A=>λa g=>by rw[QU A,if_neg λe=>g e.symm],mC (.str "do"),out.map λs=>lW TW,(apos.endLine==cpos.line)=true,(e::es).length,#[s.way,s.part,s.k+1,false],V.map mvW,λg i t x=>(by rcases Q8 g with⟨i,t,rfl,rfl⟩|⟨x,t,rfl,rfl⟩),∀σ H Q,t' σ H Q->t σ H Q,λz q=>by rw[Qp qbc];show q,λf a b=>Xh (C:=C) (Cr:=Cr) I.hg' I.hb' I.hw f a b,(by let#[as,m,d]:=yr e;subst d),_,Builtin.Tuple.tupleExact _,["program","word","place"],λh=>(by simp only[FN]at h;show my),λb=>(by let#[f,rfl,rfl]:=ge a;show b),(λ_ _ _ _ _=>(h ..).2.1),#[_,b,?_],(Qk prog w).is s.heap k a,_,_,#[way,part,en+1,false],λx=>rk (vs.map (trV h)) xb3,_,_,.int 7,_,_,λa b=>show ObjOk X.prog X.w _ _ _ a from b,_,_,_,λb=>if pB then 1 else 0,behindInMarks op b=false,_,by show bz;omega,_,_,_,mC (.str "same"),_,List (Qr×Nat×zc3),λx j=>(by let#[x,_,rfl]:=uo j),_,λa v H=>(by refine QY a ?_;rintro(v|v) H q;·show q),(λ_ _ _ _ _=>(h ..).1),λb=>M.frame λa b=>NM (M.lt a b),_,_,λe a b=>(by show Ā e a b;·subst e;simp),λa=>starEach a X.env,_,λD=>Ea D (by decide),#[us,[]],_,DctE prog w s.heap d xs,rule "list.sort.gallop",#[r,q.1,q.2+1,false],by rw[if_pos (by decide)],.bool true,El X.K (.ref f)=true,base.Ns mainGlobals mg,(("__debug__":Str)),(((sIx n 0 lo:Nat):Int)),RE c (.Name x p),_,QA 1 (mFn Yf Qe),.UnaryOp .Not a pos,pyNext (.ref it),L.map Qu,_,(by ·rw[q]at c;simp[gvL,gvK]at c),H a=sO qGc,modify (Wn minGallop),(pendingOf st).toList,if d="="then _ else _,λn=>(by rcases n with z|z<;>simp[z]),_,_,_,_,.Subscript a b pos,by simp[JG,dep,Yg],(by let#[i,j,rfl,rfl,q]:=h),LJ K (.ref f)=true,Qa (Qb 2) Qe,_,_,#[rfl,rfl,rfl,rfl],λu=>(by obtain⟨_|r,u⟩:=u<;>rfl),λx=>s.2.2.2.1.push x,_,(λ_ _ _ _=>Qx _ _),rS aT h.length nO,h[n]?=sO (yo c),(by let#[m,g,f,e]:=Q.to b),λa p=>.nx (uq a (sO p.1)) p.2,_,_,RawD s.heap d es ep,by dsimp only;omega,R κ M f a₀ lo st,h[n]?=sO (eoD ei l),_,Eg p out out.length,_,∀b∈fp,t b=nO,L.map Qj,sq out s.2.1,_,_,mg x=sO (.ref f),(by show zUd;cases e),_,lZ a=true,_,_,_,.Name x j,.Dict [] [] pos,_,_,fin o n j i C D,_,λr=>congrArg List.length r,sO (0,"Growth"),VY (v:=.non) ?_,_,_,by simp[dep,Yg],sS gr s t x3 x4,(Wd p).map .str,NF xq8,h++[.lst []],by simp[ch],sizeLine=16777216,λe d c=>s.heap.IsSliceOf e d c .none,_,G.length<sizeLine,_,_,(K w.params).In h,_,_,_,ls.length<=100000,_,s.way.map zce,bind _,_,GaR f a b n r,HgR f a b n r,_,mC (.str "or"),_,(L.take k).map Qj,(lns p).map Qj,_,by unfold Ki;rfl,_,_,_,_,_,_,_,by unfold Zd;rfl,A.in1.handled=nO,Wf n e x,(λ_ _ _ _ _=>rfl),λe=>(by let#[e,part,k,head]:=s),trS s,cd "end",#[nO,rfl,rfl],_,_,λx=>X.env.cells.lookup x,λb=>HT.sIx b.length 0 lo,λl=>LineOk bs ws later l,(by show d (λ_=>rfl) e),[(s,t)],λf s=>f.get? s.heap.objs.size,(by unfold Rws at h ⊢),λa h'=>Q a { s with heap:=h' },sO (thW t),_,by simp[RdL],_,λf=>(by let#[ad,g,rfl,p,_]:=f),PI X tg iter wi,b w σ h=lN,λf=>by rw[NH,NH];refine .cons ?_ f,λh=>Np h (by decide),List qV3,p[s.part]?=sO x,λz a=>(by ·let:=Kz (x:=x) (i:=i) z a;lia),.type "list",_,_,stW p out,_,_,_,_,_,Yx p,_,_,_,by simpa only[ltN]using h,_,_,λd b=>show d-1<b.size by lia,_,_,Qb 11,SqL X.K H a xs,SqT X.K H a xs,_,_,_,NoAttr X.K C f,fs.length<1000,_,Slot T name id,_,SqL K R.F a xs,_,RawD h d es ep,Mv lo hi xs ys,xb0=nO,by rw[hd];simp,_,_,([]:MH).length,.lst _,tOp r ta tb,λg=>ZY (drf h 40) g,by simp;lia,c=(nO,()),(by let#[x,i]:=h0 p),λa=>(by cases e;show .flat rfl a),decide (x∈l),_,DicR K R a kx,ZE t a b σ h,((x.1,x.2.1,a)),DctR K R a kx,λj=>(by rcases j with rfl|rfl),s.2.2.2.2.2.1,s.2.2.2.2.2.2,_,_,λa=>mMt "list" Qfl a Qe,by simp;omega,(Bx p).length,b[i]?=sO x,.own x,_,_,_,_,_,λb=>Fun K x b st f fd,_,out.push y,_,trV s.heap,_,λc M=>λb o c e=>M b o c e,c=xsf,_,_,_,_,c=xsg,_,_,_,λa σ h=>Jf items nO b body a σ h,_,(by let#[rfl,h]:=h),by ·simp[QF,Qs,b,a,ch],_,(λ_ _=>False),_,_,_,ns.length<=n,q.gsub a u e,items.drop i,ia+1==a.size,(λ_ _ _=>rfl),.int q.1,.str "first",_,λo=>(by unfold JG at o;simp at o),λa=>Kd K R h H n v a,λf d=>#[f,iter,d,0],λO=>O.reverse.map cd,.dict #[],(by simp only[Et,b]at h),_,s.2.2.2.2,_,[Qj l],λo=>Nd qec o,A.length<=j,Ig K C=true,IE K C=true,_,_,_,_,_,_,_,_,_,sp vs H Q E,_,vs[i]?=sO v,_,_,List (V×V),PMA X es ms,OpM X.K r f,_,_,λb=>(lsW h a).map λws=>b,_,_,_,_,_,λP=>(by let#[x,l]:=aj i P),_,_,(X i x l).2,(Z i x l).1,_,c out ia ib,minGallop+1,c out na nb,_,Two f M a b,λd=>by show(ut d,this),IsQ h 8 t v,(ps[i]).2.1,(ps[i]).2.2,3<=sizeLine,λx c l j a=>(by obtain⟨x,c⟩:∃x,l[j]?=sO x:=a),λV=>List (Option V),λb a o=>ObjOk X.prog X.w b h' a o,λk=>.Tuple es k pos,_,.dK b,λW=>Option (List W),Rw.str _,_,_,J.swap h,Wn mg st,Bx p,Ap g s,λH=>SqL K H a xs,Sg st d,_,_,_,_,_,(k==0)=true,l.length=n,_,_,_,_,_,_,_,_,_,_,_,_,_,_,_,_,J.stop i H,Vals vs us,_,Ro K R o u,nrm w=sO k,_,pln a=true,_,(by unfold dep at d),Ye ws=true,atKey xs k,ib==b.size,λa=>h _ _ (Sg.refl _) a,Sb.Ex g h',(k.fc r).1,(k.fc r).2,g++[dsD],_,gL U (s,l),_,h0.length+2,h0.length+3,λe t=>(by let#[e,g,d,t,os]:=s),.rt w h,_,R1.ρ n,i.t c q,.dct [],rH h [],.tup ys,.d n,λl o d=>(by let#[f,fd,F,l,o]:=d.ex),k+1+i,bxs p,λo s=>Th R o (sO (l,s)),λi g=>A.cl _ (Vu i) _ g,Option HO,λh e=>h.symm.trans e,PA X es t,tIG X.K b,tI X.K me,T=="list",T=="dict",dep a<=40,if_pos hd,λh a=>DctE prog w h D a,[nO,sO 2],ls[e.fs]?,λa=>(kst c s).bind a,N<=100000,fpG aW Wr,wtW (s,t),E.map seW,q∈pls p,s.2.2=box,t.1=nO,λe=>congrArg sO e,λa g f d j=>(by let#[a,g,rfl,f,d]:=j.tupAt r),QaD hu,by rfl,hint+o,hint-o,λa=>ForInStep.done a,lo+n-1,top 37,Dp g s,by show True.intro,λa l=>LineOk bs ws a l,.int i t,H b=sO u,J.go i H,λH'=>J.yld i H x H',Room k A,r.map V5,Bool×MH,p.1=true,fpG aK K,Q.back f,List Thg,e.1∈US,TG->Prop,fq g i k,QbF i,λe=>eval e env,w::ws,((true,h)),Qb 10,Jn (x:=x),λN=>QiZ gr s t N,mvQ g,by simp only[Et,b],λm j p=>(by rintro x c m _ _ ⟨j,p⟩),sO .oo,(by unfold Wm;rw[e]),p.1=q.1,.bool b,KV a vs,((g:Int)),Cls K C,λv n c=>E9 (K8 I v n ?_ c),min k n,((b,p.2)),eqW a x,ms σ h,x.2[k]?,pure nO,h.2.2.1,max i c,sa+k<=j,λa=>Qc Z0 (Qb 0) a,s∈out,.tup [],.ref aT,fpG T G,key f e,sO x,sO (.int 0),sO l,b::r,λd=>IsPart d lo,λc=>IsPart c hi,λp=>q.sub p u e,QS l,Zw a,eqW x y,IM _,sb+t,sb-1,Zn 7,Zn 4,GX a,λc=>tS K c D σ H,λa=>Glob K mg x a,(by let hit:=st.2),by infer_instance,Yn a,xs[i]?,r++[q],R1.F a,Ki a b,j∉js,uniq l,arr[i],j<sb+e,f.ok Z,sO .en,y∈bs,Rc p t,a≠aE,Dp g t,Dp g (sq out n),λo b=>G3 H (Jv o b).v,.int 1,.int 2,rH h d,rH h T,λt=>PSs X st t,λs=>.int s.2.1,λc=>H.d.lt a c,nrm p.1,λI L=>I.hok.fresh L,λt b=>t.fits b.size,λd e o=>(by rintro c d ⟨rfl,e,o⟩),(by simp[plN]at e),λc=>f a[c-1],λk=>.int (k:Nat),hS9 p w pl r pS pZ pT pY zK x10,[sO jQ,Ϝ s,rR,ō i],∀b xs,zj3 xe2,by split;·show zj7 xe3,[sO Sk,ō r],by show(xj j,xh1),sO (Ì zI,h),#[uD,[]],zqa=zH l k,H l=sO uB,jG zmc,jG zl9,Ā g b a,đ i,õ x,zsh b,ħ d,ħ u,lI e,yW=sO u,u6 N,Ŏ h,Nat->M0,jS6 j,0<j/\zAb,Þ F,ϴ h,ϴ a,ϴ d,Ġ p,Ġ d,Ġ I,yV z,zG0=sO w,Ac f,cS I,Nat->zyf,MK+1,jT4 p,k4 l,jZ9+1,zvh o,yQ g,yQ j,yQ q,AT q,uF r h,[oe a],gL T s2,∃x,vw,λt c h f=>by show(ū,Ψ h f),λt=>chS ns st bs ws c jvj Bf ou zmf xrf qc0 xq3 t,λc=>H b=sO c->H' b=sO c,λa j q d e b=>by show qj j q d;refine b,λa=>sO (.int a),(s.heap.push { cls:=wN,data:=zr8 }).objs.size,λa=>by show Ţ a,λe=>AS jxd l (g,a) jlf e,#[rfl,l,o,rfl,q,d,g,λ_ h=>Ñ],λa b d c=>EL x a qX ψ Ŵ .none kV b pm d c ct,λg e=>#[rfl,Ø #[_,rfl,g.doneB wT9 (ħ e)]],λC B z=>λa C b B e=>z (jB6 B C),∀b o,b≠a->ji->zo3,SU Be x9,Obj.mapSeq λ_=>(#[]:ľ),∀j v w,ë zn8->xmf,I.base.free b o e n a,λa j=>(by let e:b=a.heap.objs.size:=ĝ j;show dk),(λq=>Ì xfe),X.s₀.heap.get? b=sO o,gX=sO u->jj h'=sO u,sO { cls:=Ι,data:=zxc },∀b o,ji->zo3,∀m ys,1<=m->m<=a->xgj,λa=>Qm a,(by let:j=k+1:=Ñ;subst this),xQ xf4 Q E,á ă Į,λa=>∃i,v=Ä i/\a=Ä i,λd=>(by let#[d,_,p,_]:=Ρ q;show xpc),λd=>(by let#[d,_,p,_]:=jU q;show xw4),by show(xha,ň a b i g d h),λi g c=>#[_,_,i.int_eq,g.int_eq,į c uZ],λu q n c k=>(by unfold XM at u;show jk q n u;by_cases c:q.1=k),by show(ŧ a b I q h,xnc),(λb o e=>ŕ e),Ć l (yG A j L),á ñ AM,(λ_ _ h=>Ø h),λe j h1 L M=>#[e[j]'(Ng (Ng h1 (ħ L)) (ħ M)),Nj _],Nd qo1 oO,S3.to Tq Az,us.Pairwise xS,by show(xm2,wP c a j b m),Ę R1 H1 g f,jF5=xs.length,I.freeC x c e,λo x q=>(by let o:j=lo+x:=Ñ;show xl1 o q x),ã þ,jCa jt3,[QO p,Æ w,JG q],(jX+qz3*1).toNat,∀x∈ks,rB,∀x∈ls,rB,sO (Ä (i*j),h),λd=>oM->ke d=sO o,á ă ϯ,∃u,ke e=sO u,λa=>if jR5 then sO a else nO,wP c a f b xo1,#[_,ų,rfl],w5 t/\n<=cT+c9,[xh3,Ť,Ť,ś],Ì [Ã a,Ã b],λx w y=>Ì [zyi,Æ x,Æ w,Æ y,Æ x],[ė,Ϛ,sO ε],q _ (du I),#[1,Ú,rfl],sO (ö zIf,h),#[yS a,h],∃r,zud t,ą þ,[Ì yM,Ä k],sO (Î nS,h),Þ mW,λe h c=>(Ii (ú e) h).mp (cL e c),λu=>(by rw[Ð u];show zy0 u;subst u),λc=>.kp (qy h1 b) c,ź H I q,((İ h,xmd)),Ϟ y++zsj,á ñ Į,SU x8 x9,sO (Þ xri),[Î (zrh j)],λT'=>t∈Ĭ T'->jS\/xtc,λw b=>by show jN5 w b;·simp[eqW,z],Ġ j,jj h'=sO o,À W->Bool,uY e=sO as,uY d=sO bs,jh i=false,out++jMd,zb0/\zt1 t n,Ì [mK,Ct],vE\/pf\/fz,sO (Þ yI),y++[Ť],qy h2 a,qy h2 b,by ·show Ţ (cj k),jj g=sO o,sO (Ź k),by show(ż r,xob),ì dg xsb,zr0 xn1,zr0 xme,by show(ż r,xn9),wE=sO xuc,Mq->j<=MK,lt' x key,lt' key x,jh i=true,jK2 t D,jK2 v z,if_pos jU4,qh4/\jD4,jJ xkg,pe++st,Þ xrg,((ca,m,b')),m à B,sO (jZ,h),MX h,λc=>d<=j->Ε c<=vW,ĳ+1,Ï i b a,Đ a d Q,wD=sO jQ6,o.cls=yH,wD=sO zre,jRe=sO as,((Ä i,h)),((Æ x,h)),Unit->Ň,λj c=>(by let:j=c:=Ñ;subst this),by (focus (show de)),lo+a<=qw,lo+n<=qw,Bo Ž,Bo þ,ã dL,λe=>(by show zva e;·cases e),u0 n L O,t∈Ĭ c,fH R T Q,Tx<=3201,Þ jTg,ϳ M D,λh1=>(by rw[Nj h1]at this;show uX),λe i j=>(by show Ā e i j;·subst e;lia),λj i=>(by rcases q with⟨j,i,q⟩|q),forIn ifs true λc r=>if r=true then do let ok <-isTrue c jEb xib;pure jPh else pure (uS r),(a.map λ(n,k)=>if(zqi n)then xq0 else(n,k)).lookup x,λs H O a=>Mi.blk X scope cl Nb s H C O a,λM=>λe M=>ξ (model prog w) xge M,λn=>k==NameKind.free&&qi8&&fQ n==π,mC jEi,λa=>.ListComp elt a scope pos,(by obtain⟨u,x,rfl⟩:∃u x,l=u++[x]:=#[l.dropLast,l.getLast (λz=>by rw[z]at h;cases h),xse]),λb=>by rw[show Wp f v xs9=xii from rfl];show Ā b k f,by refine#[h',e,_,_,_,_,_,_,_,_,b,æ x];apply _↔X x\/_;rw[<-q],((match zf3 with|Û o=>sO o|none=>if zu0 then H1 a else nO)),[.ins C (rlF (uf h0) bL bM (h0.length+4)),ś,Ť,Ť,Ť],∀sh x y u v,pF x->pF y->lK n x u->lK n y v->LtAt A s u v (ltN n x y),by show non jDh jVf,.fields #[.int lo t,.int hi u,.int 1 v,],(s.heap.push { cls:=wN,data:=jK0 }).objs.size,zD8/\(i6 a)=false/\∃vs,zY2/\h.DictOf zH1 a vs,(by let hd:Ks h (.ref T)=sO (G.map dP):=by simp only[Ks,M.d]),(λp=>xhc),E5 K (.ref C) "__setattr__"=sO xjh,.builtin id,mirror ys xl0 zH5 xp6,(enS Tl).map seW,λn=>((List.range n).flatMap tf).map JG,forIn _ _,L++[jO5]++[(jGe:Ln)],Rws.pur_mono b ws xs xl3 c,λb h0=>(by let b:∀(k:Nat) (l:MH),(h0++l)[h0.length+k]?=l[k]?:=λk l=>by rw[Ei (Nn _ _),E1]),λj f g d=>by show(kE j p f,kE g q d),λb=>mMt "dict" Vp b (Qa (Qb 1) (Qa Z9 Qe)),(λp q=>zLg),λa=>mUn a (mUn xla (Qb 0)),(by unfold XM;rw[FD];refine' D9;intro e _;simp only[Function.comp];split<;>rfl),w.params.followText "set-order",c.heap.push { cls:=.type "slice",data:=.fields #[g,vu,.none,] },[.str "again"],(λh=>Qi (g:=[]) (by simp) xn7 rfl),FnOk P w K mg base CX0 k f fd ps xmj,λb=>.BoolOp .And b pos,rn++[.tup [.str "do",.str "n"]],(Builtin.Range.rangeSize lo hi c).toNat,λb=>.BoolOp .Or b pos,λe=>λ_ _ e=>e.elim,λb=>if b then 1 else 0,.builtin "type.__call__" #[.ref C::us,a],(b.extract k (c-1)).reverse,Zf (λb o z=>d.sub b o (x.f b o z)) l,λt n=>Lh f a b t.2.1 cT c9 n,λa=>(Qk prog w).keeps a f hd vF,(q++[.tup [.str "again"],Qj e])++M 2,by let:=congrArg List.length hd;show pH;omega,min (a₀.size-lo) (minRun' a₀.size a₀.size 0),ϣ f=sO xm4,Qg 2 QH (Qa (Qb 0) (Qa (Qb 3) Qe)),(λa b=>decide xlj),Nl xkj,λs a g p=>show s.heap.IsTuple a g.toArray from p,[qs5,["tell",y]],congr (congrArg bind ?_) ?_,(by obtain⟨f,rfl⟩:∃k,f=k+1:=#[f-1,by omega]),backTo pos jL8,by unfold pur at p;unfold th;rw[Xc f ws p];rfl,backToKw pos xmg,ws.length<=sizeLine,qD8 k=true,seqObj "tuple" vs.toArray 0,∃j,mY/\lO/\zf5/\ly=a,(λx y=>ltN 8 y x=false),λo=>aS r a l h1 h2 (sO (gvW l)) o,(by let#[i,P]:=ai x hm;let#[D,t]:=ae i x P),cm (sO (0,g)) xr0=true,((e.1,q.1,q.2)),(s.heap.push (QX (Ku w))).objs.size,Qhm zPf rfl xli,k b o (λz=>a (by simp[z])) e,sO (Qu s),(qN4 i)\/(qN4 j),λe=>qt8->bindArgs e nC=pure TD,λa=>Paired (λp q=>Rw K R p.1 zw1/\zg4=z8/\Rw K R p.2 q.2.2) a kx,λt=>t.1=sO r/\zDe,aS r a l h1 h2 (sO (gvW l)) nO,rS aT h.length qC0,x=="__debug__",gwF r aT aD aW,λb=>λa (p,j)=>a.setIfInBounds b p,b.h _ (O _ f c A a s H E e),ZA qB5,λa=>(by let#[o,a]:=a;unfold Zz;rw[hi,Nv];show j9 a),l.map λx=>(ei x,.bl true),tS9 p g box w c false nO nO nO nO,(by rcases q with q|⟨rfl,rfl⟩;·show q),envOfC b a s.heap.objs.size f cd,λb=>ElemsOf jSb b.toList,(by rintro⟨e,B,rfl⟩ ⟨j,i,rfl⟩;rw[Wj B i]),Dl C s.heap.objs.size,λa h=>λ_ _ _ q=>Z3 a λ_ _ e=>Z3 e λ_ _ d=>h _ _ _ _ d,λe=>(by simp only[stp]at e;split at e),λT D Q=>Clo (RrG E K Wr U) T D Q P qBj,GoodP 100 bs' ws (pin g il p),λs=>Xh (C:=C) (Cr:=Cr) I.hg I.hb I.hw A hw s,by split at h<;>split at h<;>omega,Paired jMg ks us,Paired jMg ls vs,λo=>Np (Nn _ _) o,λv=>rk (vs.map mj) (trV s.heap v),[.ins C []],I.hok.fresh (Nu s.heap.objs.size),.ref q.2.1,hS9 p w pl 0 nO nO nO nO nO nO,λf a e=>(by show Ā f b a;·subst f;rw[ZL]at e;cases e;show new),.Call xmc (e::es) [] pos,HT.sIx items.size 0 lo,["tell",box],λf=>(by let a:(g==f)=false:=qBi h),Qg 1 JB (Qa (Qb 0) Qe),[("or":Str)],λa=>λn=>(Bx p).map λb=>(a,n,b),0<=j/\zQe/\i.natAbs<2^64,λj c=>by rw[show n+(j+1)=n+1+j by lia];show c,λO h=>#[O.dropLast,O.getLast h,(EU h).symm],Jt C "put" 3 xx6 mo ms,λh=>(by rcases z with rfl|rfl|rfl|rfl<;>simp[wdL]at h),i _ _ _ q,(ZY (drf h n) ws).map .lst,mirror xs i j qd8,byS ns st mn bs ws nO nO nO,lnO p qM2,Ez ?_ jV8,NJ.mpr #[_,f,rfl],mC (.str "n"),(("new":Str)),λf j=>(by rcases Q8 f with⟨j,u,rfl,e⟩|⟨y,u,rfl,e⟩),λq D m=>N2 _ (Ng (q▸I2.lt:D<f.heap.objs.size) m),mi σ h=sO xra,.builtin "sorted",λh=>RB Cr n b h r aE aK aV aU E K Wr U,(d==sysModules)=false,j.set i (eoD thW (x++[t])),.seq vs.toArray,sq out e.2,eqW a b,JJ ((k:Int)-1) (-1) k,QaM (Qa (Qb 2) Qe),mC (.str "none"),(bxs p).map .str,by show Np (Nn _ _) hu,λe=>(by simp only[beq_iff_eq]at e),λc=>mUn c (mUn xp9 (Qb 0)),X.env.kindOf x,b<s.heap.objs.size,Rws.th_ok c l ws b us h1 d,h0++MO.ins C fs::l,Qs more m,.frz (ns.map W.int),c.inn qed b,Al (pin g il p) out',B.sub x c e,w.params.setOrder S ep,(s.heap.push _).objs.size,Wf n,by rw[N9,N9,DU,QaL,QaL];show yq q,Value->Prop,x.length<sizeLine,c.2.2.1+c.2.2.2.1,.str "pair",λN=>(USp_in.mp (N.th _ _ h).1).2.1,([]:qSc).length,Q nO { s with heap:=h' },#[[xa3,a],[]],SetTable.below t.place c,∀c st,MM qj5,[("own":Str)],seW e.1,e=x\/H e=sO m9,lev (ls.map cdL) k,qH (met++[s]) st,λa=>(List.range a).flatMap tf,λs=>[.int s.1,zg2 s,.str s.2.2],λj i g h'=>(by rcases(j i g).mp h' with q|⟨rfl,rfl⟩),Zz fin mi cp b mt me,.cons (a:=p) (b:=q) h t,List.range ns.length,by simp at h;show h,by simp only[NI,Da,or_false,not_or],by rw[OJ];kernel_rfl,lex (ltN n) ks ls,.yield xug,b.extract (c+1) zWe,G++[(k,h.length,[])],(λa b=>NI.mp xvj),Wd p,λq=>NV _ (qc (VS q e)),λa=>Qc ZD a (mFn J0 (Qa (Qb 1) Qe)),λd=>(St.uniq_mem _ _ rfl y).mp d,H.sz.2.2.1.le (Em _),H.sz.2.2.2.le (Em _),b.length=n,j<1073741824,X.A.in1.units+40<cLine,body σ1 h,∃o,QgH cp σ=o::caps,items.length<=sizeLine,Str.ofString "keys",λx b=>(by rcases x with⟨t,rfl⟩|⟨b,rfl,rfl⟩),λf=>(by let a:(g==f)=true:=beq_iff_eq.mpr h),El K (.ref C)=true,λb=>HT.sIx b.length b.length hi,λa=>Qc ZD a (mFn J0 (Qa (Qb 2) Qe)),Np xtf h,ObjM s.heap x dx C mA,.Attribute e f pos,-18446744073709551616,s.heap.IsList l items,below.go xs j f lo hi,<-elem' b ib,<-elem' a ia,K1 met,(by injection h with h;simp at h),λk=>List.replicate k b.toArray,DL xsh sa,H.sz.2.1.le (Em _),Qbj X pins H b,by simpa using hu,d.params.defaults=[],List (Str×NameKind),.type "set_iterator",λa=>((lns p).take a).flatMap bxL,(by unfold YL;simp only[H.i];simp),λl=>by refine#[l,?_,?_];·show Qhf e,(λ_ _ h=>xcj),λj h o q=>(by let#[#[cls,dd,data,j],h,o,n,hd]:=id q),λq e=>by rw[q.len];show(Nk.mp e).1,(pendingOf st).back?,PGs X es qti,ys.length<=sizeLine,(λf vs=>YaM f vs),Zg (mC .non),cp.length=Nb.length,λb a=>∃b,v=.bl b/\a=.bl b,sO (a x)::caps,(la.drop ia).take k,vs.length<=sizeLine,standAt apos.atName,Qv (Qb 5),λd=>RelO (fs.lookup f) (d f),λr i=>(by subst z;rw[r]at i;show i),(hi-lo).toNat,λA a=>Env0 P w K mg base A a s H,(λz=>c z.symm),λa i j=>by apply F f a i<=F f a j,λc=>#[_,Nj (Dz.mpr c.ne)],(x.2.take g).map Qj,(x.2.drop g).map Qj,o.data=.dict es ep,b.length<=sizeLine,z.length<=sizeLine,L.length<=sizeLine,eval iter X.env,∀b∈O,y b=nO,Rws.mono e ws xs d,Ro f a b r,(by let#[n,rfl,hn]:=VP e1),I.ok.hd hc,wT9.mb _ _,wT9.ma _ _,(λz=>(no _ z).elim),sS gr s t y3 y4,(by rw[<-ft1]at this;show this),JD o d H h,λr=>CallR X (.type T) r,λb h=>QiS H qf0,f b _ q λz=>z,.builtin "len",a.length<sizeLine,L.length<sizeLine,List (Key×Value),putSet_of b t' hd,by simpa using hi,es.size<=sizeLine,xs.toList.drop se,(Zh h).stE _ _,by unfold pur;rfl,.do (by simp),λG k v=>Wm G k h.length v,λb a=>t=mvT d b/\Th (Ru E B w) a b,by simp[Qj,Ka],i^j.toNat,(QdZ kx k).isSome,Ks h (.ref n),λh=>SetL prog w h a ks led,λr=>lsO vs.toArray r,λa=>ZR a "things",ixS out s,λx=>(ins g il x.2).map cdL,Nl (Nl ?_),by simp only[OZ,Ee,if_false],.type "tuple",(Qe3 h H).get? b,b≠X.env.locals,b.size<=sizeLine,Value->Sem Value,compareOp .Lt,compareOp .Is,(a++[x]).length,Qd0 a p.1 p.2,(by rcases below n b with b|b),items[i]?,cl.lookup x=sO c,Qk X.prog X.w,(by unfold Ro;rw[N9,N9,XY,XY]),by push_cast;rfl,(by rcases new a b with rfl|q),by simp[WrL,UnL];constructor,RdL qv7 b,s.2.1<out.length,(x::r).map V5,Q (.ref a) H,λi j=>i.cps.toList<j.cps.toList,λp=>Ea p (by decide),λn I=>λo e=>n I (by simp) o e,u.2.2.2.2.1,λg e=>#[_,rfl,g.doneL wT9 hT e],L.length<=2,λE a U=>RH C (n+1) h' r aE aK aW aU E a Wr U,λa=>Qi (g:=[]) (by simp) a rfl,((Sum.inl a:Key)),((Sum.inr a:Key)),JP P w,sO (.int j),sO (Qu (sq out j)),λb=>swapsWith e b pos.line X.env,lo+m,.List es pos,Ny this.symm,Qe3 c.heap H,mC xuh,inplaceOp op,Rws X.K R ws xs,List (Str×Int),base+j<arr.size,hint+l,hint-l,lo+a.snd.fst,lo+(l+r)/2,sb+e,λq a u=>(by let N:=s2 sb q (Nu _) a u;show ES O N),lo+n<=a₀.size,λy x=>ltN 8 (trV h y) xb3,Qj (x::r),#[a.up,a.le],[.i q.1,.i q.2],List (Spt×Nat),byH [] [] [],(by let#[i,rfl]:=Qef z),by simp[bxL],d.length+c.length<=sizeLine,xs=[.ref p],λd=>HT.sIx d.length 0 lo,Zg (Qb 3),λy=>env.cells.lookup y.1,Uq (Qb 2),a==b,by rw[Ls _ rfl];show Nl h,h.objs.size<=a,Array GenState,binaryOp op,((sizeLine:Nat)),Room k callerA,(λ_ _ _=>False),Yj ws lo hi,List DictEntry,nrm (Qu s)=sO (trS s),[.Name x pos'],((sa,z+t,Z)),(λ_ _ _ _=>rfl),(("do":Str)),Qu q.1,(lns p).map Qj,λh G=>MM ek xv1 h T G,by simp only[KA,De,Fe];rfl,T.length<=1600,wtW (s,t),a _ (f _ d),λo f d=>(by simp only at o hd f d;subst o hd f d),λf=>(ths f ws).map .lst,U4 true,f x<f y,arrOf a,λm=>by rw[<-NC];show m,λd=>of_decide_eq_true d,a<h.objs.size,sO (.str w),TP X a b Q,by rw[C,g],Nc ?_,start N vs,Rst K R' a σ,upd R.F p o a,Qc f ma mb,PMA X [a] ms,Nq.mpr rfl,x.cps.size<=i,some (.dic _),some (.dct _),R.N+js.length,MSt->MH->Prop,storedH_old u,by simp only[lex,if_true],by show FC _,λp=>r.toList[xae],#[rfl,i,g],QcZ i c es,coMo.h X k,["lines","k"],cd "again",.str "second",(by cases o<;>simp<;>omega),QiZ gr s t,(Wd p).length,V0 x C M,λH'=>HOk X.prog X.w H' h',λf=>I.lstM f,zcj/\Rw K R p.2 q.2,λn=>QV t body n σ2 h2,.int ep 0,λg f=>show sO []=sO g from f,λs=>Chn p s.way s.part,λI=>by simp;show I.ln,b∈bxL l,(i g).2.1,xs++ys,.bl false,PA X [a] ta,NoAttr K C f,us++ds,.dK [],W->Option Tr,i<x.cps.size,wIn false,TabIs es tab,.seq items n,us.zip vs,Ui wT9.sa,lo+a.snd.fst,2<=vs.length,f.d=d/\f.x=x,s.head=false,qH met st,q<out.length,h1[a]?=h[a]?,seW e.1,UO (RrG E K Wr U) US,Ap g (sq out n),λj r=>λc v j r=>k c v ?_ r,λg j i=>(by cases g;let#[u,rfl,j]:=i.one),λa b f c=>I.lset (its':=a++b) f e (by simp) c ?_,λa=>by rw[Nz];show Nd a z,λa=>Rw K R' a (.ref p),λa=>Rw K R a a,λI G=>k I (by simp) _ G,λx=>Txt.slice x lo hi,v+(1+rem x i (d+1)),[Value.none],(by injection e with c _),H l=sO (.lst xs),Addr×Value,(λ_ q=>q),frs X.stack,lo+a,(λi _=>n<=i),(j-i).toNat,Lw K C=true,i<vs.length,n<=sizeLine,l.most=sO n,sO k::ks,Rws R ws xs,.l n,y.2≠.cell,.int 0 0,wIn true,js[i]?=sO j,Qn a b σ h,l.take i,#[rfl,?_],a.size-n,gallopOf st,((lo,n,0)),(Zh h).star,(h.loc k).1,(h.loc k).2,1<=sizeLine,out.idxOf t,k%ns.length,by simp[QL],((st:Nat)),g++[dsD],λa=>Yj a xxc nO,if_neg this,[MO.dct []],ys.map f,KP _,LnO bs ws l,λe=>(by let#[u,rfl,e]:=Kk r),#[_,a],λc=>sO (.ins C c fs),λa=>by simp only at a;split at a,lo+hi,λa b=>CalD P w K mg base a x ps b,s::st,λa b=>Gr (x:=x) (i:=i) a b,λg j=>(by let g:=Ve H.i;let j:=Ve H.e),wds p,d->c->Prop,v=.str x c,IsT h n,h[n]?=sO o,trk h H,X.pn++pins,(λp hp=>?_),j<=1000000,!d.isEmpty,U2 I.hok e,(λ_=>nO),Mk X.K C f,false=true,.bool true,R.F a=sO o,R.G a=sO o,.frz ws,sO (ws,nO),QdY X id f,Qnb o=true,ms σ h,a=h.length,below xs j,t.led=true,t.led=Ku w,IsQ h n,i<arr.size,s.2.1-1,a.2.length,List Qd.Kv,cd "again",Nd A hN,(by cases I<;>simp at h),2*O.length,((late,n,b)),((late,s.2)),KeyE ei et,Qr×Thg,a≠gr,nO∈e.2.2,mvd g q,QJ C Cr,#[j,i,q],#[H1,I1,f],#[rfl,q],k.ext g,s.2.1-1,λt=>by show E2 t _,λe q s=>(by rw[NH,NZ,NZ];by_cases e:q.1=s),λg=>λa c=>e a (g a c),Sum.inl b,Sum.inr b,((nomatch e)),Jb q c,Mut (H x),k b o a e,NT _ z,tb d H1 Q,PS X st t,i != 0,(λ_=>true),FV _ _,Ext R1 R2,ws++us,.r n,.dic a,QA i m,Gc q,pure true,x.cps[i]?,sO "list",Array Nat,i<es.size,es[i].key,PM X e me,Zw rfl,Wf 8 sh t,NR c _,u.2.2.2.1,Top f a b,n<=a.size,c<=a.size,d<=b.size,c<=b.size,λb=>pure (sO b.snd),Mv.refl _,(by simp only[plN]at e),k.ix i,k.ix j,.Name x _,λg=>g.h _ xx4,(Zh h).ix,[nO,sO 3],a.fs+1,CI ls k p,cdL l=.ot,MSt->Prop,qH met st,ixS out s,byH L O g,l∈lns p,et k,((k,n,[v])),(Q.v b).1,Sp.refl _,sg g j,WX b,QdF pl,Uc Q x,λR=>Rst K R σi σ,λa=>MSt->MH->Option a,λe l=>(by let#[j,e,l,rfl]:=ZW g),λc d=>Lh f a b c d out n,k b ob q,b∉X.fs,id I.loc,.bl a,Vals c d,Int->Int,F3 _ _,m _ b,Rw.int _,x.ρ n o,(by by_cases hm:x∈A),FW _ _ _,ks++[x],λP a g=>P a { s with heap:=g,toks:=tk },c+1+k,t.set mg,se-sa,JK o≠2,JK b≠0,JK o≠0,λa=>Qc ZD a (mC (.int 2)),by intro _;show rfl,NJ.mp hw,Qat q,e.kd=.ag,Ln->Prop,(λ_ h=>h),plW t,QL bs,QL ws,(by simp[gvL,gvK]at a),λt=>Value.str x t,λt=>I.freeC x c t,λr=>r x lo hi H Q,λg r=>(by let#[v,g,_]:=r.get e),λa=>wIx a (.int 1) h,λD=>λ_ _=>D,λu=>GaL f a b n u,λl=>by show NF l,Nj b,Nj a,Ny d,KV b vs,d c _ z,d b _ e,r h _ (by simp[bxL,rdK]),sO p,sO .non,((0:Nat)),Dh d,NF b,a++b,h++[.dct []],h++[.lst ((enS (d++[e])).map seW),.lst ((moS d).map mvW)],L++[([("end":Str)]:Ln)],c++a,by dsimp only;split,[(f,v)],YaP _ _,n<R.N+1,QS n,[a,b,c],W0 k ws,hr 3,rep x n,‹_›,pure (),FC _,u.2.2.1,h.2.2.2,ia+k,sh0::shs,[nO,nO],Zu a,Qj e,cd "or",cd y,s∈met,lnO p s,W.int 1,seW q.1,(g y).1,(g y).2,Ap g,cm pl t,i==j,λH=>HOk P w H h',λe=>λ_ _ _ e=>e,λr=>(by let hl:=r.length),λd=>by rw[d];rfl,λi c=>(by let#[i,J,c]:=I.look),λl r f=>by rw[<-l];show r f,λH s=>HOk P w H s.heap,λb=>#[b,rfl,rfl],zj4 a j q d e #[R,f,h,a,j,m,st,q,Ϻ x i g l],(by rcases b with z|z|z;show(Ŗ (đ z),Ŗ jdc,š z)),zj4 a i o j e xd8,(by rename_i g;show(jh7,xg5);cases O;show Av f n L G),Qa xdd xd9,(by rintro(h|rfl);show(š h,Ŗ xf8)),ť i v1->ť g c->kQ m->B9 c l->xe8,(by show(xfj,xeg,jgj o c);by_cases w:jXg),ť m v1->ť l e->kQ p->B9 e o->xe9,by show(xoe,š h);·show yU,by show(Av c e y w,ű O r,jgj q e),by show(uw g e0,jh7,xfb,xf2),[sO jQ,Ϝ s2,Ϝ o,ō i,O],yx xdb,λa=>by show(ů g z,Ŗ a);·rw[ĸ z];show jv,by show(je d j e2 e c i Z,Ŭ Z xt2),by show(Am g f,Ψ z d,xr5),Î (out.zipIdx.map zjj),[ō r,Ϝ s,Br l,Ϝ o],∃a xs,ϒ/\sY H/\Κ,λA=>∀(tk:Nat) (C:Sm),xjg->xi2 A,jG (ą î),#[p6 y b,jFf uE,rT],I1.kept (t':=tk) zkg,∃a xs,ϒ/\qg9/\Κ,λa=>by split at e;·show(BW b c e,xeh,a),(by subst m hw p;show pV x u r q f),(by subst p hw q;show pV y x u r g),λi=>(by show xe1 i;·cases ĸ c;show zt2 b),by show(je r G E e P D C,xsd),∀b u,b≠e->jgd,Č xg3 c i zSa,qh m d f i g,qh g a b i c,je r o n e p m l,[ō r,jvc,nO,nO],∀b o u,zj3 jj8,by show jkj;·rw[NA,NO,FS];lia,zja a d g b,∀b o,AC->PX,by show xg1;·show Rf u,xq=yT\/xq=π,by show(xs2,pV G D C B q),λe h b g c=>(by let#[o,e,h,hd]:=id hit;show(xdg b g c e,xdh b c)),kx.map oy,∀i x,oA->zyg,λX j=>X.step j.mo j.mq j.nw zp5 zkj,pV C B A y l,pV Q O N M y,iq=0/\zl6,by show(zj1 x y t q,xua),[0,1].map jkf,ŧ x B t u D,Av d v1 z x,ć D uB,λh b d=>by show(k5 h g q,k5 b f r,xf7 d),jI6++xn,λf o e=>jd #[f,NT _ o,q] #[e,Ê,q],õ z,Nat->Tr->zyf,(λx c e=>?_),ŉ a σ c d,by show(ı x j e g,xoa),#[e,z,q],λa=>.Assign [pk a] e pos,Sq z d,λc=>Ë (wpAny_load c ?_),i<2^62/\jVg,ϳ c b=sO o,#[u,rfl,r],ĕ xm3 vj s,λd i=>(by let#[p,ys,rfl,d,q]:=h;show iz i r),ć l MS,(λ_ e=>BK e),(λ_ z=>BK z),gh=zH a n,ć p zM9,uC B j g e,pure (uS r),(λp S=>jy S),xu h f,xu f e,xH P l O j,wY (k+1) zy6,Ä (lo+i*c),l.map g,by show(jh5,j6 n l i h),by show(j6 g d e h,xj5),some (yo a),λe d=>(by subst e;rw[Ĳ]at h1;show Ā d k o),by show(zs2 v g u f,xf5),by show(zs2 G m D j,xg0),gallopOf qu6,out.push zB8,out.push zB9,out++jJ8,λa=>a.toList.Pairwise xS,λc=>by show(jw0 i y,jt c z,xni),zk5 xfc,zk5 xg6,λn=>sO (Ź (wd k (k-n))),by refine uN;simp[Z6,Qs,Qu],sO (Λ c,h),sO (sO qyb),[ek k,İ h],zzc j i g h',zg jY9 v3 v4,Reach Ő sX,qy h2 j,qy h1 z,zu2 (sO Bf),[MO.lst wu],#[zM3,?_],sO (Ŋ zI),(by (show(jCc,zpi);(funext g;show j6 f l j g;rcases f with _|f;(show(xnh,jh9,jh9));rfl))),λa b=>ZE a b QN,xfh\/(zCc b a)\/(zk9 a)\/∃x,xE/\a=Æ x,(λo _ σ h #[x3,x4,e]=>by show wg e xf1),.inl rfl,jj h=sO u->jj h'=sO u,λa=>QM a,mFn Qz xdj,prS ns Be uU C0 oC oR xff (AQ T),∀b ps,H b=sO (.tbl ps)->∃more,H' b=sO xe7,λa=>by show å a,λo c=>by show(xH N v1 M o,ű L c,xji),((cp.map λo=>match o with|none=>nO|Û j=>match σ[j]? with|Û v=>v|none=>nO)),(∀i (h:qv),i<l->zoe)/\(∀i (h:qv),r<=i->i<n->znd),∀(k:Tr) (v:Value) (s:Shared) (Q:Int->Ω),cH k v->xl9->ù xwf,((λw=>match w with|Ì (Æ x::_)=>x=="pair"|_=>false)),by show(qj d m n,xef),(by unfold thO at e;show xJ c g d e),((λj=>match l[j]?,m[j]? with|Û x,sO y=>p6 x y|_,_=>false)),(by let#[d,c,j,i,C,D]:=xsc),∀h',xnd->qq d->Q () { s with heap:=h',toks:=Bn },by (show(jCc,zpi);(funext d;show(Ď e h d,A8 e))),(by rw[FE (EO O)]at D;let#[u',r',q]:=xud;show pr u' r'),q.push { cls:=xs6,data:=.fields #[Ã l,zOd,] },λa=>I.laid (t':=s.toks) (o:=Ì a) jk3 ÿ ?_,λa=>(by unfold lex at h;show oT;·rw[Ð c]at h;rw[yJ c];show kat_yes a),λZ m u r j=>(by let Z:jLc:=ϴ m;show(Ë (xk6 Z),Ë (xx1 m),Ë (IX u r ft ?_));rw[if_neg (Μ j)]),((λw=>match w with|Ì (a::_)=>a|w=>w)),(by rename_i i d;show ż r;let#[g,f,_]:=kO c d;rw[r.2]),λa=>đ a,by show Β x b;refine xf9,∀{ad:Addr} {B:À V},qH2 B->∃i:ľ,qlc i,∀{ad:Addr} {B:À V},qH3 B->∃i:ľ,qi7 i,λa=>(by unfold lex;show oT;·rw[Ð c];rw[yJ c]at e;show .same e a),yd->ô y->R x y H2->ĕ (f v u) Q s2,by show(ż r,xf6),if xpb then sO (.non,xo2)else nO,jL (Qa (ŋ wj ñ) (ve (dF (vJ xqe)))),(λx b=>Ø jke),by show(Bv g,xfa),λl i=>Nc (Qq (s:={ s with toks:=Bn }) hu b f hd l i n ?_ ?_),λe d=>(by rw[Í e]at h1;show Ā d m o;·subst d;rw[Í e];show h1),Qa xi8 xei,Lu (.ref f) (.ref y),λa=>by refine å a,λb i=>by apply Ů xlb;show(Ë (tupleItemsOf_ b ?_),Ë (Fx i ?_),nH),by refine xfg;show Ŭ j xw6,[sO qp,ė,sO HD,Br c,Br g,nO,nO,nO,nO],Z0 Ŀ ε h=sO jq0,(by show(TH B I d q m D,ż f);let#[_,rfl]:=f),Builtin.Slice.sliceAdjust lo hi 1 ŝ,by first|show Ø jN|show å jN,(BC m=qJ m->M=c)/\(BC m≠qJ m->xu5),[sO qp,ė,sO HD,Br c,nO,nO,nO,nO,nO],if v<0 then(v+ŝ).toNat else qk1,∀i,lo<=i->i<lo+l->Ł i<=Ł fJ,[("m",AW++AZ),("n",I++dR),("o",T)],#[jD7,[],xu3,hd,_,_,_,rfl,rfl,?_],[sO qp,ė,sO HD,nO,nO,nO,nO,nO,nO],sO { cls:=.none,data:=.fields A },.frz o u,s.heap.push { cls:=wN,data:=jK0 },(by show xq7;let#[a,Y,p,hz]:=Ρ Z;show ja8 Y),λg q l=>ϓ e (g-1==0) #[rfl,Ø #[_,rfl,q.doneA wT9 e l]],by intro s b;rw[ĸ b];show j,λa=>prS ns (SS c) uU C0 oC oR (AQ I) a,s.heap.push { cls:=wN,data:=zr8 },λz=>λb z=>absurd jli Ç,if zth then sO gS else nO,if zth then sO (ķ,h)else nO,if zth then sO zn0 else nO,∀k,k∈ks↔∃e∈b.toList,zti,.seq (f.map (jT4 i)).toArray,dC xf0,wNe fk vG xoi=sO (ŵ,xv0),(λb ob q=>ŕ q),i<=j->j<n->jh j=true->zoe,(by rcases h with⟨_,e⟩|⟨_,e⟩<;>show jJd),[sO qp,ė,nO,nO,nO,nO,nO,nO,nO],(by split at e;·rename_i d c;show Ŭ e xxf),λz v t=>#[_,_,z+1,xng,v.mapDictKeys _,FH hd _,?_,?_,?_,vC t],∀Q:SortKind->Ω,rQ κ g->xh8,(λw hw=>by show(wz x,h x)),∀s t,t∈Ĭ T3->t∈Ĭ y,λe g u n i c=>(by let#[os,e,g,u]:=id n;show xmh i (Ġ c) #[os,e,g];first|show Ë ϻ|skip),#[xv8,H,Α,#[BQ,xxh],q],#[x,ϧ b,rfl],(λk:Nat=>W.int k),λa=>(List.range out.length).flatMap (zwa a),p.rec .nil λr _ h=>Ē xxd h,by apply CL+n<cLine;omega,by split;·rw[ND];show yg,((D,{ cls:=Ι,data:=i8 l k })),by show(Ë xuf,Ë jT1);apply jD3;rw[Ð a],True/\∀o∈Ĭ K,SN,decide_eq_false (λq=>BK q),λa b c=>(by show ny z a b;· rw[decide_eq_false λq=>z c];show jTi z),k a _ (.inl rfl) e,rI0 λi j=>Ä (i+j),#[.bl _,H,I,rfl,į c vd],(by let j:=xu8;show wP g d c b j;rw[IL]at c),λn E=>(by let#[ys,e1,e2]:=Ĺ e;show ļ n e3 E e2;split at E),∃a:Ŧ,BV a/\jyd,((nO,s.2.1,Ķ-1,Rg y,0,vl+1)),ş d r #[_,rfl,r,Ñ],(by let#[x,rfl,_]:=y;show(xq9,xhi)),Ì [zyi,Æ x,Æ w,Æ y,Æ z],((ltc c g,m)),(e.2.2.filterMap dH).length,Qem (v:=ŵ) (h1:=[]) ?_,show b∈([]:Ŷ)from z,by show(B5 f,į b uZ),λG=>by refine#[_,G,m,l,rfl,rfl,D,C,xna,?_];show xi5,λj i f e=>(by ·let j:¬m=k:=zD2;simp only[lex,c,j,if_false];show i _ k m f e c),∀(h:xp8),jh zHf=false,by show(xm7,m i Hg o j xr n),ą (á ñ AM),X.env.cells.lookup x=sO c,.bl jt6,a.any (qC b k),by show Ϙ h;simp;show lh,∀(w a:W),Γ w=sO a->qnb,by show(zd n g b a f m i,j7 n g b a),ϣ c=sO #[yH,dd,qJ2,e],(λi H=>i<n/\jy9),#[f,.int i 0,Ã S,qKe,zLi,],(by let j:b=e\/b=it:=ĝ d;show tX j),∀(h:xp7),jh zHe=true,λh=>(by rw[Í h];let:k=0:=pp (ł h) ě;subst this),(by rw[Í c]at h;rw[yF c];refine kat_no ?_),λu f H=>(by let#[x,r,e]:=u ls[i] (Eu f);let H:jYb:=by rw[Nj f,e]),by unfold sg at h;show zve,∀{n},vm->Pf (AT n),λa=>Td a,s.heap.Ns X.env.locals m,(by let#[D,t]:=I.base.there b o e a),λj=>λR1 H1 v f d j=>BZ f d (qZ7 f j),(by show(Mn h,ň v f d c b h);cases d),by show(ff,KO ws p),((nO,Mr y,Ķ,Ο+1,0,vl+1)),((nO,Mr x,Ķ+1,Ο,Ϸ+1,0)),yo ((G++qD4).map dP),(g c z).2.2.1 x c e rfl,Č (vv y a d) i j f,λD l=>(by ·rw[Ei (Ŏ D)]at l;rw[LZ]at l;split at l<;>cases l),by apply ci+40<cLine;lia,r=sO v/\∃h',qq a/\xka,λg f=>by show(xn4 g f,BD g z);·show z.symm,((nO,Ϟ x,c+1,d,mg,ac,e)),out++δ a c++δ b d,λG D p=>(by rintro⟨G,D⟩ d ⟨l,r,m,p⟩;show jY m;subst m),((nO,c-1,d,Ϟ x,mg,ac,e)),λr=>∀i,lo+r<=i->i<lo+k->Ł fJ<Ł i,(λx b _=>Ø g6),λM=>M (SU (SS c) x9) qP,∃m:Nat,m<2/\ē/7%2=vX,[sO CJ,jvc,nO,nO],by show(ŧ a t I7 G z,again I7 G),by rw[l];show yq o,∀n,n<R.N->R'.ρ n=u8,(by cases i;show(ż g,CY r f l o g)),sO #[Tv,nO,xtd,#[]],nz fV=[xL a,xL b,xL d],(u8==sysModules)=false,((nO,zSd,Ķ,Rg x,Ϸ+1,0)),Ng (p5 l Q) (ħ r),Qa (jJ ñ) zq3,zs3 jvb,dw (zs5 xv2),dw (zs5 xt8),#[Ä TN,H,Α,Ħ,q],show SI from r,(λb z=>B6 z (o b)),(Str->M7)->M0,f.toks+([]:uW).length,(by rcases xxj with z|⟨w',U,P,u,O⟩),λD=>by show(j9 E7,Ë (OA D rfl ?_));dsimp only,(λr d=>Sg l d/\ri),(λr c=>Sg d c/\rj),Qm (Qc qrb fi qB5),(vV->c1=c)/\(vH->xsj),λe2=>(by rw[q,e2]at e3;show(Ď f1 f2 f,B7 e3 q);rfl),∀{n},n<=5121600->Mt,ξ M (qhh u) s,xQ (v5 vf) Q E,nz [b]=[xL b],nz [b,d]=[xL b,xL d],æ h,m a h=ā w b/\Mh R b,f a h=ā w b/\Mh R b,.seq ([]:È).toArray,by show(ym x g,Ā j B y),((Ä (i/j),h)),show qwb=CF from e,#[[Ã l,Ã b],[]],((nO,s.2.1,Ķ,Ο,0,0)),∀r d,sZ->zDe->P r d,(λc d=>sZ/\∃r,zud c),pure (uS (nO,qrh,0)),jL (ã ñ),by show qcj;·show û xw1 vI,zS5/\kS/\a∉u4/\b<=a,CW↔∃l∈lns p,zM2,∀{s},Ϡ->Pb∈out',∀{s},Ϡ->ue∈out',∃u,us=[u]/\ô x,show jXc from r,show jXd from r,(by let:x≠n:=xph;simp[this]),Ć m (yG l j N),entryFor_of_tree Ce,by rw[<-a];show ų,a.extract Ķ a.size,b.extract Ο b.size,λa=>mFn Xa (ã (zs3 jrj)),ğ j=ğ fj->j5≠zch,λa=>fS ls k y a (sO (Ź (ĳ+1+i))),show yf=yL from rfl,by show(xy3,jQ2,xvi),Qa ă (ã þ),by rw[xN];simp[eqW],vR=sO (ŵ,h1),vR=sO (jZ,h1),λe d=>wt v e (v5 b) (jM1 u d (f v u) Q),TU (um b),by show(ä e f,xk3,xxe),upd t D (Þ L),by show(rP,h),λt=>(by let#[#[items,t,h1],e1,e2]:=Ĺ e),λf=>by show xne f;·rw[Í f];show this,lo+(hi-lo)/2,ϵ (zF5 a),ZJ zp7 jWg,1+ϋ (b+1),jCa (AQ L),(ztb:ĩ).map Qj,List (Qr×Nat×Ī),([]:À W).length+1=1,e.2.2.filterMap dH,s.heap.IsCell c v,(λb o e n y a=>?_),(λb u q=>ŕ q),(λh=>a (Μ h)),sO (ö (!JH a),h),λg=>by ·rw[Io en,Ec,EB];show#[n,Ê,xm0 g],λg y=>(by let#[ad,g,e,y,q]:=w;subst e;show iz t v),by show zs2 j f g d;simp only[ltN],lr/\w5 c/\n+1<=zyh,∃r,c.1=sO r/\zDe,(by subst e;dsimp only;show ç qL4),(λ_ _ z=>jy z),λb=>Jt a "keep" 3 qV7 î b,∃L,zGg/\Yz p s L,∃l:Ln,Ξ l/\xj4,λx=>λw hw=>by show wz x;simp[dep],AQ L0,λa=>(by let#[c,d]:=mid i z b a;rw[z,qja]),(by show zr3;cases x<;>simp[RrG,U8]),cm pl t,by simp;omega,[MO.lst zrg,Î wo],zy2=π\/zy2=y9,λe d=>λ_ e=>∃b d,ŉ a b d e/\Q b d,∀b∈fp,zBf,(zqi n)=true,jH6=π\/jH6=y9,(by let#[v,o,h3,_]:=kZ I2 e),sO (ö (JH a),h),sO (ö (x==y),h),λf g d=>#[f.non_eq,by rw[QgN g];show į d vd],À W->Option qr8,[Ä i,Ä j,Ä c],λw=>(by show ż f;let#[ad,j,rfl,hF,w]:=f),by show cF #[l,h,g],λc=>λ(fin:Fin) c=>∃v,jE4 c,∃a:Á,BV a/\RF,j8 b (Ķ-1),#[Ê,Ê,Ê,Ê],lev ql (k+1),[Ì [w,p,e,b],k],∃x,qob/\q.2<ï,∀s∈st,yZ,by show nZ t,zEh U (s,l) o,by simp[I,M],Ì [.int 0,Λ g],.own a,I.cne x c e,by show(ŧ a H3 I3 o j,xki),(λv _=>v=ŵ),#[g,q4 f,jT9],λg f=>(by let#[a,e,#[xs,i],q]:=g;show ym e f),sO (Ä (i-j),h),λo=>(by intro a o _ _ _;unfold Jc;rw[v9];simp),(by intro b;rw[NH]at b;show Tf b),λE S=>(by show ż E;let#[ab,rfl]:=E;show wF u S),∀sh a b c,jE9,v q (õ (ł D)),Qg HU r.1.g a.m,Qc Z0 ya jFa,vJ xp3,Qm (dC xid),#[nO,Ê,rfl],ϵ xq2,sO (wn h),by rw[ĸ y],#[_,rfl,xhj],zta s a g p,zta s i c y,(((zD0:Nat):Int)),#[H,Α,xt0],vb a,λi y=>by show(Ď g x p,Ď i y q),by show(Ď f e a,Ď d c b),λa=>upd H1 c.heap.objs.size a,bindArgs fd nC,cy p\/Mg p,f a b h=ā w c,λc d=>(by let#[a,b,_]:=I'.pin c d;show#[a,b]),sO (Ä (-i),h),(((zse:Nat):Int)),by show bz;lia,Ę x l y g,Ę x g y e,s.heap.push dO,by show xrc;simp[this],by intro c w E Q h;apply By xs5,Å->Å->Ė qh1,<-j8 b qUa,<-j8 a qUb,by intro x a y b;show Hv a,lb.Pairwise xS,(by let:i=c-1:=Ñ;subst this),ŋ xub xhe,Qm (uJ Hh),Qm (uJ wK),á xhh xih,¬ĳ<ns.length,sO (Þ (k4 O)),Np (Ô:xx9) à,ē/qRj%qe2,[Î zxi,Î xt7],by show(Mf a j n,Mf b g m),(("rules",Ã r)),[xi9,Ť,Ť,ś],Bx p,or_congr DW ?_,λD=>by unfold lsW;show j9 D,jm (Jb q d) q,∀b,vD b->m8,λq=>λi h q st k=>st.at jJe,ö (ό (i<j)),Value×È->Ω,λt=>y0 (S.nofree _ (Dx t)),H l=sO (Þ c),ë w->Ab R' w,yK d a c q zPi,(by let e:xtb:=ĝ j;show dk),p w=true->jL2,sO (ö xue,h),jPf=is.length,∃b,vD b/\zAa,λb d c x=>(OW (λz=>b.1 (cb z d))).mpr (c x (Φ d)),(c==nL)=false,∀sh a b,jG7,a.Pairwise zu1,j<d->vW<=zg9 c,(λi h1 O=>qh0),tO/\Tn a/\xn8,ą ñ,á þ xie,á Ś xvd,sO (Ź t),sO (Î nS,[]),vq<out.length,[ė,Ϛ,sO kY],λa=>jA (by rw[NO];show a),zy5++[o],#[Nu _,Ê],T.map λe=>zN4,á xja Į,ό (x=y),σ[i]?=sO qR,I.cell x c e,Ϗ b u e,qO f b jK3 l,qO f b jK4 l,zsc [a],zsf [a],#[H,Α,q],ŧ w i k b s,(by let#[g,t,p,Z]:=jU n),(by ·let:dI=y9:=b;show Bv k),(by let#[t,r,p,Z]:=Ρ m),dG [a],dG [a,b],λq I7=>λb q o e=>(I7.pin (b,o) (zA5 q)).1,(λi j=>Ä TN),ν v g p r q,λe a b=>(by let e:a.toArray++b.toArray=(a++b).toArray:=Ê),((false,zc8 e)),#[g,f,jT9],uq σ kG,∃a,yR/\xo8,BJ x b h,GV z xo5,sO (İ h,xsa),f b[c]<=Ε j,pure (uS HX),zui (s+j),(λb o e=>jK9),∃b,qga/\zAa,(λb o e=>xjc),á î zqj,á þ ϯ,[Ì yM,Qu s],λo b e i f q=>(by let o:=NP.mpr #[part,b];let e:=i.ok part x b;show xuj f q e),[Ì va,Ä k],λB C=>(by rw[ĸ B]at e;show PN e C),yf<ns.length,yf<bs.length,sO (.int zP9),sO (Æ y,bH),λI=>by show ů d z;·show I.ok l z c,#[_,jv,rfl],#[_,yU,rfl],[Ì zs9,Qj f],[Ì zs9,Qj e],xxb/\zx4∉bs,zEh G k v,zEh K s o,h1.length=CB,zS5/\kS/\b<=a,yD h' y A Q',[İ h0,Ã r],(by ·rw[ĸ y]at q;show å q),by dsimp only;refine congrArg rg xgc,∀k,k<=n->(∀i (hi:qv),i<k->bey f left key arr[base+i]=true)->(∀i (hi:qv),k<=i->i<n->bey f left key arr[base+i]=false)->P (sO k) st,(by (refine Qo λst=>?_;rcases zC6 with _|⟨_,_,_⟩;rfl;(dsimp only;refine congr xgd (funext (æ t));(focus (refine congrArg zri (funext λ_=>funext λt=>?_);rfl));(show Rf t)))),codeAny Cv callerA xke (jEa i c) c,by show(kH h,h),ns.map .int,λa=>prS ns (sO (.int (c:Nat))) uU C0 a nO nO nO,Qa (mC (.int 0)) (Qa (Qb 1) Qe),by refine Qo fW;refine ztc,λc x=>λb o z=>c.sub b o (x.f b o z),Vo jG0 jG1,Vo jG2 jG3,Vo (Qm (Qc wEq (Qc wIx (Qb 0) (mC (.int 0))) (mC (.int 1)))) xpf,lS9 ns p (sO (.int (c:Nat))) (sO (.int (g:Nat))) nO nO nO,(∀b o,zy3->s.heap.get? b=sO o->h'.get? b=sO o)->jK1,.int 2,jKe/\zFc/\(∀x c,X.env.cells.lookup x=sO c->c≠b)/\∀p∈zQc,p.1≠b,res jI8 jZd 3,((s.heap.update a (Obj.mapSeq λ_=>(#[]:Array Value))).push ztj).push uQ,wpAny _ _ xh5 _ _ _,qA=Tk/\zug=false,Yau (prog:=X.prog) (w:=X.w) xk5 e c xt3 (by simp),(∀b o,s.heap.get? b=sO o->h'.get? b=sO o)/\rO h' s=sO (zF4 g)/\c={ s with heap:=h',drawn:=d,toks:=tk },tS9 p g box w c hd jU7 jRf jRg nO,(backTo cpos jPg).all qn6&&(backToKw cpos jT8).all xt1,(by rw[Nz,Nz]at this;by_cases v:jXg;·rw[XD v];rw[show min d.length c.length=as.length by lia,show jPi=true by simp;omega,Lk]at this;show this),.done (sO (Ϟ y++a.extract d a.size++b.extract (c+1) b.size),Ϟ y,d,c+1,mg,ac,e),QA 7 (ŋ Ϥ xhg),(by rcases z with⟨rfl,rfl⟩|⟨_,rfl,rfl⟩|⟨_,rfl,rfl⟩|⟨_,rfl,rfl⟩<;>rcases w with⟨rfl,rfl⟩|⟨_,rfl,rfl⟩|⟨_,rfl,rfl⟩|⟨_,rfl,rfl⟩<;>first|(let#[aa,rfl]:=j)|cases j),((zw5:Nat):Int)==0&&ud==1&&(jNg-zw5)==items.size,λa=>bindArgs (EL x x qX ψ Ŵ (.ref T) kV d pm g e ct) nC=seqItems? (.ref T)>>=k/\k qs1=pure a,((items.toList.drop jUa).take (wR-HQ)).toArray,(by show λP H5 a o c L=>#[P,f,O,I.trans (yG p u o),c,L,r2,S,kF M (yG p u o)]),Qi (g:=[]) (by simp) jIi rfl,Qg 3 kh (Qa (Qb 0) (Qa (Qb 3) (Qa (mFn Qz (Qa (mC (.int 0)) (Qa (Qb 1) Qe))) Qe))),Qg 3 Jq (Qa (Qb 0) (Qa (Qb 1) (Qa (mFn Qz (Qa xV (Qa (Qb 2) Qe))) Qe))),(xs.drop xq4).take (jF5-iq),mFn Zs Qe,((HQ:Nat):Int)==0&&ud==1&&(sIx items.size items.size hi-sIx items.size 0 lo)==items.size,¬xi4=true,λM=>fin=Fin.done jZg/\wpAny (model prog w) A xo7 Q E M,(∀b o,s.heap.get? b=sO o->h'.get? b=sO o)->s.heap.objs.size<=h'.objs.size->Q vs { s with heap:=h',drawn:=d,toks:=tk },(by refine congrArg zri (funext λ_=>funext (æ s));refine congr (congrArg bind ?_) (funext (æ t))),if(a.any (qC b k))=true then a.map (λb=>wM b v)else a++[(k,v)],λa=>call_list_seq p a v x hd xnf xl4,pF a->pF b->pF c->qKg->ltN n b c=true->ltN n a c=true,λs b=>λr s=>r=.ok xlf/\OldK b.heap s.heap/\s.os=b.os/\cW s,compEnvC scope cl C X.env,λA a=>wpAny (model prog w) A xi6 a E { s with heap:=s.heap.push dO },Qg 1 QT (Qa (Qb 0) Qe),Ez (Nl #[_,rfl,"set_iterator",_,#[_,NK _ rfl,rfl],slotN.lookup,?_]),(drf h 40 a).bind λx=>(ZY wC d).map λc=>(ö (jJ3 c),h),QA 2 (Qc wIx (wJ (TR (mC (.int 1)))) (mC (.int 1))),lS9 ns p (sO (.int (c:Nat))) (sO (.int (g:Nat))) zK5 qRe nO,.int 3,QA 5 xh9,QA 5 (Qg 5 Zj (Qa (Qb 0) (Qa (mC T8) (ve (ŋ (mC (.int 2)) qLe))))),QA 5 (ŋ xhf (Qb 5)),#[ok.mod,ok.kind,ok.glob,ok.blt,ok.above,ok.inj,ok.has,ok.cab,ok.hd,ok.frames,ok.stk,ok.exf,ok.bs,ok.bsz,ok.noex,ok.exfs,ok.funs,ok.frf],["enumerate","zip","dict_itemiterator","dict_reverseitemiterator","odict_iterator","itertools.zip_longest","itertools.pairwise"].contains n,∀whole,isTrue a X.env whole=(jH5 a),HT.sIx xs.length xs.length hi,qt2->g.get? D=sO jP2->zWd Q (.ref D) g,QdO (lT (Qb 0)) (Ń (jW4 Y3) (Qb 1)),λb=>(by let#[c,a]:=Qn6 (i:=b*48271%2147483647/5) xk8;refine#[c,λh=>Qi (g:=[]) (by simp) ?_ rfl]),iK+zz0+xm6<30,mC n9,(λx=>(ZY wC ys).map λb=>(W.bl (jJ3 b),h)),(by subst C D;rw[YaB,Qb6 I l r t em];show#[.bl _,H,I,rfl,k R H _ (Ext.refl _) l vd]),.nx (lS9 ns p (sO (.int (c:Nat))) (sO (.int (g:Nat))) nO nO nO) [],tS p out zH2 zH3 qjg d,λa=>key a _ rfl qE jPb λh=>Ō d h,by rw[<-Wb p,<-YW L];show#[.bl _,H,Α,rfl,k R H _ (Ext.refl _) d vd],LexAt A.in1 s (ό jWe) xog c,L2.Loc X.env.scope x/\(cg\/X.env.scope.names.lookup x=yT),λc=>mMt "dict" Vp c (Qa (mFn Qz (Qa (Qb 1) (Qa (Qc wIx (Qb 2) (mC (.int 0))) Qe))) (Qa (mFn Zs Qe) Qe)),Qm (Qc wEq jI4 (mC (.int 0))),Qm (Qc wLt jO0 (mC (.int 2))),Qm (Ń (Zz XN zCh [nO] ΢ (Qm (Qc wEq (Qc wIx (Qb 0) (mC (.int 0))) (mC (.str "pair")))) (Qb 0)) (mFn Zs Qe)),Qm (Qc wGt jI5 (mC (.int 0))),λa=>by refine#["end",O1,yU,?_,f,by omega,QiW (by simp),by simp];apply kst rF a=_,lS9 ns p (sO (.int (c:Nat))) (sO (.int (g:Nat))) zK5 nO nO,Shared.TypeIs { s with heap:=s.heap.push (QX wT) } (.ref s.heap.objs.size) "set",pF a->pF b->a≠b->qKg\/ltN n b a=true,(by let L:jH9=sO o:=ha;split at L),Qc Vq ya xj0,Qc Vq ya xj1,Qc Vq (mFn Zs (Qa (mFn Qz (Qa iH (Qa zx3 Qe))) Qe)) (Qc wIx (mFn Zs (Qa (mC (.int 1)) (Qa (mC (.int 1)) (Qa (mC (.int 1)) (Qa (mC (.int 3)) Qe))))) xvc),mFn Qz (Qa xqd (Qa xn6 Qe)),Qc Q7 (Qb 2) (mFn Qz (Qa (Qc wIx (Qb 1) (mC (.int 2))) Qe)),[("end":Str)],kat_one u v (Qpe (n+1) A (by lia) _ k m u v g o f d _ _ _ _ h),starEach [a,b] X.env=[(false,eval a X.env),(false,eval b X.env)],((false,pc e)),QA 8 (Qg 2 Qy (Qa (Qb 0) (Qa jQf Qe))),∀(b:Bool) (h:MH),Gz qS5 h=sO (.int (ng b),h),λm=>(by refine#[by show(B5 r,z),?_];let m:H1 c.heap.objs.size=nO:=I1.hok.fresh (Nu _)),(λj=>(p.2[j]?).bind xj9),if qd6 then sO (.non,xo3)else nO,Qg 2 Je (Qa (Qb 1) (Qa (Qc Q7 (Qb 2) (mC (.int 1))) Qe)),PMS X xkd xv6,λa=>do let v <-whole;standAt a.pos;holding [v] qdj,(relabel scope X.env).names.lookup x,#[qz1,qz1,I.base.free,Ę b o e B,I.base.tups,I.base.frzs,I.base.tbls],λa=>ObjOk P w H (h.push { cls:=Tv,data:=mR }) h.objs.size a,if∃x,x<R.N/\x∉A/\pC=a then H a else R.G a,EvS sW w zx0 jR3 e x,PPs X pos ks vs jIh,QdO (lT (Qb 2)) (Ń ya (Qb 2)),FnOk P w K mg base CX0 (k+1) f fd ps xn0,(by subst e;let#[o,e,c,d]:=st;show#[o,e,λv z=>by rw[d]at z;cases z]),(by let#[A,v]:=u.1 e #[_,f];show#[_,xmi]),NU (by decide) _,Qa (mC (.str "pair")) (Qa (Qb 3) jS9),(h.update a jZe).get? a=sO xs4,swapsWith value xp1 pos.line X.env=k7,λb=>compPost (model X.prog X.w) X.A X.xe use Q' (.ref D) C qna b,λm=>λi h m st k=>#[st.1,st.2.at jJe],(λz=>a (by simp[z])),(by show λA N a o d p=>#[A,f,x,d,p,O,C,kF w (g.trans o)]),Qc ZD ya (mC n9),Qc ZD (vJ (mC n9)) jVc,[.tup [.str "again"],Qj f]++M 0,s.heap.get? p.1=pA/\H p.1=nO/\p.1≠X.env.locals/\p.1∉X.fs/\∀v,p.2.data≠.cell v,Wx ns [] h.length,.done (sO r,t.2.1,cT,c9,mU),.done xmb,λm O=>m.new (mo:=.ins C []) (o:=.ins C O []) (p:=x) (by rw[Qp (EO ne)];show nx) λR' _=>#[O,[],rfl,.nil],FnOk X.prog X.w X.K X.mg X.base CX k f fd ps xr1,(by ·rw[Xs v];rw[show jPi=false by simp;omega,Ft]at this;show this),∀h,Vx [.tup (x.2.map Qj),.int k] h=sO xy1,λy=>λfin y=>fin=.done jTb/\Q (.ref s.heap.objs.size) y,λh'=>(by let h':xlh=true:=h),c.map λp=>(tC (.str p.1),tC (.str p.2)),by simp[QR,Qs,lW,Qj],typeLookup jQ6 "__getitem__"=pure (sO (.builtin id)),(by rw[D8 (by let:=(Nk.mp a).1;simpa using this)]at a;cases a),Qg 1 VR (Qa (Qb 0) Qe),qge (QX wT)=sO (QX wT),λc=>if neg then ! Pg else Pg,Value.type "StopIteration",modify λs=>setPending s xn5,QcR d f xl5 hD,zz8-lev (ls.map cdL) (k-i)+ch kM,a.extract c (c+k),QM (Ϫ (Qb 1) (Qa (Qb 3) Qe)),QM (Jt a "put" 3 lG (Qb 0) jS8),Qj6 (.int i) (.int j) h=sO (.int zF0,h),mFn J0 (Qa (Qb 5) Qe),(i g).2.2 _ e _ (by simp[bxL,rdK]),(λo e=>qz2 e),.Call xk2 (e::es) [] cpos,QkM [] (dsT.map λp=>(.inr p.1,.str p.2)),Qg 2 Qy (Qa (Qb 0) (Qa (mC (.int 1)) Qe)),Qg 2 Jr (Qa (Qb 0) (Qa jX6 Qe)),Paired.mapP c λa b z=>jUj e,.fields #[.int lo t,.int hi u,.int c v,],Q (.ref s.heap.objs.size) { s with heap:=h',toks:=tk },λt D=>(t.set mg).kind.trans D,NS xle,NS xqb,Paired (λp q=>zLg) a kx,(by let st:=Rst.start (N:=N) d more xv4;unfold Qs Qd1 at e;split at e),if x.length+y.length<=sizeLine then sO (.str (x++y),h)else nO,LI kind_sorted plain_sorted entry_sorted xte ?_,kp b o xsi xre,a::b::rest,(λx=>xm9),λB j=>by show zI7;rw[Xt h];refine B.ge i zVd ?_;show Ā q i j;·show Ny q,H A.in1 (by apply A.units+1+n<cLine;lia),b∈X.ex\/X.s₀.heap.objs.size<=b,Zf (λb o z=>d.sub b o (e.f b o z)) l,ForInStep.done xpe,(by let#[d,c]:=Xk (xs:=kJ) (i:=sa+k) (j:=sb) (Nd (Nn _ _) b) hi),(by let#[d,c]:=Xk (xs:=kJ) (i:=sb) (j:=sb+e) (Nd M5 b) hi),[.str "end"],Zu C [.ref r,seW s,.int (l:Nat),seW o] h,Zx C [.ref r,seW s,.int (l:Nat),seW o] h,me jPj h=sO qnc,(by cases a<;>first|(unfold pur at b;cases b.1;done)|(unfold W0;rw[if_pos b.1,this];rfl)),∀{n:Nat} {l:Ln},qW2=sO l->∀b∈bxL l,CW,(by let u:=seK.nr x;let r:=seK.nr s;rw[e]at u;show NY (za2 u r)),(by let j:=Yn qp2;let c:sq out zF6=s:=XZ qp2),Value.ref (s.heap.objs.size+1)::zM8,starEach (e::es) env,List.replicate r (.tup [.str "do",.str "n"]),Q xof { s with toks:=BQ },I1.laid (t':=c.toks) (λb u e=>ŕ e) (Nu _) ?_,s.TypeIs (.ref I) "set_iterator",.t zZb,∀h:MH,VR Pa h=sO (.lst (out.map Qu),h),.Call (.Attribute o name apos) [] [] cpos,Zf (λb o z=>c.sub b o (x.f b o z)) d,JA (λb o z=>c.sub b o (x.f b o z)) d,lex (ltN n) ks ls,(("again":Str)),∃L,zGg/\Yz p #[way,part,k,false] L,λu d a Q=>λu d=>wpAny (model X.prog X.w) X.A a Q X.xe d,(s.heap.push E6).push zv8,λh i=>(by rw[g h kG (λx b=>d x (Φ b)) (λx b=>e x (Nr _ b)) i];simp[Ir,c]),ZD (.int i) (.int j) h=sO (.int (i%j),h),lev (ls.map cdL) bX-lev (ls.map cdL) (k+1),qh9=sO (.lst nS,h),zWj/\zWh/\xr7=true,sq out' qa0=zff,sq out' xt9=zN6,Inv (Mi.blk X scope cl Nb f H2 C fp (X.pn++j)) [(D,{ cls:=.type "list",data:=.seq l.toArray k })] Y t M,r=.ok xlg,Out f la lb (o++CD++lb.drop ib),(a.extract k c).reverse,((gAt T s2).map qM9).getD (.ref y.length),attributeBase e f X.env (eval e X.env)=pc e,IsQ s.heap n,((nO,t.2.1,cT,c9,mU+1,t.2.2.2.2.1,t.2.2.2.2.2)),Yu rfl (by omega) xo9,y.length<=sizeLine/\k=(qi1 y),.Assign xs0 value pos,Qg 2 VO (Qa (Qb 0) (Qa (Qb 2) Qe)),Qg 2 Zc (Qa (Qb 1) (Qa (Qb 0) Qe)),Qg 2 QH (Qa (Qb 0) (Qa (Qb 5) Qe)),λf A j=>(by let f:∀y∈O1,y="either"\/y="again"\/y="or":=λy A=>I.op y (NT _ A);let j:=I.o2;rw[NA,N1]at j),λx b=>(by show Ā z x b;·subst z;simp[eqW]),.Call xrb [a] [] pos,.Call xr4 [a] [] pos,call zx8 [.ref l],by refine xpd;rw[e,Eb,Dr],by show zVi e l;show i j (by simpa using e) l,setArr xm8 G,λh g=>(by intro h;let g:k∉xs.map (·.1):=not_mem_keys_of_get h;let en:=atKey_none_of_get h),∃x r,jYb/\(ls.map cdL)[i]?=sO kM,E5 K (.ref C) "__init__"=sO kX,(by ·let#[_,_,_,_,o,_,_,e,f,_]:=qYb;show#[o,e,f]),HT.sIx items.size items.size hi,YM (Qb 3) (Qb 2) (mC (.bl true)),λb=>EH Ey b.typeIs O7 ?_ xpi,λm l=>EqAt A.in1 s m l zxe,mFn J0 (Qa (Qb 6) Qe),h[gr]?=sO (.ins C (gwF r aT aD aW)),(by let q:=Qj8 (b:=b) (l:=l) (h:=h);simp[z]at q;simp[q]),DctE prog w h' d xr3,by apply(zJ9=="do")=true;decide,(([("or":Str)]:Ln)),mFn Qz (Qa (Qb 1) (Qa (Qb 0) Qe)),by apply kst xy2 xu1=_;rw[UF];rfl,y.size<=sizeLine/\k=xrj,.ListComp l [mP n d] c pos,.ListComp B xr2 o pos,(λp q=>ui p (.ref q.2.1)/\nrm p=z8),reverseSlice' (zMh-(a.snd.snd+1)) zHg,VG d st 0 1 h RZ (by simp),Qi (g:=[]) (by simp) ?_ qhb,Qi (g:=[]) xr8 ?_ xt6,attributeBase e f env (u5 e)=zc8 e,((match h[n]? with|some (.lst ws)=>sO ws|_=>nO)),(by rw[show n+(j+1)+1=n+1+j+1 by show zWb]at this;show this),pure (.yield (nO,u.2.1,zZ8,zU5,zGe+1)),qj0++qj1,power' size (2*s1+e) xva size,seqObj "list" us.toArray c,λi=>Yao (pl.mem_iff.mp (show(arrOf d)[i]∈(arrOf d).toList by simp)),[QO p,Qu s],.str "tell",wpAny_mkInt (Nl xv3),by rw[z];show Nw,newExc xq6 [],JN xvh h=sO (.int j,h),by apply kst rF ql1=_;rw[Ke,UF];rfl,by simp[Zp,Qs,Qj],xp0=false,σ.set i (sO v),backTo pos xqc,(assignEach es X.env).length,starEach (e::es) X.env,ForInStep.yield ok,d.length==c.length,sO w::caps,Wx ns qth h.length,Value.type qx8 != qx0,(by show Ā c a k;·subst c;rw[e];simp),ZR C "ends" (.ref r) h=sO xy5,b::rest,Value.ref (s.heap.objs.size+1)::us,.type T,λr=>r.map λq=>(qW3,zJa,W.int q.2),T.map λe=>(zN4,.ref e.2.1),sO (ö (if neg=true then !inW a ys else inW a ys),h),RdL (lnO p Rz) s.2.2,compareOp op,λf2 E=>#[(f2 b E).2.2.2.1,(f2 b E).2.1,(f2 b E).2.2.2.2.1,(f2 b E).2.2.2.2.2],setPending st pq,by first|show mJ|show zDj,Qc Q7 (Qb 1) (Qb 7),Qc Q7 xt5 (mFn Zs (Qa (mFn Qz (Qa (mC (.str "again")) Qe)) (Qa zcb Qe))),(j.set i (eoD thW (x++[t]))).length,λb c=>((Qle (neg:=true) rfl (Xx λx a=>by let#[y,_,rfl]:=NJ.mp a;rfl) b c)),o.data=qJ2/\zFd/\Vals xs b.toList,(by let f:c.toArray.size+a.toArray.size<=sizeLine:=by rw[Nz,Nz];lia),c.natAbs<1073741824/\Builtin.Range.small i j c=true,mUn qb1 (Qb 1),cm pl (sq out e.2),Cnd g (sO (0,g)) (sO (0,g)) false,x.length<=sizeLine,BindsTo s fd qn8 [(x,u)],Ez (Nl #[_,rfl,Nl h]) a,Mal X.prog X.w X.K X.mg X.base k C "__init__" ps g,(h1.set i (eoD seW jZb))[a]?,(λe=>B6 d4 jWj),by show NL (show h.get? a=sO _ from x),by ·show NF (WX xoj),λc=>((λa u e z=>by let:=mG;rw[z,c]at this;cases this)),ZY (drf h n) ws,sO (.int s.2.1),sO (.str s.2.2),(by obtain⟨f,rfl⟩:∃k,f=k+1:=#[f-1,by lia]),by rw[I.ok.glob];show I.mod.glob.keeps I.bk,(λw=>(w,h)),a.length+xu6<=sizeLine,by first|rfl|(simp only[firstArgMember];rfl),Qi (g:=[]) (by simp) e (by simp),Qt C jVd h,PlainL (bs++[("new":Str)]) M e,(Eg p out out.length).map t9,λg=>λb o g e=>eb b o g e,(by rw[Nz]at this;rw[show as.length=f.length by lia];show this),Qa (Qb 3) (Qa (Qb 2) Qe),Qa (Qb 6) (Qa (Qb 4) (Qa (Qb 5) Qe)),Qa (Qb 5) (Qa (Qb 5) Qe),strKind prog w,(strKind prog w).is x (.str x c)=true,Qd3 C B b (by lia) qJ8 ?_,λb c=>(XI (i:=lo) b).wide (Nu lo) (show lo+n<=lo+a by show NR c _),Cal Z.P Z.w Z.K Z.mg Z.base (n+1) x r.ps g,[("either","or"),("or","end"),("again","end")],(by simp only[NI,Da,or_false]at d;rcases d with rfl|rfl|rfl),Zt C [.ref r,seW s,seW o] h,h.set aW (.lst jTg),#[zM3,(i g).2.2 _ e _ zI8],Nc (D6 (Nl ?_)),λe=>λa b z=>#[Rw.mono e _ _ z.1,z.2.1,Rw.mono e _ _ z.2.2],mt (sO w::caps) h=sO (p w,h),λp=>λ(p:Nat)=>rawInt p,_<=Array.size xth,(by let s:T≠a:=λz=>b (by rw[z];show Nw)),∀vs H Q E,sd->qt7,keywordEach [] X.env,by rw[d.isEmpty],(λ_ _ _ q=>Ko zTe λ_ _ c=>j _ _ _ c),.ret .none,Cal Z.P Z.w Z.K Z.mg Z.base (n+1) x ps m,mSl (Qb 5) jXi Vn,mSl (Qb 0) xo4 Vn,(by simp only[stp,kst,NH];by_cases h:kL<;>simp[h]),Q0.map wtW,aS r a l h1 h2 (sO (gvW l)) o,λe=>by show(beq_eq_false_iff_ne.mpr e).symm,by show ff;unfold pur;show Jp ws p,λe=>Nl (Nc (FA e hd ?_)),Yam _ (by decide +kernel),(by let#[a]:=a;let#[b]:=b;congr 1;show YaD.mp h),λB z=>QmL B z zDh zDi ?_,by rw[NC];lia,λb=>mMt "dict" Uk b (Qa (Qb 1) (Qa (mFn Yf Qe) Qe)),Clo (RrG E K Wr U) y A Q' P nO,sO (.int s.1),zg0++[.lst (E.map seW)],letOwnedTupleGo tg (.ref it) u,sIx items.size 0 lo,(if a then 1 else 0)==b,a==(if b then 1 else 0),Cal Z.P Z.w Z.K Z.mg Z.base f.k x f.ps f.g,λd c=>∀d,P d->∃c,b w d h=sO c/\P c/\me c h=sO qnc,St->Hp->(St->Hp->Prop)->Prop,Hp->(Bool->Hp->Prop)->Prop,(envOfC j d s.heap.objs.size f cd).kindOf,(by let X:b=a:=hA b (by rw[q];simp);subst X),λe=>#[z.1,Rw.mono e _ _ z.2],λf a=>λx c e=>(f b a).2.2.2.2.1 x c (B.sub x c e),!t.plain&&decide xw9,λd g=>(by let d:T≠h.length:=λz=>g xr9),l=sO (xui:Ln),(λt r=>xu7),(λv H2=>P8/\Q (.ref x) H2),(λR2 H2 l=>k R2 H2 (g.trans l)),(λ Pd=>W.int (lo+(i:Int))),by size_fits,((arrOf st).extract (sa+k) sb).size,((arrOf st).extract sb zHi).size,((h X.s₀ X.H₀ 0 [] []).2.2:False).elim,mC (.int 10),[fX,seW s,thW t],Beh (x.2.map cdL) s.k .en en,by simp[EnL],qG9/\j<2^62,Cal X.prog X.w X.K X.mg X.base k x ps g,(by ·show λc m q=>qq0 q),Ni f (arrOf st) lo (lo+n),["pair","first","second","same","none"],Qg 1 ZF (Qa (Qb 2) Qe),Qg 1 ZF (Qa (Qc Z0 (Qb 2) jX6) Qe),Qg 1 J4 (Qa (Qb 1) Qe),λJ4=>Qg 1 J4 (Qa (Qb 0) Qe),Qg 1 ZV (Qa (Qb 1) Qe),Qg 1 Va (Qa (Qb 1) Qe),ne9 (k:=2) (j:=0) (by decide),(by rw[decide_eq_false (λz=>nomatch z)]),zcj/\p.2.1=q.2.1/\RelV p.2.2 q.2.2,Option Bool,assign (.Name x j) X.env,(W0 k ws).map λp=>(w::p.1,p.2),.Call (pR g E) [e] [] d,items.size<a.size,decide (ac<7)&&decide (e<7),ls.length-(k+1),Beh (x.2.map cdL) k .en en,nrm (ek e.1)=sO zV8,E4.mpr qtd,λs'=>Inv X pins (σ.set i (sO v)) H s',Hp->(It->Hp->Prop)->Prop,λg A d a=>Uw (s:={ s with heap:=g,toks:=A }) (n:="range_iterator") d rfl rfl (by decide) a,foldedSetIterable iter X.env x=pure x,λo i b=>∀o i,subscripted b false o i=qSa o i,(Builtin.Range.rangeSize i j c).toNat,mC (.int 6),(by refine Qdo h f e ?_ ?_ ?_ ?_ nofun nofun<;>cases e),Dfs p met zQ3 (n+1) out,(((lns p).take k).flatMap bxL).length,(by let#[f,p,q]:=NJ.mp this;rw[<-q];show ok f p),(by show PK c b a z;rw[(KS c b a).2];unfold cm),∃t,u=qN1,∃t,u=zXb t,entryOfKey qng,(λy g=>h y xwa),as.length=bs.length,λa=>RcNeAt A s qi5 a xw7,Vr (Qb 6),Vr (Qc Q7 (mC (.int 2)) (mFn Gz (Qa (Qc wEq (Qc ZD (Qc Z0 (Qb 2) (mC (.int 3))) (mC (.int 4))) (mC (.int 1))) Qe))),Vr (ŋ (mC (.int 1)) (Qc ZD (Qc Z0 (Qb 2) qe4) (mC (.int 3)))),Vr (Qc ZD (Qc Z0 (Qb 2) xqf) (mC (.int 3))),(λi v=>∃e,es[i]?=sO e/\v=e.key),(Obj.putSet b t' o).data=.set b c t',Wn (zGe+1),Qc wNe (Qb 0) fi,(by intro u hu;simp at hu;rcases hu with rfl|rfl),(by ·refine bP ?_;simp at en b;simp[QI,Qs,Qu,i,en,b]),tH p out qkj,sO (l,c),Vs o d H zE2,ls[i]?=sO (x::r),Inv qqh pins σ H s,CallR X (.builtin id) r,.Pass qk2,beq_eq_false_iff_ne.mpr (EO (NS a)),f p.1 q.1 q.2,(λa h=>(ma a h).bind λp=>f p.1 p.2),k R1 H1 _ i g (Rw.bl _),Zz fin mi cp (Zn 0) mt me σ h,λa=>setField a 1 (rawInt ((i:Int)+1)),SetL prog w s.heap S ks (Ku w),λx=>Wf (n+1) (.t zZb) x,LexAt A s fin xwi b,λe v=>(by let:=e i (lo+x-1) v (by lia) (by omega)),(pendingOf st).toList.drop (i+2),W8 (s:=s) (h:=zV4) (n:=0) rfl,decide (a.cps.toList<=b.cps.toList),d _ rfl (by simp[dep]),p[j].2.length,by refine E9 xs1,x++[o],λb=>(by cases e;show k R H [] (Ext.refl _) b Rws.nil),os'++g,Obj.putSet b t',rule "set.scan.the-table-gave-way",Flow.ret v,Ahd (x.2.map cdL) k fs,ZG C [.ref r,seW s] h,sS gr s (sO (l,c)) z3 z4,nD g out out' n,(by let:=QnN (g:=g) (q:=(0,g));rwa[QmR]at this),z.sameBut f xw3,λl=>by simp;show Nd xv7 l,(by let:=congrArg List.length S.pre;show ut N4),λs=>SetL prog w s.heap S (uniq zOh) led,[#[way++[(part,k)],j,0,false]],(nx p (sq out j)).map Qu,(by simp at p o y;simp[-ite_eq_left_iff,P,j,p,o,y]),(St.uniq bY).length<=5,(St.uniq zQ6).length<=5,(λ_ _=>Classical.propDecidable _),λg=>λi h g st k=>k it (by simp) _ st,2^62,envOfC b a s.heap.objs.size f cd,λa=>RcAt A s qi5 a xx0,by rw[this,G4 (n+1) l _ w];show qXi,b.choose_spec.1.trans p.symm,#[rfl,l,o,rfl,q,d,g,zXg D],h.set n (.ins C (Gx f v fs)),#[X.prog,X.w,X.K,X.mg,X.base],ZR a "waiting",["self","seat","letter","other"],(lns qrc).length,(by rcases z with rfl|rfl|rfl|rfl<;>simp[bxL,rdK]),mo σ h=sO (fX,h),λa=>(Qhm a rfl (by simp[Gx])).trans ?_,ne9 (k:=0) (by decide),by show NF (Ea c (by decide)),b λw hw=>h w xxg,(((sIx n d (sO v):Nat):Int)),Ext R { R with F:=qZ5 },((λz=>by rw[z,g]at q;cases q)),fin xv5 h,ZY (drf h 40) ws=sO as,λd c=>(by split;·let:0<=d/c:=IK (by lia) (by lia);omega),λa=>@ob _ _ (λq=>f p.1 q.1 q.2) a,.ok (.ret .none),ixS out t,byS ns st mn bs ws x7 x8 x9,sO zZe,(by unfold gAt at e ⊢;rw[DE]at e;rw[Fq,e];simp),b∈gL G a\/xx8,λE=>(by rcases ob e E with z|⟨f,p,z⟩;·rw[z];show Dd),(by ·rename_i z;show QgJ h (by omega)),tS9 p g box w c hd m l j nO,(by let#[_,_,_,_,o,_,_,e,_]:=x;show NL e),λb=>λa H1=>a.length<=sizeLine/\∀p,H1 p=nO->Q (.ref p) b,.lst f xwj c m,a.length+rest.length<=sizeLine,JH zI2=false,Nl (Nc (Iy hit.typeIs ?_)),s.TypeIs (.ref S) "set",unsupported "internal:collect",λh=>(by show λf z=>(NI.mp z).elim (λe=>e▸h.1) (c h.2 f)),mC (.str "o"),sq out (ixS out t)=t,b∈Bx (pin g il p),Wm Wr s h.length (l,o),(by rcases new a q with rfl|q),(Q++[(s,t)]).map wtW,(λo g=>m _ _ xy4),!decide qy7,by rw[Nz];show r.length.symm,(List.replicate k xs).flatten,∀D σ H,t' D σ H->t D σ H,xs.length+ys.length<=sizeLine,λa=>SetL prog w h' s.heap.objs.size a (Ku w),(j-i)/2,([a:b]:Std.Legacy.Range).size,(failedOf qu6).isNone,xae<r.toList.length,Qk2 i*(Wt (i+1)+2),λA=>λh=>Qi (g:=[]) A ?_ (by simp),IV (RrG E K Wr U) US y A Q' P,#[s.way,s.part,en+1,false],by rw[DI,decide_eq_true_eq,decide_eq_true_eq],λb=>(by let e:=KU xy8 b e;show PK a1 a2 a3 S),.For tg iter body [] pos,truthy v,E5 K (.ref C) f=sO nO,if g=f then sO u else l g,((xs.length:Int)),(List.replicate k b).flatten,mC xti,Jf items src b body r σ2 h2,(atI d i).map λw=>(w,h),(Obj.putSet b t' o).ExactSet,lex (ltN n) ls ks=true,lex (ltN n) ls ms=true,lex (ltN n) ks ms=true,∀i (h:zRd),M zf7,Fh _ _,QcA j++f,Ep (Ny f.symm),qS p a (sO (Qu s)),K1 out,λa=>VU (j:=0) (g:=a) (by simp) ?_ rfl (by simp),(λe=>decide (e.1=a)),#[_,.kp (.kp i (Xe f) h) f],(WE b (Jv b h)).2.2.1,I.base.keep b o e n S B,(by simp only[NC]at e;show Nd qBh c),.Return lg pos,λC=>(by let C:Data.fields _=Data.cell v:=z;cases C),c.length+a.length<=sizeLine,x.above y c (Dx h),λb=>Ly b.typeIs (by decide) ?_,t σ h=sO (true,h1),Rws.th_ok m s _ _ c g a,∃us,o=.lst us/\Js us=true,(λb a=>by simp at a;simp[a]),hS.at λo e=>d.heap S _ B e,by rw[Og,Iz];kernel_rfl,At xs (zQ1/2),collect (.ref S),(by cases List.perm_nil.mp p),λd t=>QY h λr d #[e,q]=>#[e▸zWf,q],l1++zJ7::l2,(pendingOf st).toList.take i,Binds K fd ps [.none],(λ_ _ _ _ _=>(h ..).2.2),Uq (Qc wIx (Qb 1) (mC (.int 3))),(by ·show λ_=>qh6),Xb qod [],byS ns st mn bs ws x7 x8 x9,l=qW2,λf=>Qjm (pin g il p) out' w f,tS9 p g box w c hd m l j nO,H a=sO (.lst xs),H a=sO xv9,(by subst O;rw[hi]at l;cases l;rw[Fi L]at D),pyNext (.ref I),λa=>wpAny_pyIter_range xta a ?_,λE6=>(s.heap.push E6).get? s.heap.objs.size,∀v,(x,v)∉binds,Str.ofString "__getitem__",by rw[<-q.len];show b,(by unfold pur at p;cases p),DS (NQ.mp z) ak,by congr 1;lia,Array Keyed,F f (arrOf st) sb,s.heap.IsList l vs.toArray,r.1.k<=c.k,.Compare a [op] [b] p,#[_,Nw,rfl],Zc [QO p,Qu s] h,Zc [QO p,Qu #[way,part,k,false]] h,QH [QO p,Qu s] h,λh=>(by simp only[Tr.t.injEq,Oj,Tr.i.injEq,and_true]at h),by simp[QL],(mrL qXb l).map Qj,by rw[N4];show IP _ _,by simp[c];simp[Qj,Ka],Jz [lW (sO a)] h,λa=>Sb.Wf 8 (.t (sh0::shs)) a,λu=>storeName X.env x u,(by let#[o',l]:=I.base.there b o e B),.Constant .none j pos,(λ_ _ _ _ _ st h=>Oo st h),λy=>(y.length:Int) != 0,E5 K (.ref C) name,I.tok _,∀a o,F a=sO o->b a=sO o,.ref ad,by rw[Nz,Nz];simp;lia,λd=>s.heap.IsTuple ad d,env.scope.kind==.function,o::caps,by ·show congrArg (·+1) (c a),by rw[NB,N5,NW a];rfl,checkCount "sorted" 1 1 _,a.cps.toList=b.cps.toList,(List.nil_perm.mp p).symm,rule "list.sort.merge-lo",rule "list.sort.merge-hi",DL xx2 sb,ite _ _,λy o=>(by let#[rfl,L,y]:=h;dsimp only at L y;let o:=L.ia),(xs.extract sa sb).toList,(xs.extract sb se).toList,(pendingOf st).toList[i+1],QaP a p.1 p.2.1 p.2.2,(us++[]).length=ps.length,RS c st,(Zh h.2.1).comp h.2.2,qH (met++[s]) st,λk=>[.int k.1.1,.int k.1.2.1,.str k.1.2.2],λh=>ZR C "waiting" (.ref gr) h,Ys h (Nu _),λL=>EgN (pin g il p) out' L,(by rintro n l m c ⟨a,t,B,rfl,rfl,rfl⟩),(by unfold U3;simp only[hd,Nv,seK.nr,m,EY]),(ks.map (dN n)).sum,decide (Tr.t ks=Tr.t ls),sO (lnW p (sq out j)),.BoolOp op [a] pos,.While c body [] pos,λq=>λhn b q=>#[hn b q,(f2 b q).2],Np (EC _ _) G,min v.toNat n,#[0,0,0,0],∀a u,R.G a=sO u->a≠p,mC xy0,mC xwb,mC xvf,(λb E o e=>old b o e),Zz fin mi cp b Uo me,zd8=sO (as,h1),W0 0 ws=sO qU0,(by rcases LS i qDg with d|d),sO (seqObj "list" #[] H),(n,k).2==NameKind.free,Qnq d fin a cp b t m,by rw[VA h a 40 c e,Vf h ys 40 py d];rfl,[#[way,part,fs,true]],((qy1:Ln)),.lst (st.map Qu).reverse,Eg p out j,I.op x (by simp),zZf::_,by let:=f.ln;simp;omega,(gL U (s,l)).map seW,(λh=>A.rch _ (Vu h)),λa l c=>∃b k a,WrL l b k a/\e=.wr (h1.1,h1.2,b) k c,!e ||hd,I.base.slot b o e n S B,(by rw[hd]at d;unfold Jf at d;split at d),QV t body (f+1) σ h,ty="str_ascii_iterator",(by rw[hd]at f;unfold Jc at f;split at f),λd=>s.heap.IsList ad d,λa=>fin (a++(rest.filter p).map f) h,wEq v (.str w) h,wEq (.str a) (.str b) h,wEq (.str x) (.str y) h,λa=>swapsWith a (sO (.Name x pos')) spos.line X.env,Str.ofString "__next__",Nl (wpAny_throw ?_),λl m=>by let e:=Of l;show Nd qBh m,ItT w I S T vs i s.heap,us.length<vs.length,out.push (<-elem' a na),out.push (<-elem' b nb),(pendingOf st).toList[i],DefAtD Z.K Z.mg x st ps,["self","seat","thing"],["self","seat","other"],0+qo3,QjD p q.1 qLj,(nx p s).reverse.map Qu,Eg p out out.length,λn=>by rw[<-YaI,<-Iw,QP,NB,Nj n];rfl,λσ g=>Qc QeR qF5 (Qb 9) σ g,by rw[Kt,List.map_drop],gL T o,λT1 t E=>(by let:e.1∈T1.map (·.1):=by rw[<-YR s (·++[t])];show N3 E),(by let m:=W6 (G:=T) seK e.1;rw[ga]at m),beq_builtin_none _,(by let#[e,n,ne,nf,d]:=I.pin p hp),binaryOp .FloorDiv,λj=>λx y H Q=>r x y H Q\/j x y H Q,Int.ofNat_le.mpr h,(((sIx n n hi:Nat):Int)),.Slice lo hi nO p2,(λx=>!x.1),b.toArray.size*k.toNat,#[[u],[]],sysModules<h.objs.size,.ok .next,eqW a a=true,((f w,h)),Qe σ h=sO ([],h),(by rcases B x l with l|⟨i,j,rfl,p⟩),by rw[VA h a 40 d f,VA h b 40 c e];rfl,Qk prog w,(Qk prog w).room A.in1,items.size+1<scanBound,List.range es.size,Ep (by simpa using lt),NR H _,.done (nO,()),j-(k+1),So f ys lo (lo+n),#[rfl,l,l,rfl,o,g,m],by rw[l];show hit,YL C h (.ref r),YL C h (.ref gr),#[N,Ql st,n,true,t],N.length-ps.length,p[q.1]?=sO x,#[way,part,m,false],L.map cdL,.blk (by simp),Qan (O:=O1++[x]) rfl,(E++[s]).map seW,ja2∈gL T ja1,(λ_ _ _ _=>trivial),by simp[fw,Qbi,hw],W3 (k:=j) (l:=Cd.ot) h,Ap g t,Kj A m,∃t,u=Value.bytes b t,∃t,u=Value.float b t,∀v,o.data≠.cell v,.BinOp a op b pos,intBits_le_64 e d,FF K C Str.empty=true,λj=>by refine#["tuple",_,Ey.lookup,j.typeIs,?_],by rw[c];show hw,valueAt (q::c) k,by simp[valueAt,NZ,d],λd f=>k R H2 _ (Ext.refl _) d f,cp[i]?=sO (sO j),λm=>λp S z=>sz (I2.pin p S).1 m z,Qf0 wi cp g tt te,λc=>(drf h 40 a).bind λx=>(drf h 40 b).map λy=>c,(St.uniq b).length<64,InP f a b (n+1) c,λq=>#[q.1,.inr q.2],((V.str p.1,V.str p.2)),c.sc.names.lookup y.1,Zk (e::es)=true,(Zh l).attr j _ _,(Zh h.1).comp h.2,∃en,Beh ls j .en en,.en xy7,h1[i]?=sO (eoD seW x),λb=>(by ·subst z;unfold sg at b;split at b<;>omega),(pin g il p)[0]?=sO a,(λg=>JG (j,g)),λa=>(by let a:=I.wd9 hw;let#[g0,g1,g2]:=I.g0),k=if b then 1 else 0,H a=sO (.dK b),by simpa using I.len,.IfExp c a b pos,X.wish E,compareOp .IsNot,Str->Option NameKind,IsTup s.heap t items,items.size<=sizeLine,h++[.dct []],ns.map WData.int,(K w.params).In base,λh=>(by let:=Zw (env:=env) (pos:=pos) h;rw[L3]),by rw[Nz,Nz];lia,compareOp .NotIn,List Str,Wx A js h.length,wpAny_handled ?_,U4 false,p.take j,setNext S c i ep,args_list_sort _,Ng m (Ny hn.symm),HP f a b (n+1) c,a.snd.fst+1,Gs p (EC _ _),ps.length=items.size,λq=>mgX (QaP _ q.1 q.2.1 q.2.2) _,sO items,.Attribute o x p,QcJ (Ql st),(by ·rename_i z;cases hu;simp[kst,z]),["pair",a,"own",s,a],((ek e.1,W.ref e.2.1)),by unfold fpG;rw[Wi],B.lt.2.2.2.1 a L,(by rw[<-ft1,<-ft1]at this;show this),cm a (Ap g t),(wds p).map .str,xs.length=us.length,λn=>Paired zQ9 ks c.toList,∀a b,F a b->G a b,∀v H,Q v H->Q' v H,by rw[if_neg (by decide)],Mod X.K X.mg X.base,I.ok.noex b o e,s.heap.objs.size<=a,s.heap.objs.size<=C,s.heap.objs.size<=T,s.heap.objs.size<=D,f.heap.objs.size<=C,(λj y v' l D e3=>?_),ns.length<=sizeLine,#[[],H,I,.nil,h],vs.length=ps.length,us.length=ps.length,atI c i=sO v/\Q v H,GM s.heap I.big,starEach es env,λr t o=>λR1 H1 r t i _=>o R1 H1 .non t i Rw.non,e▸g,#[#[x.cps[i]'g,]],wSl p.1 q.1 r.1 r.2,xs.names.lookup p.2,a p.1,Gi is,λe=>DA e hd (by simp) ?_,kx.length<=sizeLine,sO (QeS f i S n ep),X.mg "enumerate"=nO,by simp only[ltN,decide_eq_true_eq],a.extract ia a.size,b.extract ib b.size,<-get,bcount >= minGallop,acount >= minGallop,out.push a[c-1],bubble xs src d,MetAt K C x q st ps,DefAtD K mg x st ps,c.sc.kind=.function,∀f∈t,zf9,#[P,w,K,mg,base],0+qL6,one _ (P _ b),λb=>qS p (sO (Qu s)) b,(nx p s).map Qu,λI=>by rw[List.take_succ,I];simp,(by let:=a.ln;let:=b.ln;let:=c.ln),h.length<=h'.length,St.uniq_mem _ _ rfl,rlF aE aK aW aU,by rw[N];show Em _,sS gr s t nO nO,sO il,(enS d).map seW,(ins g il j.2).length,wpAny_pyHash_int h,wpAny_pyHash_str h,h[n]?=sO (.dct a),h[n]?=sO (.dct (K1 met)),NS (NL e),inplaceOp .Add,c.heap.objs.size+1,(λ_ _ _=>False),DV K cdv qual=true,(q.obj n u e).mono x,Zg (Qb 1),Zg (mFn Zs Qe),Zg (mC (.int 1)),Zg (mC (.bl true)),Binds X.K fd ps [],l<s.heap.objs.size,Rws.append l j,Vr (Qb 1),tyW p.2 T p.1=true,DefAt K mg x st ps,(G9 l c k).binds b,sO ([],[]),(by let#[_,u,_,hu]:=M.there l),(by intro j v w r z;unfold res at z),(λ_ _ _ _ q=>Qf9 q),(λp=>f p.1 p.2),firstArgMember _ _,(Qk prog w).room A,X.mg "reversed"=nO,.int zY8 0,Value.type "tuple",acount<7&&bcount<7,a.extract 0 a.size,b.extract 1 b.size,QcU lo a.snd.fst b,lo+x-(a+1),lo+k-qRh,(pendingOf d).size,ty0 sh0,(by let#[m,q,l,lo,Y]:=Qcf I t),ClsAt X.K X.mg C c,λb=>QgV rfl q p (b _ _ _ _ _ _),QpV i c a b op,Qv (Qb 0),Qv (Qg 1 VR (Qa (Qb 0) Qe)),Qv (Qc wIx (Qb 1) (mC (.int 0))),Qv (Qb 1),Qv (Qg 1 Vj (Qa (Qb 0) Qe)),ZA (Qb 0),["program","spot"],List.map En.kd,["tell",a],by rw[QP,NB,h];rfl,by unfold Qat;simp,#[[],0,0,false],(by rcases a with rfl|rfl<;>show c),(nx p s).length<=2,s∈met,λc s=>(by rw[this,a];let c:¬s=t:=λz=>e z.symm;simp[c]),(by intro H;refine b λu hu t a=>?_),.pair a hw f q,W.str x,(by simp only[kst]at hu;split at hu),Qw (j []),if_pos (g _ _ _ p),(d fs).trans u,QL (Bx p),dcn (ins g il j.2),Q (g i j) H,(I.ok.bs b o e).1,(I.ok.bs b o e).2,(λb o e n S B=>?_),λe=>k it (by simp) o e,((m:Int)),λy g A=>Inv X a y H { s with heap:=g,toks:=A },binaryOp .Sub,binaryOp .Mod,binaryOp .Pow,compareOp .Gt,λy=>Ea (by decide) y,by let:=r.un;lia,sc.names.lookup x,c.length<sizeLine,O1.length<sizeLine,l.length<sizeLine,qCc/8,Qbh (p::r) k,by simp[Qbh,NZ,e],λI2 y D a=>QbH I2 (by rw[e];show True.intro) y D a,sO (p.1::q.1,q.2),k j l v a b c,h n (arrOf st) o d (Mv.refl _) c,ty="str_iterator",compareOp .In,by simp[Et,b],((x,NameKind.free)),λw=>Zn 0 w (o::caps) h,(by unfold Builtin.Range.rangeSize),λj c g s=>(by rcases GN e with⟨n,j,c,rfl,g,rfl,rfl⟩|⟨j,s,g,rfl⟩),R.ρ (A.getD i 0),(((n-1-i:Nat):Int)),(((k-1-i:Nat):Int)),Value.type "list",#[S,U,p.isList],k+1+(i+1),xs.toList.take sa,by rw[hF j L,<-Y],(pairsOf vs).size,es.size=kx.length,(Zh h).mark _,.UnaryOp .Not a _,(sO k::ks).length,r.fc a n g::t,λa=>Qc Z0 (Qb 3) a,Qc Q7 (mFn Zs (Qa (mFn Qz (Qa (mC (.str "again")) Qe)) (Qa (Qb 9) Qe))) (Qc Vq (Qb 8) (mFn Gz (Qa (Qc wEq (Qb 11) (mC (.int 0))) Qe))),Qc U3 (Qb 0) (Qb 3),Qc Q7 (mSl (Qb 5) Vn (Vr (Qb 6))) (mFn Zs (Qa (mFn Qz (Qa (mC (.str "do")) (Qa (mC (.str "n")) Qe))) Qe)),s.way.map Qat,by unfold Qj;simp,k-(i+1)=k-1-i,List.countP YU ls,["pair",a,w0,s,a],(gL T s2).map thW,#[_,_,_,h,rfl],by simp[ix,A],by simp[Zo,Qs,JG,mvd,ft,ta,y,d,c],IsT s.heap n,Ny e,λc=>beq_eq_false_iff_ne.mpr c,sO (s,t),sO (seW e.1),(λy H2=>R x y H2),step x H5 y5,λH=>∃k,Qnw X.K x H k/\Q k H,(by let#[u,rfl,t,rfl]:=Kk r),FF K C name=true,Room (k+1) A,Nd I.ok.bsz I.sz,(vs++ws).toArray,(a::b::r).length,Obj.mapSeq f,z.length*n.toNat,2^63-1,#[t,l.bl_eq,?_],(by simp only[Qbi]at e;split at e),i+n=items.length,items.drop i,items.drop (i+1),j<c.toArray.size,Qev xs lo hi,ys.map V.str,a.kind=.function,(Zd ns os h)[n]?,P (n+j+1) σ2 h2,[(k,n,x)],QaP kx k b v,b.size<scanBound,b.size=ks.length,λk=>(strKind prog w).is k e.2,kp.1.trans m,items.size-0,Value.type "set",λz=>by rw[<-z];show E4.mpr v,#[u,g,d,t,os],Gl X "enumerate",q e w _ _ ?_,max a b,by congr 1;omega,base+n<=arr.size,(m>>=g)=(m>>=g'),c+1+1==a.size,c+1+k==b.size,c+k+1==a.size,setPending st pq,j-sa,sa+(j-sa)=j,j-sb,sb+(j-sb)=j,QcN h sh0 shs vs,A.units+12<cLine,.type "dict",.Attribute o f _,Qj3 s c body,VC [4,3],VC [0,1],VC qEh,VC qV8,[5,6,7,8],Option (List En),c=.ei\/c=.ag,CI ls (k+1) g,(by rcases f a b with z|⟨z,i⟩),pil ls ls.length,Option (List Cd),Xb (A++B) s,UC dsT,(O.length:Int)<2,bs.map W.str,et x,λd=>H.u.frame λa b=>c a d xw0,by simp[eoD],sO (eoD seW p.2),ZR Cr "ends",λq=>xxa=q,λt=>(by ·rw[Ne,f n1,N]at e;show((Q t).2 e).1),(by cases a<;>cases b<;>simp[eqW]),∃t,v=.str x t,Ng a (Ny c),λq p=>EqAt A s q p (eqW a b),fs.length<=1000,k b u (j b n) q,frs X.stack,(f _ z).2.1 rfl,EP X a σ Q,#[v,H,I,r,h],d.lookup x=sO c,(by let#[g,H1,I1,r,z,q]:=f),.Expr e pos,k R1 H1 g f,-(2^62)<=j,-(2^62)<=i,.type "int",.ins C dx fs,(λo j=>o++j),λk a=>(List.replicate k.toNat a).flatten,(by rcases h with(h|⟨o,h⟩)|h),#[o,Ō e h],E4.mpr this,I2.stkSub _ z,λl=>Heap.SameBut it s.heap l,SqL X.K H ad xs,SqT X.K H ad xs,λM=>SqL X.K H ad M,λM=>SqT X.K H ad M,λg'=>spM K ps.length g' vs H Q E,YaN w.params es,Qb9 c k b v,#[h.1,h.2.1,r],e (h.1.trans z),DctR X.K R a kx,Gl X "reversed",.type "set",λb a=>ltCps b.cps.toList a.cps.toList,b.choose_spec.2,a.map V.str,(by unfold VZ at c;rw[ND,Lf]at c),k-(i+1),i-(c+1),j-(c+1),ys.size=xs.size,by rw[NC];omega,NF (Ng n D),ZR a "tied",(t':Int)=t+ch c,way.map Qat,out.length<=152,by simp[ne],LsOk bs ws 13 L,by simp[j,eq,Y],l.head?=sO "pair",K.inj _ _ z,US.length<=1600,fq g s.part s.k,(KS a1 a2 a3).1,by simp[JV,Qs,Qj,gvW,gvL,gvK,e],#[j,NT _ i,q],#[d,t,v,o,m,_],by simp only[Ee,if_false,OP,O3],(by rw[B]at o;simp[v,D,ea,x,G,o]),u=Value.bool b,u=Value.type n,.bl (!e ||hd),.seq b n,I1.ok.hd I,λg a H1=>g { D with nx:=N,ct:=N,bk:=D.nx } a H1,Int->Int->Prop,Qb7 I q ?_,((L.length:Int)),z _ _,r.append i,true==true,upd H a ob,SqT K R.F a xs,Rws K R' ws vs,(by cases e<;>first|rfl|cases h),sO (false,p.2),items[j]?=sO v,i<items.length,newList [],Ny al.symm,loop _ rfl,(by subst this;rw[Wy u r o m p]),(by let#[v1,t,o]:=QbW p j),Yj b lo hi,DV K cd x=true,Qnh lo c n,Mi.box a g,λz=>λ_ _ _ q=>Y9 z (Uy q),(λo=>(o,t)),box frN m ws h,(XX a k).isSome,pure (sO true),by refine Dm L5 ?_;rw[Dq F8 _],#[_,hS,rfl],.int n 0,λc=>(EM _ _ (EO c)).trans e,ltN n a b=true,a.extract 0 na,b.extract 0 nb,c+1==b.size,modify (Wn mg),c+k==a.size,0+1==a.size,λG=>(by rcases q with⟨r,e,o⟩|⟨e,G,l⟩),YD ?_,λa d b c=>a.extract 0 d++b.extract 0 c++out.reverse,k-1-j,(λx=>- f x),mergeAt' i,(λp=>f p.1),pairsOf vs,Yi 6 x c.t,Yi 4 f c.t,b.line==p.line,Qc ZD (Qc Z0 (Qb 2) (mC qV5)) (Qc Qjt (Qb 1) (mC (.int 1))),Qc ZD (Qc Z0 (Qb 3) (mC (.int 3))) (Qc Q7 (mFn J0 (Qa (Qc wIx (Qc wIx (Qb 1) (mC (.int 0))) (mC (.int 1))) Qe)) (mC (.int 1))),stp k c p=sO g,dcn x.2<=Qk2 i,((Qj l,h)),q.2+1,x.2[fs]?=sO l',(h++[o])[a]?,sq out e.1,λE=>by rw[<-E,N4,Qg1];omega,λb=>LsOk bs (ws++[("own":Str)]) 1 b,by simp[ZC,Qs,Qj,bxL,QL,e,rdK],(bxL l).length,(KM _ _ rfl).1,(EV.mp M.nd).1,(λq=>W.ref q.1),H.w.lt a b,H.u.lt _ q,H.k.lt a b,E.length<=1600,Dp g (sq out m),["none","new"],JD d a H h,JD i a H j,or_congr DW ?_,(moS d).length,Qjm p out w pl,Value.int i t,λb=>(Qkr b).resolve_left r,(X.wish E).Ok,λi=>-(2^64)<i/\i<2^64,λe=>λx e=>∃k,x=.bl k/\Q k e,Wp f y fs,#[I1.kIn,?_],(λm=>xs[i+m]?),atI xs i=sO v,#[rfl,fin],(b::r).length,Qp (q.ne c d),tIT X.K m,j z _ _ o i g,QiG ta tb,Qg n g ms,spM K n g,ZM mi b m,(by unfold wIn at e;split at e),Rws X.K R E m,sO (sO i,p.2),Qdc m l u,(by let#[f,fd,F,r]:=C.ex),by rw[Nz];lia,ks.zip us,(λa _=>?_),λa=>done _ _ _ a (I.tok _),((es.size:Int)),(XX c k).isSome,(XX (K1 met) (trS s)).isSome,(XX (l.map λx=>(ei x,W.bl true)) (et x)).isSome,Nl (Nl h),λr=>StrsAre items.toList r,by kernel_rfl,nx k%l.length,t.fits n=true,b.length<4000,St.srt_eq q h,(by simp only[lex]at h1 h2 ⊢),kindOf st,by show NN _,Ui wT9.sb,λd z G=>(by intro j d z B;let:=G j (by omega) z B),WO lo a.snd b,ltAt' i j,by show Nu _,hm.at _ _,(by simp only[beq_iff_eq]at hz),λo q d c=>(by by_cases o:q<sb;· show s1 p q d c o),Ch f xs c m b,Ch f xs d a m,ns.length<=63,Dq Dc.p_upd _,FL Dc.p_upd _,KI n g ms,.Attribute ..,coLoB c x,#[d,?_,?_,j],.Tuple es _ _,M.2.1 _ x q b,a.map Qat,λh i=>(by by_cases z:j<=k;·show h.ge j i z),(by let#[L,I]:=r f m q a),qH out [],(by rcases H u hu t a with z|z),λh=>by rw[QP,NB,QaT h];rfl,λa=>X8 ns a (by omega),c/d%xs.length,A++.ot::B,List.length _,(by let#[l,rfl]:=hm w hw),NI.mp (sub g),R (.wr s l o),Ru E0 B w,Q.lb2 b h,(by intro g;let p:=Q.lo f h g),[seW s,thW t],λH=>(by let f:=xcc;let md:=H.d.d),by rw[f,EY,e],by rw[<-Kf A a,<-Kf A C,this],Qj ["none",g],QdO ma a σ h,ZJ 0 p.length,(λ_=>true),Wz I.hg I.hg',mOr ma a σ h,sO (.str box),.str x t,u=Value.none,RelV p.2 q.2,IsT h' n k v,Qp (f a u e),(λ_ _ _ q=>q),sO (.str A),SP X a D,st::rest,lo+l,Itr lo n,((d:Nat)),λc=>.ref c.heap.objs.size,k=!j.isEmpty,a++[f w],a++[q],l++[x],[.bl b],λb=>.builtin "type.__call__" b,(g,x)::r,s.TypeIs v T,YaL.mp e,λo i=>operate [o,i] (getItem o i),tyV K T x H1,List Keyword,ns.length<=j,#[[a],[]],if_neg g,q.ne g b,#[_,x,y,?_],tS X.K m,sO (true,p.2),Vo ta tb,tIT K ta,tIT K tb,.ListComp ..,tIA K ms,tII K mi,QV t m n,WQ cp σ,aj a5 aa,c.toArray[j],f.toArray[j],c.toArray[m],!eqW a b,(λy=>eqW y x),!inW d c,Fs X.K f,y.2 != .free,ms σ p.2,sO (false,h),(by unfold Ye at p;rw[N0]at p),((ws,[])),.int c 0,t.plain=true,#[f,a,b,c,d,],λL=>w.params.setOrder S L,NK _ rfl,StrsAre vs j,StrsAre us a,Qa me Qe,Tr->Tr->Bool,nb-1,na-1,1==b.size,b.size==1,HL f a b n t,λj d=>λj d h=>lo j d (by lia),λS=>(by rcases q with⟨r,e,o⟩|⟨e,S⟩),s+n+l.length,λp=>f (xs.extract i j)[p],lo=a₀.size,a₀.size-lo,plN n w=sO t,Meth K C x f,Tr×W×W,λC=>MetAt Z.K C x q st ps,.int 162,.int 700,Zt a,[6,7,8],["spot","k"],xs.map f,a.map Qu,Fit ls k t e,k<=ls.length,k<=xs.length,(by let f:=Ux o;let p:=Z8 v),λa b=>(by let#[_,rfl]:=YF hw;let#[x,r,o,v]:=lines a b),x.2[d]?=sO l,qS p a b,qS p (sO (Qu s)) b,m<out.length,((s.part,s.k)),lnO p (sq out n),trS q.1,.int q.2,c/d%b.length,I.map Qj,drf h 39,λD=>by rw[<-D];simp;omega,by rw[GP,Lr],XM G k f,l.map ei,M.lt _ z,gvL l≠sO b,WrL l b k b',UnL l b k b',(by cases a<;>cases b;·rfl),E4.mpr g,λn=>Jt C m n g mo ms σ h,#[nO,rfl],Beh ls k c j,λB b j=>absurd B.at_ (b.no j B.lt h B.lv),fq g i k,fq g i j,(by rw[decide_eq_true_eq]at *),(by let#[la,s]:=B p rfl),by simp[EnL],λm i=>(QiQ m i (Qai _)).2.2,by rw[<-Yc _ _ this];show S,s.2.2∈Bx p,hashStr w x,d==i,#[_,rfl,r],#[_,rfl,h],xs[j]?=sO v,us[i]?=sO u,n _ _ e,e _ _ h,EqAt.same _,sO (.own a),r b o e,X.H₀ b=nO,λa=>e _ (λ_=>rfl) a,I.kIn a o f,SqL K H p d,SqL K H1 a b,L.length<=n,b.length<=i,Itl K a,Itt K a,Int->Int->V,I.hok p _ d,y.2≠.free,ps[j]?=sO p,tCB r t,#[_,B,rfl],(i+n).toNat,j<xs.length,λA m=>λr A=>r=w/\EP X c m Q r A,q _ I.fresh,(by let#[rfl,l,j,b]:=h),QjT I.hok e,ws[i]?=sO w,sO (.dK kx),h.1▸e,upd R.F p o,.rt p.1 p.2,λf j=>(s.mono f).set j,QhL X.K r f,.lst as,tIG K b,GK X body m,λE h=>(by rcases E with z|z<;>rw[z]at h<;>cases h),inW d c,DX.mp r y l,l.map f,KA n w=sO k,by intro vs pre as ns e b h,λe2=>(by split at e2;case isFalse=>cases e2),QA i m σ h,a::b::r,λa=>Zz fin mi cp a Uo me σ h,es[p]?=sO e,.type "set",(l+r)/2,(λ_=>?_),λR a=>R a { s with heap:=h',drawn:=d,toks:=tk },.inl hF,IsQ h n k v,λb=>(by dsimp only;by_cases b:l >= r),_,minGallop>1,minGallop-1,by simp[EE],p-(sa+k),k-(s+n),a.snd.snd>0,src<xs.size,S.mv mv,So f xs i j,failedOf st,a+p.2.1,Option Unit,trV h x,ps.length=3,Cls Z.K f.C,MM (RE c e),MM (RT c e),.head _,(λ_ _ _=>nO),λa=>mIf a (Qc wIx (Qb 0) (mC (.int 1))) (mC .non),mIf (Qm (Qc wIs (Qb 2) (mC .non))) (mC .non) (Qg 1 Y1 (Qa (Qb 2) Qe)),λa=>mIf (Uq (Qb 9)) (mC (.int 1)) a,.int s.part,(by rw[s];simp[ch];simp at b),λg=>(by let#[a,b,c,d,f]:=m.fit.oo g),i<ls.length,(by let#[_,rfl]:=Xp hw),.str nm,l.getD 1 "",sO (-1),(by subst this;rw[j]at g),.str "same",.str "none",a.map W.str,λf=>by rw[(Xp f).2];simp,0<xs.length,λn=>List.replicate n .ot,j[a]?=h[a]?,seT x=seT s,Nat×Qr,eoL seW,H.fld.2.2.1,H.fld.2.2.2,R (.kp s o),mvT d t,λH=>(by let f:=H.fld.2.1;let md:=H.t.d),as.length+1,sO (.d p.1),(Um h).elim,(Da h).elim,D (i h),E (i h),D (i a),E (i C),D (i C),by simp only[plN,De,Fe];rfl,by simp[EA],#[R,d,h,a,i,m,st,o,zl5],yx xda,Bb xe0,Bb xej,(by split at e;·rename_i m;show Ŭ e xdf),Ř xde,Qa uL xed,#[_,_,l.int_eq,j.int_eq,m,į i uZ],λb g c e=>(by let#[l,b,g,c]:=id m;show(Ë xh0,Ë xwg);first|show Ë (Dv hit.typeIs (jU0 e))|show Ë (D0 hit.typeIs (jU0 e))),λb c=>by show(xgb,Ë (Nl (Nc (Ij b c ?_))),qt,Ë (Nl (Nc (Oe b c ?_))),qt);refine Nl ?_,λQ=>h a s σ H Q I zwg,Qa (mC (.int 0)) (Qa (mC (.int 1)) Qe),Qa xV xeb,λi=>by rw[Io en];intro x c;show Hv c;·show zt2 (i x c),.tup xs,#[rfl,å (yV k)],λe a=>by show wg e a,λv p m b=>by show(Ď v p m,b),λa b=>by refine a;show b,.tbl xg4,Γ i=sO a->Γ g=sO b->jNj m l,Γ m=sO a->Γ l=sO b->jNj p o,_,ą xg2,.bl c,Qa (á ă Į) (Qa qk6 (Qa (á ă ϯ) (ã (á ă Į)))),_,#[R,b,h,a,d,j,st,m,xjb],(by let#[v,c,q,_]:=Ρ y;show ű O p),(by show ż r;let#[xs,f,d]:=kO q c),Qa AU (ã AU),Qa Ž jyh,dF jv8,#[_,rfl,qE,rfl,rfl],(by cases O;let#[f,n,L,_]:=Ρ G),BM/\η,f TX xs8,(by show kE o r d;simp only[ltN]at *),#[r.1,r.2,kO q e],λd=>(by show k5 a d t;rename_i m z u us v vs),#[_,_,_,wZ,rfl],#[AX a x,Ò p v],#[j,BH,c,BI e p],vc m G o l S e0,Qc zJj þ ă,λb z h y=>by show ů b z;·show h y z,[zJa,Ct],sO (Þ xkh),#[xw5,Ò a j],P8/\a=.non,λa=>õ a,(by let#[f,v1,r,_]:=Ρ z),by show(CY a z C g r,xk0),by show xj6;·show de,á ă xvb,jn l d e,ps++more,Cc m G o l S,Ń þ jE1,.int 1,x==nL,(funext λ_=>funext (æ t)),mFn Qz jCb,by rw[show La "dict_keyiterator"=false by decide];refine(show Ů xjd from ?_);rw[if_neg xj7],(funext λ_=>congrArg rg xgf),congrArg bind ?_,do if xi1=true then zda else throw e,(funext λy=>congrArg qii xh4),λh0=>gwF r (uf h0) bL bM,wR-HQ,Rw K R p.1 zw1/\zg4=z8/\Rw K R p.2 q.2.2,Mv lo zO2 (arrOf st) ys->So f ys lo zH5->P xwh T6,Ip xi0,(by subst e;let#[_,o,e,c,d]:=st;show#[o,e,λv z=>by rw[d]at z;cases z]),thO (res jI8 jZd 3),.ins C (gwF r (uf h0) bL bM),congrArg qii xi3,if zs7=true then _ else _,Qg 2 Qy (Qa (Qb 0) (Qa jQf Qe)),λn=>n it (by simp),wpAny (model prog w) A xr6 Q (λ_ _=>False) { s with heap:=g },Qg 4 Z5 (Qa (Qb 0) (ve (mC T8))),(by unfold th at e;let#[us,h1,h2]:=yr e;subst h2;show kH h),mFn J0 (Qa (Qb 2) Qe),((.inr p.1,.str p.2)),.cons #[_,rfl] (Mb #[_,rfl]),mFn Zs (Qa (mFn Qz (Qa (mC (.str "tell")) (Qa (Qb 5) Qe))) Qe),mFn Zs (Qa (mFn Qz xm5) Qe),mFn Zs (Qa (mFn Qz (Qa iH (Qa qcf Qe))) Qe),mFn Zs (Qa (mFn Qz (Qa nn (Qa Ϥ (Qa Ϥ Qe)))) (Qa (mFn Qz (Qa zxh (Qa xqi Qe))) Qe)),(by let:Looks (model prog w) h xq1 B.cls:=(Looks.ld c).andThen .now;show sF d),.cons #[_,rfl] (.cons #[_,rfl] (Mb #[_,rfl])),EZ (name:=qli) hit.typeIs ER xn3,<-isInstance e jJ4,λA=>wpAny (model prog w) A xu9 C (λ_ _=>False) { s with heap:=g,toks:=tk },congrArg rg (funext λst=>ztc),!c.toArray.isEmpty&&Builtin.List.listTooLong xo0,k R _ _ (Ext.refl _) xk9 Rw.non,Builtin.«set.__init__» #[[.ref s.heap.objs.size,.ref l],[]],.type "method_descriptor",Qc Qjt (Qb 1) (mC (.int 1)),MO.ins C (gwF r (h.length+1) (h.length+2) (h.length+3)),by show Pi,eval c (compEnvC scope cl C X.env),[#[tg,iter,ifs,0]],Qc ZD (vJ xqg) (mC (.int 2)),Qc ZD (qB3 xqh) (mFn J0 (Qa (Qb 2) Qe)),res jQ0 p.2 3,Qc wNe (Qb 6) (mFn Zs Qe),Qc ZD (qB3 (mC n9)) (mC (.int 2)),if k=f then(k,v)::r else(k,x)::Wp f v r,mFn Gz (Qa (Qc wEq tp (mC (.int 0))) Qe),mFn Gz (Qa (Qc wEq tp (mC (.int 1))) Qe),mFn Gz (Qa (Qc wEq tp (mC (.int 2))) Qe),mFn Gz (Qa (Qc wEq tp (mC (.int 3))) Qe),.str "end",∀h:MH,Jy [.int (c:Nat),QL bs,QL ws] h=sO qLi,(by refine#[g,d,?_];let b:Js (c.map (·.2))=true:=p;clear p d;revert b),(by refine congrArg rg (funext λ_=>congr (congrArg bind ?_) (funext λu=>?_))),show¬xl2 from N8,.Name "range" p,thO (res jQ0 p.2 3),KI 3 xy9 (Qa (Qb 0) (Qa (Qb 3) Qe)),(λR1 H1 x g c i=>#[R1,d,a,w,l,c,i,n,zSc]),kp b o xoh xx3,if(Value.ref d==Value.none)=true then _ else _,(λ_ _ _ _=>rfl),.tup [.str "do",.str "n"],∀t,C (decide zK0) { s with heap:=g,toks:=t },sO (.builtin "object.__setattr__"),(by let G:=zi u;let E:=zi t),#[Nd (LP z _ _) b,fin],by show CY b d B f o;refine LtAt.tuples C B (Np (Nn _ _) hu) ?_,show zQj from f,.Attribute o name apos,(by rw[d]at g;injection g with j _;let:c=b:=by simpa using congrArg Array.toList j),pyNext (.ref I)>>=_,Draws.list (A:=X.A.in1) zDg it l B a.toArray,λZ=>Ip (EZ (name:=qli) Z slotN (EH slotN Z QgO ?_ (Qlk _))),.ins C (gwF r aT aD aW),IK xod (by decide),d.put f xpj,SetL prog w h' a xw8 led/\P={ s with heap:=h' },Qg 1 Vj (Qa (Qb 0) Qe),x++[t],.Assign xs3 e pos,.call (.ref U) #[[.ref a],[]],mFn J0 (Qa (Qb 3) Qe),mFn J0 (Qa (Qc wIx (Qc wIx (Qb 0) (Qb 2)) (mC (.int 1))) Qe),(I++(if o then[doO]else[])).map Qj,(by let#[p,q,m]:=hN a H3 o;show xu4),#[_,rfl,Nl h],lo+m-(b+1),λo q x=>(by subst o;by_cases q:i=lo+x;·subst q;lia),(Value.ref d==Value.none)=true,by unfold pur at p;show p,by simp only[Nz]<;>show Nd (Ny d.symm) i,(λo e=>kp D o (by simpa using r) e),by rw[e];show zbb,(by unfold th at e;cases e),lnO p Rz,Q xwe { s with toks:=s.toks+dN n k },ZR C "rules",Builtin.Tuple.tupleItemsOf (.ref t)>>=_,ws++zz5,bs++[("new":Str)],Ng (NL e) I.ok.above,.ret (.bool true),.ret (.ref s.heap.objs.size),! qHc y x&&risingS y r,by simp[Gx],Sb.rk ks a<=Sb.rk ks b,λg=>((λx c y q e=>g (by rw[NH,ET,Nq]at q;rw[e,q]at c;show c))),mirror (arrOf st) lo (lo+n) _,(by let#[f,m,l]:=g bV rfl),call (.builtin id) (v::d),#[oc,od,.func fd,osl],Qa (mC (.str "pair")) (Qa (Qc wIx (Qb 3) (mC (.int 0))) (Qa (Qc wIx (Qb 4) (mC (.int 0))) (Qa (Qc wIx (Qb 3) (mC (.int 1))) (Qa (Qc wIx (Qb 3) (mC (.int 0))) Qe)))),if([]:qSc).isEmpty then 0 else 1,(by let#[i,hi,_,o,rfl]:=VI l;show zVi e n),Wn g (setPending st pq),((ei x,W.bl true)),.dct qeg,((sO r,u.2.1,zZ8,zU5,zGe)),.Attribute o x apos,h++[.lst ws],[#[tg,iter,[c],0]],f j=sO w->Ab R' w,keywordEach [] env,λi a b=>(by let i:s.TypeIs a "slice":=b;unfold getItem;try with_reducible refine Es ?_),.un xrh v f,spM K ps.length g,spM K ps.length (Qs more m),[#[tg,iter,[],0]],sO (.Name x pos'),EH ER hit.typeIs F5 ?_ (FX _),λg f=>(by let g:y∈x::r:=p.mem_iff.mpr Nw;let f:x∈y::t:=p.mem_iff.mp Nw),(pendingOf s).push zP1,mFn KW (Qa (Qb 5) Qe),by simp[ZI,Qs,Qj],So f zK1 lo (lo+n),(by let#[_,_,rfl,_]:=r;rfl),by rw[<-i.length,<-g.length];show B,mirror (arrOf st) _ _ _,#[a,b,I.unwish,q],DctE prog w h' d (storedH xs k a v),λf=>(by show Ā f k o;·subst f;rw[UL]at this;cases this),(λf j kp e=>fin c g i f j kp e),EJ _ f xqj,by dsimp only;refine QW (Qo fW) ?_,(by unfold List.lookup at e ⊢;dsimp only at e ⊢),eoL ei,c.toArray.size+a.toArray.size,d zOb rfl,h.set n (.lst (c++b)),h.set n (.lst zM4),Vr (mC (.int 1)),(λh' k=>y h' λb m a e=>k b m ?_),eoD thW,pure (sO v),zZ2=sO (a,ns)/\as=w::a,Np hu (by decide),(by let#[c,rfl,e]:=e;cases j;refine Ic ?_),(by let#[a,xs,d,c,b]:=r),mC (.int 500),Ol _ (by decide),(by rintro(h|⟨_,_,_,⟨rfl,rfl,rfl⟩,rfl⟩)),.int (g i j) s.toks,items.toList.zip a.toList,by simpa using(H b o e).1,byH L xq5 g,F0 a λe=>q (QcV e),x==("__classdict__":Str),sO (.Attribute o f pos'),mC xtj,mC xu0,atI ws i,zQ1/2,xtg/2,base+zHe<arr.size,base+zHf<arr.size,ZR a "rules",λB=>(Nk.mp B.at_).1,c.length+b.length<=sizeLine,#[_,p.isList],#[by rw[Eh];show h.pm,?_],((sO nO,a.snd.fst,a.snd.snd)),Uq (Qg 2 VW (Qa (Qc wIx (Qb 1) (Qc wIx (Qb 0) (mC (.int 1)))) (Qa (Qc wIx (Qb 0) (mC (.int 2))) Qe))),_<=1000,by rintro rfl;show h v Nw,args_tuple_getitem _ _,#[_,rfl,Rws.append i g],((n,NameKind.cell)),typeOf (.ref C),ZR C "tied",sO (Ź d),HT.sIx xs.length 0 lo,O1++[x],.type "StopIteration",(by subst M hw hK;let#[m,Q,Z,hn]:=hg),E4.mp h,(by let#[C,g,rfl,#[B,c,d,_],_]:=q),Nq.mp q,Ng (NL e) (I.ok.cab x c P t),starEach [b] X.env,mC xx5,mC xve,mC xwc,mC xwd,mC xx7,mC xvg,IW xxi,sq c s.2.1,spM X.K ps.length g,[#[target,iter,t,0]],storedH xs k a dflt,.Name "enumerate" p,(by simp only[ltN,decide_eq_true_eq]at *),keyKind' vs.toArray,p.endLine==pos.line,by simp[hw,c,a,f,d],by rw[<-z];show Nw,((items,nO,h)),.Name "reversed" p,(by let:¬es.size>1:=by show NQ.mpr z),Mv.refl _,old b o e,sO (Qj f),l++[ei v],.un i (Xe v) h,Q.map wtW,(y.size:Int) != 0,[.Attribute o f pos'],XE I u q n ?_ o c,(by subst N hw O;let#[hi,st]:=st),[.Subscript o i pos'],Obj.putSet b t' o,compareOp .Lt _ _,.type "list_iterator",λu=>#[u,r,rfl,o],.int j u,(k,x)::r,h++[.lst ((St.srt (Pw b)).map .str)],mFn f ms,main g e,(by cases C;let#[n,rfl,t]:=VP G),(EU _).symm,((nO,l,r)),((nO,l,o)),Fp ia la,ne b o e,c=xy6,by rw[Yo r];show q,(λx=>x.1.isSome),#[d,c,j,i,rfl,rfl],by simp[c,EO C],mirror ys _ _ _,Qb 12,by simp[hw,c,d],(Bx p).map .str,ZR Cr "wrapped",nA g out out' n,IsRange.new ..,b=c.heap.objs.size,(s,t)∈Q',.dict es.toArray n,args_sorted1 _,NR hi _,lo+m-(lo+m-(b+1)),mirror _ _ _ _,.int 18,.int 11,.int 54,cd "either"::_,QdF pl,Vi (h1:=[]) ?_ rfl,#[p,q,a,H3,I3,m],c=(M ||c2),rest.length+1,#[[],rfl,.nil],a zTb rfl,keyLt' κ x y,Looks.of_pure rfl,Qc Q7 (Qb 12) (Qc Vq (Qb 8) (mFn Gz (Qa (Qc wEq (Qb 11) (mC (.int 3))) Qe))),sO (.ref c),hl j y v' l D e3,!(a==b),DO d b ft ?_,((nO,lo+n)),.int 5,["pair",a,w,y,z],λf q e=>(by let f:∀l∈x.2,∃y r,l=y::r:=λl q=>XA (e l q)),byH L (O1++[x]) g,eoD ei,ZR Cr "kept",#[_,_,rfl,h],by rw[hN,l],items.map f,YM mo mi mv,Ny hl.symm,.int ys.length,.dT b,2*s1+e+e+n,Qc ZD (Qc Z0 (Qb 2) (mC (.int 11))) (mFn J0 (Qa (Qb 3) Qe)),Qc ZD (Qc Z0 (Qb 2) (mC qV6)) (mC (.int 4)),Qc ZD (Qc Z0 (Qb 3) (mC (.int 500))) (mFn J0 (Qa (Qb 5) Qe)),.int 50000,.str "own",.str "new",[QO p,.str nm],(by ·cases z:gAt G a<;>simp[c]),sub b,H.u.lt a b,H.k.lt _ b,Qai _,cne y c e,#[_,p],#[o,e,f.1],#[o,e,f.2.1],!Ki as bs,ks++[x],es.size>1,.tail _ g,.int 5000,.int 2800,.int 8400,hN w n k,pyHash v,Nl (Nc (Nc ?_)),sO m,(p,q)::r,SqL.of q,Ki as bs,λm=>Nl (Nc (FA m rfl ?_)),Fp ib lb,ex b o e,o ..,.str "m",Qt C,.int 100,a=k/\b=v,O1.length<=2,((t.part,t.k)),bs.length<=3,sO 1,f _ _ r,(by subst this;show r.inj i),#[n,rfl,c],Nr _ hw,by rw[Nz,c],FH hd _,KL (k:=g) t,.int 12,((.int en,h)),cd "or",(by unfold gL;simp only[QcY]),x.2 o g,((.ref aE,h)),c1 ||c2,.en i h,E (i a),J5 C Cr,Qa qk6 (Qa zlh (ã zk8)),sO (Ź (ĳ+1+i)),Qg 5 Zj (jL (Qa wj (ve (ŋ (mC jCj) qLe)))),Zz XN zCh [nO] ΢ (Qm (Qc wEq (Qc wIx (Qb 0) (mC (.int 0))) uL)) (Qb 0),Qa (Qb 3) (Qa Ž Qe),Qc wGt jI5 (mC (.int 0)),mFn Zs (Qa (mFn Qz (Qa iH (Qa zx3 Qe))) Qe),Qg 2 VW (Qa (Qc wIx (Qb 1) (wJ (mC (.int 1)))) (Qa (Qc wIx (Qb 0) (mC (.int 2))) Qe)),Qc wLt jO0 (mC (.int 2)),mFn Zs (Qa (mFn Qz (Qa (mC (.str "again")) Qe)) (Qa cJ Qe)),mFn Zs (Qa (mFn Qz (Qa (mC (.str "again")) Qe)) (Qa zcb Qe)),mFn Zs (Qa (mC (.int 1)) (Qa (mC (.int 1)) (Qa (mC (.int 1)) (Qa (mC (.int 3)) Qe)))),Qc Vq ya xij,Qc Vq ya xj2,Qa (Qb 3) jS9,lnW p (sq out j),Jt a "put" 3 lG (Qb 0) jS8,Qc ZD (vJ (mC (.int 3))) (mC T8),(funext λ_=>congr (congrArg bind ?_) (funext λu=>?_)),mFn Gz (Qa (Qc wEq (Qc ZD (vJ (mC (.int 3))) (mC T8)) (mC (.int 1))) Qe),sO (gvW l),Qu (sq out j),ltN n,mFn J0 (Qa (Qb 1) Qe),mFn J0 (Qa (Qc wIx (TR (mC (.int 0))) (mC (.int 1))) Qe),Qc Q7 (mC (.int 2)) (mFn Gz (Qa (Qc wEq (Qc ZD (Qc Z0 (Qb 2) (mC (.int 3))) (mC (.int 4))) (mC (.int 1))) Qe)),Qa (Qb 4) (Qa (Qb 5) Qe),mSl (Qb 5) Vn jXi,(St.srt (Pw b)).map .str,Qc wIs (Qb 2) (mC .non),Qg 1 Y1 (Qa (Qb 2) Qe),I.ok.cab x c P t,Sg.refl _,mC qV5,mC qV6,Qa (Qb 3) Qe,Nc (Nc ?_),Uq (Qb 9)]
noncomputable section
namespace _Z
/-! THE HAND LAYER, for ints, bools, texts, own classes, LISTS and tuples (index, slices, in, append, pop ..), calls, loops. Paste it whole ahead of your own text; what your proof does not reach may be deleted. -/
open Option renaming bind_eq_some_iff->Na,map_eq_some_iff->Nh,bind_some->Nv,map_some->EY,map_eq_none_iff->DE
open PySem renaming wpAny_bind->Nc,wpAny_pure->Nl,wpAny_mono->N7,wpAny_holding->Es,wpAny_newObj_type->Ez,wpAny_call_entry->EH,wpAny_callSpecial?_slot->EZ,wpAny_Call_Name_kw->E9,codeAny_builtin->Dm,wpAny_typeNameOfWhole_keyiter->Dv,mem_of_lookup->Dx,wpAny_setField->DA,wpAny_rule->DC,wpAny_passesOwn->DH,wpAny_setState_of->DO,wpAny_typeNameOf_keyiter->D0,wpAny_askSetting->D6,wpAny_getItem_str_slice->Fb,call_meets->Fg,sizeLine_eq->Fj,codeAny_mono->Fv,wpAny_typeOf->Fx,wpAny_notOrdered_dict->Fz,wpAny_fieldsOf->FA,plainId_quiet->FL,wpAny_loadPart'->FQ,wpAny_truthy_bool->Ic,wpAny_dictEntries->Ij,storedH_new->Io,wpAny_attempt->Ip,wpAny_isInstance->Iq,wpAny_isOneOf_keyiter->Iy,builtinLookup_eq_fast->Iz,wpAny_execs_nil->ID,post_val_or_str->IJ,wpAny_setEntries_of->IX,wpAny_newList->Lp,eqIsQuiet_byValue->Ls,wpAny_sequenceKey->Ly,wpAny_pyIter_list->Lz,wpAny_pyIter_slot->LA,noFill_tuple_add->LL,wpAny_specialOf->L8,wpAny_updateSeq->Od,wpAny_dictEpoch->Oe,size_of_entries->Of,typeLookup_type->Og,wpAny_ite_split->Oh,wpAny_pyNext_range_end->On,wpAny_pyIter_rangeiter->Oo,wpAny_seqItems->OA,isSubtype_type->OJ,wpAny_loadName_local->OQ,wpAny_pyIter_keyiter->OT,wpAny_updateDictKeys->OU,wpAny_pyIter_revIter->OV,seq_tuple_add->O0,wpAny_loadName_cell->O5,wpAny_dictFind_heap->Qq,Within->Yag,concat_meets->Yah,list_append->Yar,putAt->Yay,call->YaM
open Nat renaming le_trans->Nd,lt_of_lt_of_le->Ng,le_add_right->Nn,lt_of_le_of_lt->Np,le_refl->Nu,le_of_eq->Ny,le_of_lt->NF,zero_le->NN,not_lt->NQ,add_le_add_left->NR,ne_of_lt->NS,add_lt_add_left->NU,lt_irrefl->N2,lt_trans->Ea,zero_add->Ef,le_succ->Em,le_antisymm->Er,sub_le->EC,ne_of_gt->EF,lt_succ_self->EG,add_sub_cancel_left->E1,add_le_add_right->E2,not_le->E4,min_eq_left->Dg,mod_lt->Di,min_le_right->Dj,le_succ_of_le->DQ,sub_lt_left_of_lt_add->DS,le_add_left->Fh,lt_succ_of_lt->Fl,lt_trichotomy->Fm,succ_pos->FC,add_assoc->FJ,add_sub_cancel'->FP,add_right_comm->FW,lt_of_le_of_ne->F0,sub_self->II,not_lt_zero->IM,min_le_left->IP,lt_succ_iff->IQ,mul_le_mul_left->IY,min_eq_right->LM,add_comm->LO,lt_or_ge->LS,le_max_left->Oc,mul_le_mul->OF,lt_or_eq_of_le->Yaj,add_zero->Yak,le_of_lt_succ->Yat,succ_le_succ->YaJ
open PySem.W renaming Frag->Nf,keepIn->El,fnOf->EL,findIn->E5,emptyDict->E6,instObj->Dl,mg_of->DM,codeIn->DV,nsIn->DZ,plainGet->FF,hasDictIn->Ig,makesIn->IE,plainGet_of->IT,lookIn->IZ,callWith_K->Le,methodObj->Lu,plainOver->Lw,isFn->LJ,takerIn->L9,cellsFrom_some->Os,methodCall_KW->OC,pyHash_slot->O4,callWith_K0->O6,handedIn->Yaz,KeysLit->YaN,WalkO->YaQ
open List renaming getElem?_eq_getElem->Nj,getElem?_eq_some_iff->Nk,mem_singleton->Nq,mem_cons_of_mem->Nr,mem_cons_self->Nw,size_toArray->Nz,length_append->NA,getElem?_map->NB,length_map->ND,mem_append->NG,map_cons->NH,mem_cons->NI,mem_map->NJ,getElem?_append_left->NM,length_cons->NO,mem_iff_getElem?->NP,mem_append_left->NT,mem_append_right->NV,find?_cons->NZ,length_singleton->N1,mem_map_of_mem->N3,length_take->N4,append_nil->Eb,map_append->Ec,append_assoc->Eh,getElem?_append_right->Ei,take_append_drop->Ej,length_eq_zero_iff->Ek,getElem?_eq_none->Ep,lookup_cons->Et,getElem_mem->Eu,mem_flatMap->Ew,nodup_append->EB,drop_eq_getElem_cons->ED,extract_eq_take_drop->EE,replicate_succ->EI,mem_range->EK,drop_eq_nil_of_le->EN,map_nil->ET,dropLast_concat_getLast->EU,nodup_cons->EV,length_set->EW,findIdx?_eq_some_iff_getElem->EX,mem_of_getElem?->E3,not_mem_nil->Da,nodup_nil->Dd,mapM_cons->De,flatten_cons->Df,countP_append->Dk,pairwise_append->Dr,mem_of_mem_take->Dt,length_range->Du,length_reverse->Dy,length_pos_iff->Dz,take_length->DB,take_of_length_le->DD,perm_append_comm->DK,mem_iff_getElem->DR,pairwise_iff_getElem->DT,all_eq_true->DX,length_drop->DY,getElem?_range->D8,map_congr_left->D9,any_cons->Fd,mapM_nil->Fe,mem_filter->Ff,getElem?_set_self->Fi,length_pos_of_mem->Fk,drop_sublist->Fp,find?_append->Fq,map_map->FD,getElem?_set_ne->FE,mem_of_mem_drop->FI,getD_eq_getElem?_getD->FK,toList_toArray->FO,length_nil->FS,findIdx?_eq_none_iff->FT,mem_filterMap->FU,zip_cons_cons->FZ,length_filterMap_le->F3,getElem?_cons_succ->F7,countP_cons_of_neg->F9,ext_getElem?->Ia,getElem?_inj->Ii,filter_cons->Ir,countP_cons->Iu,mem_reverse->Iv,getElem?_toArray->IA,countP_mono_left->IB,forIn_cons->IC,foldl_cons->IG,reverse_reverse->IL,filterMap_cons->IS,filter_eq_self->IU,length_zipIdx->Lf,getElem?_drop->Li,find?_eq_none->Lj,length_eraseIdx_of_lt->Lo,map_take->Lr,reverse_perm->LB,pairwise_map->LC,flatMap_cons->LF,getElem?_eq_none_iff->LH,getElem?_take_of_lt->LK,range'_succ->LQ,length_erase_of_mem->LU,cons_append->LY,getElem?_replicate->LZ,all_eq_not_any_not->L3,pairwise_mergeSort->L7,of_mem_zip->Oa,nil_append->Ob,length_replicate->OD,dropLast_eq_take->OE,getElem?_reverse->OH,drop_drop->OK,pairwise_reverse->OL,concat_eq_append->OM,subset_cons_self->ON,length_filter_le->OO,mem_erase_of_ne->OW,getElem?_zipIdx->OX,getElem?_append->OY,all_cons->O2,mergeSort_perm->Yac,map_inj_right->Yap,getElem?_set->Yas,getElem_drop->Yav,getElem_take->Yaw,any_toArray->YaB,le_antisymm->YaE,zipIdx_cons->YaF,append_inj'->YaG,map_reverse->YaH,any_eq_true->YaK,range_succ->YaO
open PySem.Heap renaming get?_push_of_some->Nt,get?_push_size->NK,lt_size->NL,get?_update_self->EJ,get?_update_other->EM,size_push->F4
open Array renaming length_toList->NC,getElem?_eq_getElem->NW,getElem?_toList->N5,toList_append->N9,toList_extract->Ds,perm_iff_toList_perm->DN,toList_push->DP,toList_reverse->DU,getElem?_eq_none->Im,getElem?_setIfInBounds->Lc,size_setIfInBounds->LV,forIn_toList->Yaf,toList_inj->YaD
open PySem.Heap.SameBut renaming update->NX
open Option.some renaming inj->NY
open Bool renaming and_eq_true->N0,false_ne_true->N8,false_eq_true->Ee,or_eq_true->DI,not_eq_true'->Fo,and_false->Ft,not_eq_false'->Lg,and_true->Lk,or_false->Lm,eq_iff_iff->Om,not_false->OP,not_true->OZ,true_and->O3
open PySem.Paired renaming length->N6,snoc->Ov
open PyProof.Rows renaming callWith_type1->Eo,slot_tuple_getitem->Ey,callWith_builtin1->IF,subscriptTail_builtinR->Ot,boot_list->Oy,entry_tuple_getitem->O7,mem_zip_self->Yao,boot_sorted->Yaq
open Function renaming comp_def->EA
open Ne renaming symm->EO
open PySem.F renaming slot_dict_keyiterator_next->ER,plainAttrs_list->Dw,called_set->D7,slot_list_extend->Fy,args_tuple_add_2->FV,args_dict_keyiterator_next_1->FX,slot_list_getattribute->FY,entry_dict_keyiterator_next->F5,entry_tuple_add->F6,slot_tuple_add->Ik,slot_list_append->IH,slot_dict_setdefault->Lb,slot_dict_getitem->LG,type_list_extend->LX,slot_list_index->L4,plainAttrs_dict->L6,slot_dict_iter->Ox,slot_dict_get->OG,args_list_append_2->OR,args_list_extend_2->OS,entry_list_append->O8,entry_list_extend->O9,plain_extend_loop->Yaa,slot_list_pop->Yai
open Int renaming le_trans->ES,toNat_natCast->E7,le_of_lt->Dh,le_of_eq->Fw,not_lt->FG,natCast_emod->Iw,ediv_nonneg->IK,le_antisymm->Oi,emod_nonneg->Ol,le_refl->Yax,natCast_ediv->YaI,not_le->YaL
open Classical renaming byContradiction->E8
open PySem.Around renaming under_plainId->Dq
open LawfulBEq renaming eq_of_beq->DF
open List.Perm renaming append_left->DJ,cons_inv->Yan
open List.Pairwise renaming sublist->DL,imp_of_mem->LW
open Iff renaming rfl->DW
open PySem.Obj renaming data_mapDictKeys->FH,isFreed_of_dict->IW,data_mapFields->Yal,data_mapDict->YaC
open Prod.mk renaming injEq->FN
open PyProof.Rows.F renaming plain_set_update_loop->F8,entry_set_update_loop->L5
open PySem.Value renaming isStrOf_shape->IR
open PySem.Builtin.Dict_items renaming ownsTuple->La
open PySem.Calls renaming spliced_cons->Ld,Name_function_global->Ll,spliced_nil->Lx,call_function_entry->LI,callWith_builtin->Ou
open Int.ofNat renaming inj->Lq
open PySem.Challenge renaming pw_doneroom_k83_whole_a_line_put_in->LD
open Prod renaming ext->LN
open PySem.Txt renaming slice_le->LP
open PySem.AutoSeq1 renaming sub_tuple_tuple->LR
open List.cons renaming injEq->Oj,inj->YaR
open PyProof renaming noPylong_small->Oq
open PySem.Str renaming ofString_eq_toList->Oz
open PyProof.Rows.StrsAre renaming length->OI
open Std.Legacy.Range renaming forIn_eq_forIn_range'->Yab
open PySem.SeqAt.EqAt renaming int_str->Yad,str_int->Yae
open PySem.Code renaming quiet_builtin->Yam
open PySem.WalksT renaming enumerateD->Yau
open PySem.IsL renaming update->YaA
open PyProof.Rows.IsTup renaming new->YaP
open PySem PySem.Spec PyProof.Rows
open Option renaming some→sO,none→nO
namespace L2
noncomputable abbrev Key:=Sum Int Str
abbrev QaN:Key->Value->Bool
 |Ø k,v=>Value.isInt k v
 |å x,v=>Value.isStrOf x v
abbrev Qsk(w:World):Key->Int
 |Ø k=>hashInt k
 |å x=>qXa
def Q8:∀{k:Key} {v:Value},QaN k v=true->(∃i t,k=Sum.inl i/\v=qN1)\/(∃x t,k=Sum.inr x/\v=zXb t)
 |Ø i,v,h=>by
  let#[t,e]:=Value.isInt_shape (k:=i) (v:=v) h;show ø #[i,t,rfl,e]
 |å x,v,h=>by
  let#[t,e]:=IR (x:=x) (v:=v) h;show Ũ #[x,t,rfl,e]
def QbI(i:Int)(t:Tok):QaN zh4 TX=true:=by simp[QaN,Value.isInt]
def Qc6(x:Str)(t:Tok):QaN zh5 qR8=true:=by simp[QaN,Value.isStrOf]
def QmK(a b:Int):decide (zGj=zSh)=zIf:=by
 show ny e a b
 ·let h:¬zGj=zSh:=λq=>e (Sum.inl.inj q);rw[yF h];show jTi e
def QmT(a b:Str):decide (zH0=zSi)=p6 a b:=by
 show ny e a b
 ·let h:¬zH0=zSi:=λq=>e (Sum.inr.inj q);rw[yF h,yF e]
def QkV(a:Int)(b:Str):decide (zGj=zSi)=false:=jl3
def Qk9(a:Str)(b:Int):decide (zH0=zSh)=false:=jl3
abbrev JP(prog:Program)(w:World):PySem.KeyKind prog w Key where
 is:=QaN
 hash:=Qsk w
 inj:=λv a b g f=>by
  show iN g i t x
  ·show zx5 f j
   ·show zNh;rw[c]
   ·show zSj
  ·show zx5 f j
   ·show zSj
   ·show zNh;rw[c]
 byValue:=λk v h=>by
  rcases Q8 h with⟨i,t,rfl,rfl⟩|⟨x,t,rfl,rfl⟩<;>rfl
 pyHash:=λd h=>by
  show iN d i t x
  ·show qva
  ·show qvb
 eqBool:=λhu d h=>by
  rcases Q8 hu with⟨i,t,rfl,rfl⟩|⟨x,t,rfl,rfl⟩
  ·show iN d j u y
   ·rw[QmK]at h;show wpAny_eqBool_int h
   ·rw[QkV]at h;show Yad i t y u _ _ _ _ h
  ·show iN d j u y
   ·rw[Qk9]at h;show Yae x t j u _ _ _ _ h
   ·rw[QmT]at h;show wpAny_eqBool_str h
 «strs»:=λk x t v h=>by
  show zx5 h i
  ·show zSj
  ·show zNh
   subst c;show A8 v
def Ut(prog:Program)(w:World)(i:Int)(t:Tok):(JP prog w).is zh4 TX=true:=QbI i t
def UH(prog:Program)(w:World)(x:Str)(t:Tok):(JP prog w).is zh5 qR8=true:=Qc6 x t
inductive V where
 |non|bl (b:Bool)|int (i:Int)|str (x:Str)|byt (b:Array UInt8)|flt (b:UInt64)|ref (a:Addr)|ty (n:String)
 deriving DecidableEq
abbrev RelV:V->zyf
 |.non,u=>qR9
 |.bl b,u=>qIj
 |Ä i,u=>jXc
 |Æ x,u=>jXd
 |.byt b,u=>qp3
 |.flt b,u=>qp4
 |Ã a,u=>SI
 |.ty n,u=>qJ0
noncomputable abbrev Vals:À V->oS:=Paired RelV
def Vals.length{xs:À V}{us:È}(r:ϟ):qsc:=N6 r
def JY{a b:Type}{F:a->b->Prop}{l₁:À a}{l₂:À b}{j:Nat}{x:a}(p:Cl F)(e:l₁[j]?=sO x):∃v,l₂[j]?=sO v/\F x v:=by
 induction p generalizing j with
 |nil=>cases e
 |cons r t c=>
  cases j with
  |zero=>show Ŭ e qXc
  |succ j=>show c e
def Vals.get{xs:À V}{us:È}{i:Nat}{x:V}(p:ϟ)(e:zf1=sO x):∃u,qXf/\ô x:=
 JY p e
def Vals.append{xs ys:À V}{us ws:È}(a:ϟ)(s:Vals ys ws):Vals zM4 (us++ws):=
 a.rec s λr _ h=>Ē r h
def Vals.take:∀{xs:À V} {us:È} (n:Nat),ϟ->Vals (xs.take n) (us.take n)
 |_,_,0,_=>.nil
 |_,_,_+1,.nil=>.nil
 |_,_,n+1,Ē r t=>Ē r (Vals.take n t)
def Vals.drop:∀{xs:À V} {us:È} (n:Nat),ϟ->Vals (xs.drop n) (us.drop n)
 |_,_,0,r=>r
 |_,_,_+1,.nil=>.nil
 |_,_,n+1,.cons _ t=>Vals.drop n t
abbrev RelO:Υ V->M7->Prop
 |Û v,sO u=>ô v
 |none,nO=>True
 |_,_=>False
abbrev KV{κ:Type}:jW->HK->Prop:=Paired λ(p:κ×V) (q:κ×Value)=>zcj/\qRa
inductive Tr where
 |i (n:Int)
 |s (x:Str)
 |t (ks:Ŧ)
noncomputable instance trDec:DecidableEq Tr:=qab
abbrev IsT(h:Heap):jdd
 |0,_,_=>False
 |_+1,.i k,v=>(∃t,v=.int k t)\/∃b:Bool,v=zd0/\qqd
 |_+1,.s x,v=>qFg
 |n+1,.t ks,v=>∃a c,ϒ/\ka c/\qsd n
def Qe6{d c:Type}{F:zQ7}(hi:∀x y v,F x v->F y v->x=y){xs ys:À d}{vs:À c}(p:Paired F xs vs)(q:Paired F ys vs):xs=ys:=by
 induction p generalizing ys with
 |nil=>cases q;rfl
 |cons a s e=>cases q with|cons b t=>rw[hi _ _ _ a b,e t]
def QbN{h:Heap}{n:Nat}{x:Tr}{a:Addr}(d:IsT h n x ĭ):∃m ks c,n=m+1/\x=.t ks/\ka c/\qsd m:=by
 cases n with
 |zero=>show jB d
 |succ n=>
  cases x with
  |i k=>rcases d with⟨t,e⟩|⟨b,e,_⟩<;>cases e
  |s y=>show Sj d
  |t ks=>show(ň f c e p q d,ß e #[n,ks,c,rfl,rfl,p,q])
def UN{h:Heap}{a:Addr}{x y:ľ}(e:ka x)(d:ka y):x=y:=by
 let#[o,g,_,n,f]:=e;let#[i,c,_,j,b]:=d;show ä g c;rw[f]at b;injection b
abbrev gT:Value->Tr
 |.int i _=>.i i
 |zd0=>.i zh6
 |.str x _=>.s x
 |_=>.t []
def Qkr{h:Heap}{n:Nat}{x:Tr}{v:Value}(c:lj x):(∃a,ϒ)\/x=gT v:=by
 cases n with
 |zero=>show jB c
 |succ n=>
  cases x with
  |i k=>rcases c with⟨t,rfl⟩|⟨b,rfl,rfl⟩<;>show yU
  |s y=>show(ū,yU)
  |t e=>let#[a,d,rfl,_]:=c;show Ø (yS a)
def Gf{h:Heap}:∀{n:Nat} (x y:Tr) (v:Value),lj x->lj y->x=y:=by
 intro n
 induction n with
 |zero=>
  intro _ _ _ b _;show jB b
 |succ n j=>
  intro x y v b d
  by_cases r:∃a,ϒ
  ·show Ψ a r;let#[m,t,i,e,rfl,p,q]:=QbN b;let#[o,s,c,l,rfl,g,f]:=QbN d;show B7 e l;cases UN p g;rw[Qe6 (λx y v=>j x y v) q f]
  ·rw[qN2 b,qN2 d]
def XW{d c:Type}{F G:zQ7}(f:qse){l₁:À d}{l₂:À c}(p:Cl F):Cl G:=
 jkh
def Qct{h h':Heap}{d:Addr}{o:Obj}{es ep}(j:oM)(hd:zD7)(r:Heap.SameBut d h h'){n:Nat}(k:Tr)(v:Value)(x:lj k):qRb:=by
 induction n generalizing k v with
 |zero=>show jB x
 | succ n p=>
  cases k with
  |i k=>show x
  |s k=>show x
  | t w=>
   let#[a,f,e,#[l,c,u,m,b],q]:=x
   let g:a≠d:=by
    rintro rfl
    show ä c j;rw[hd]at b;show nomatch b
   show#[a,f,e,#[l,qO r a g c,u,m,b],XW p q]
set_option backward.eqns.deepRecursiveSplit false in
abbrev hN(w:World):Nat->Tr->Int
 |0,_=>0
 |_+1,.i k=>hashInt k
 |_+1,.s x=>qXa
 |n+1,.t ks=>reduceHash (Builtin.Tuple.tupleHashOf (ks.map (hN w n)))
set_option backward.eqns.deepRecursiveSplit false in
abbrev dN:Nat->Tr->Nat
 |0,_=>0
 |_+1,.i _=>1
 |_+1,.s _=>1
 |n+1,.t ks=>qje+1
section
variable{prog:Program}{w:World}{E:Õ}
def QbZ{n:Nat}{A:Around}(e:jh2) :
  ∀(ks:Ŧ) (vs:È) (s:Shared) (b:Array Int) (Q:Array Int->Ω),Paired qBg ks vs ->
  (∀a,a.toList=b.toList++ks.map (hN w n)->Q a { s with toks:=s.toks+qje }) ->
  ù (forIn vs b λx r=>do let h <-pyHash x;pure PUnit.unit;pure (uS (r.push h))):=by
 intro ks
 induction ks with
 |nil=>
  intro _ s b Q x h;cases x;show ϩ (h b Ç)
 | cons k ks f=>
  intro _ s b Q x h;cases x with
  |cons d c=>
   rw[IC];show(Ë (Nc (e k _ s _ d ?_)),Ë zF8);refine f _ _ _ Q c (Ò a g);let:=h a (Μ g);simpa[FJ]using this
def Qkd:∀(n:Nat) (A:Around),qI->jh2:=by
  intro n
  induction n with
  |zero=>show λ_ _ _ _ _ _ x _=>x.elim
  | succ n f=>
   intro A hu k v s Q x h;cases k with
   |i k=>
    show zAh x b
    · show qva
    · refine O4 (T:="bool") rfl F.slot_bool_hash entry_int_hash (args_int_hash _) qmj (õ qx) ?_;cases b
      show jd (show Ů (do ret (<-mkInt 0)) from Nc jP6) (show Ů (do ret (<-mkInt 1)) from Nc jP6)
   |s y=>
    show(ü x,qvb)
   |t d=>
    let#[a,e,rfl,#[o,c,g,m,hd],q]:=x;refine O4 (T:="tuple") #[_,c,g] F.slot_tuple_hash F.entry_tuple_hash (F.args_tuple_hash_1 _) qmj (õ qx) ?_;apply Ů (Builtin.Tuple.tupleItemsOf ĭ>>=_);show(Ë (wpAny_tupleItemsOf c hd ?_),pG);rw[<-Yaf];refine QbZ (n:=n) (λk v s Q=>f A.in1 wb k v s Q) d _ s #[] _ q (Ò b j);apply By (retInt (Builtin.Tuple.tupleHashOf b.toList));rw[j];show Ļ (wpAny_mkInt (Ba #[_,_,rfl,?_]));simpa[hN,dN,FJ]using h
def QjI{n:Nat}{h:Heap}{e:Nat->Bool}:∀{ks ls:Ŧ} {us vs:È},Paired zQ9 ks us->Paired zQ9 ls vs->(∀(j:Nat) (x y:Tr),ks[j]?=sO x->j5=sO y->e j=p6 x y) ->
  ((List.range (min us.length vs.length)).all e&&us.length==vs.length)=qjf:=by
 intro ks ls us vs p q f;show Pc i p g q;rw[<-i,<-g]
 by_cases c:ks.length=ls.length
 ·by_cases d:ks=ls
  ·subst d;simp only[Nat.min_self,beq_self_eq_true,Lk,decide_true];rw[DX];intro j b;rw[EK]at b;rw[f j ks[j] ks[j] zXj zXj];simp
  ·let:qjf=false:=decide_eq_false λz=>d (Tr.t.inj z);rw[this,Bool.and_eq_false_iff];left;let:∃j,ks[j]?≠j5:=E8 λz=>d (Ia λj=>E8 λy=>z (ĺ j y));let#[j,b]:=this;let a:j<ks.length:=E8 λz=>b (by rw[Ep gF,Ep (Nd (ħ c) gF)]);rw[List.all_eq_false];refine#[j,EK.mpr Â,?_];rw[f j ks[j] ls[j] zY0 (Nj qFh)];intro z;rw[decide_eq_true_eq]at z;show b (by rw[Nj a,Nj qFh,z])
 ·let l:(ks.length==ls.length)=false:=qBi c;rw[l,Ft];show(decide_eq_false λz=>c (by rw[Tr.t.inj z])).symm
open SeqAt in
def Ql7 {s:Shared}:∀(n:Nat) (A:Around),qI->∀(x y:Tr) (u v:Value),cH x u->cH y v->EqAt A s u v jz9:=by
  intro n
  induction n with
  |zero=>show λ_ _ _ _ _ _ c _=>c.elim
  | succ n I=>
   intro A hu x y u v c f;cases x with
   |i a=>
    cases y with
    | i b=>
      let hd:decide (Tr.i a=Tr.i b)=zIf:=by
        show jl4 a b (Tr.i.inj q)
      rw[hd]
      rcases c with⟨t,rfl⟩|⟨p,rfl,rfl⟩<;>rcases f with⟨h,rfl⟩|⟨q,rfl,rfl⟩
      · show EqAt.int_int a t b h
      · show EqAt.int_bool a t q
      · show EqAt.bool_int p b h
      · let:=EqAt.bool_bool (A:=A) (s:=s) p q;cases p<;>cases q<;>show this
    | s b=>
      show(Ψ h f,dt c p)
      · show EqAt.int_str a t b h
      · show EqAt.bool_str p b h
    | t l=>
      show(rV f,dt c q)
      · show EqAt.int_tuple a t p qx
      · show EqAt.bool_tuple q p qx
   |s b=>
    cases y with
    | i a=>
      show(Ψ h c,dt f p)
      · show EqAt.str_int b h a t
      · show EqAt.str_bool b h p
    | s d=>
      show Ϯ c h f
      let hd:decide (Tr.s b=Tr.s d)=(b==d):=by
        show jl4 b d (Tr.s.inj q)
      rw[hd];show EqAt.str_str b t d h
    | t l=>
      show(rV f,ū,jW8,EqAt.str_tuple b t p qx)
   |t l=>
    cases y with
    | i a=>
      show(rV c,dt f q)
      · show EqAt.tuple_int a t p qx
      · show EqAt.tuple_bool q p qx
    | s b=>
      show(rV c,ü f,jW8,EqAt.tuple_str b t p qx)
    | t m=>
      let#[ad,g,rfl,p,q]:=id c;let#[bd,o,rfl,O,H]:=id f
      by_cases C:ad=bd
      · subst C;let:=Gf _ _ _ c f;rw[this,decide_eq_true rfl];show qXi
      · refine EqAt.of_refs C ?_;let X:=I A.in1 jki
        let N:=RcAt.tuples (A:=A) (s:=s) (e:=jh6) p O qx (λj G D=>by
          show Pc Q q P H;let U:k6:=Ϲ Q G
          let S:j<m.length:=Ϲ P D
          show sK x c l j #[l[j],Nj U]
          show sK y f m j #[m[j],Nj S]
          let#[u,r,L]:=JY q c;let#[t,B,M]:=JY H f;rw[c,f]
          let Z:g[j]=u:=by
            rw[N5,NW G]at r;show NY r
          let Y:o[j]=t:=by
            rw[N5,NW D]at B;show NY B
          rw[Z,Y]
          show X x y u t L M)
        let:=QjI (e:=jh6) q H (λj x y G D=>by simp only[G,D]);rw[NC,NC]at this;rw[this]at N;show N
def Qhg {A:Around} {s:Shared}:∀(n m:Nat) (k:Tr) (v:Value) (Q:Sm),cH k v->n<=m->Q true s->ù (eqIsQuiet m v):=by
  intro n
  induction n with
  |zero=>show λ_ _ _ _ x _ _=>x.elim
  | succ n C=>
   intro m k v Q x I h;cases k with
   |i k=>
    show zAh x b
    · show zIg
    · show zIg
   |s k=>
    show(ü x,zIg)
   |t B=>
    obtain⟨m,rfl⟩:∃z,m=z+1:=#[m-1,Ñ]
    let#[a,e,rfl,#[o,g,D,l,hd],q]:=x;let j:s.TypeIs ĭ "tuple":=ź o g D
    unfold eqIsQuiet;show Ë (L8 j F.slot_tuple_eq.lookup ?_);apply Ů (isInstance ĭ zFa>>=_);show(Ë (Iq j isSubtype_tuple_tuple ?_),zF9,Ë (OA g hd ?_),pG);apply Ů (forIn e _ _);rw[<-Yaf];refine wpAny_forIn_list _ (λrest r d=>r.1=nO/\d=s/\∃c,Paired qBg c rest) _ ?_ ?_ _ _ #[rfl,rfl,B,q]
    · rintro v rest r d ⟨f,rfl,c,y⟩
      cases y with
      | cons u p=>
        show(Ë (C m _ _ _ u Â ?_),zF9,ϩ #[rfl,rfl,_,p])
    · rintro⟨H,G⟩ d ⟨f,rfl,_⟩
      show(wV f,Nl h)
#print"-"
abbrev Qk(prog:Program)(w:World):HeapKind prog w Tr where
 is:=λh k a=>IsT h 8 k ĭ
 hash:=hN w 8
 draws:=dN 8
 room:=λA=>A.units+8<cLine
 inj:=λc b=>Gf _ _ _ c b
 keeps:=λx f hd e=>Qct f hd e _ _ x
 pyHash:=λhu d h=>Qkd 8 _ hu _ _ _ _ d h
 eqBool:=λhu c b h=>Ql7 8 _ hu _ _ _ _ c b _ _ _ _ h
 quiet:=λd h=>Qhg 8 8 _ _ _ d ÿ h
abbrev kV:Key->V
 |Ø i=>Ä i
 |å x=>Æ x
inductive HO where
 /-- a list -/
 |lst (xs:À V)
 /-- a tuple (never changes) -/
 |tup (xs:À V)
 /-- a dict whose keys are ints and texts;one whose keys are tuples of ints and texts (the empty one is both) -/
 |dK (kvs:č V)|dT (kvs:ņ)
 /-- a set of ints: its members,its size -/
 |set (S:Int->Bool) (n:Nat)
 /-- an instance of the class at C,its dict at dx,its attributes -/
 |ins (C dx:Addr) (fs:ž V)
 /-- the dict of the instance at x -/
 |own (x:Addr)
 /-- the dict of an exception -/
 |xd (fs:ž V)
 /-- a bound method,f of x -/
 |met (f x:Addr)
 /-- a range object lo,lo+1,.. below hi -/
 |rng (lo hi:Int)
 /-- a thing that is known to the object (the script;a dict while a loop walks it): read,never written while it is so -/
 |frz (o:Obj) (u:HO)
 /-- a Qhb object's table -/
 |tbl (ps:ľ)
 /-- any other thing,by what is true of its one object (a def of one's own: SetO a S n:=HO.ext λh=>..) -/
 |ext (φ:M0)
noncomputable abbrev Hp:=Addr->za1
abbrev upd(H:Hp)(a:Addr)(o:HO):Hp:=λb=>if b=a then sO o else H b
def ZL{H:Hp}{a:Addr}{o:HO}:upd H a o a=sO o:=by unfold upd;rw[Ĳ]
def Qp{H:Hp}{a b:Addr}{o:HO}(h:b≠a):upd H a o b=H b:=by unfold upd;rw[Í h]
def QhE{H:Hp}{a:Addr}{o u:HO}:upd xl a u=upd H a u:=by
 funext b;unfold upd;split<;>rfl
def Jb{H:Hp}{a b:Addr}{o:HO}(h:fY)(h':ώ):a≠b:=by
 intro e;subst e;show ä h h'
section
variable(P:Program)(w:World)
abbrev ObjOk(H:Hp)(h:Heap)(a:Addr):HO->Prop
 |.lst xs=>Bt/\∃(c:È) (n:Nat),pE c/\ο a=zH c n
 |.tup xs=>Bt/\∃c:È,pE c/\IsTup h a c.toArray
 |.dK b=>zra
 | .dT b=>zD8/\wL/\∃xs:Hj,
   Paired (λ(p:Tr×Addr×V) (q:Tr×zNj)=>jW9) b xs /\
   ∃o es ep,ux/\o.ExactDict/\zD7/\es.toList=xs.map (entryOfKey (Qk P w))/\(xs.map (·.1)).Nodup/\ep=es.size
 |.set S n=>h.SetOf (intKind P w) a S n
 | .ins C e fs=>H e=qXj/\qFj/\e≠a/\ο a=sO (Dl C e) /\
   ∃d,h.Ns1 e d/\(∀f,zCi d)/\Yag d (fs.map (·.1))
 |.own _=>∃o,ux
 |.xd fs=>∃d,h.Ns1 a d/\∀f,zCi d
 |.rng lo hi=>∃t u v,ο a=sO { cls:=wN,data:=zr8 }
 |.frz o u=>ux/\ObjOk H h a u
 |.tbl ps=>ο a=sO { cls:=.none,data:=.fields ps }
 |.met f x=>ο a=sO (Lu xw AD)
 |.ext g=>g h/\(∃o,ux)/\∀h1 h2:Heap,g h1->(∀o,AK h1=sO o->AK h2=sO o)->g h2
abbrev HOk(H:Hp)(h:Heap):Prop:=∀a o,fY->Md o
#print"-"
section
variable{P:Program}{w:World}{H H':Hp}{h h':Heap}{a:Addr}{o:HO}
def ObjOk.lt(x:Md o):zK4:=by
 cases o with
 |lst c=>let#[_,_,_,_,e]:=x;show NL e
 |tup c=>let#[_,_,_,p]:=x;show p.lt
 |dK b=>show qc6
 |dT b=>show qc6
 |set S n=>let#[o,_,_,_,e,_]:=x;show NL e
 |ins C j fs=>let#[_,_,_,e,_]:=x;show NL e
 |own y=>let#[_,e]:=x;show NL e
 |xd fs=>let#[_,#[_,_,_,e,_],_]:=x;show NL e
 |rng lo i=>let#[_,_,_,e]:=x;show NL e
 |frz ob u=>let#[e,_]:=x;show NL e
 |tbl g=>show jRb
 |met f y=>show jRb
 |ext d=>let#[_,#[_,e],_]:=x;show NL e
def Paired.mapP{d c:Type}{F G:zQ7}{l₁:À d}{l₂:À c}(p:Cl F)(f:qse):Cl G:=
 jkh
def ObjOk.stay(x:ObjOk P w H h a o)(k:∀b u,(b=a\/H b=sO jue)->h.get? b=sO u->Aw=sO u)
  (E:∀b,zj3 jue) (L:zgd):gd H' a o:=by
 induction o with
 |lst xs=>let#[z,j,n,r,e]:=x;show#[z,j,n,r,yv]
 |tup xs=>let#[z,j,r,ob,e,c]:=x;show#[z,j,r,ob,yv,c]
 |dK s=>let#[z,y,B,r,ob,g,i,e,c]:=x;show#[z,y,B,r,ob,g,i,yv,c]
 |dT s=>
  let#[z,y,xs,r,ob,g,i,e,c]:=x;show#[z,y,xs,r,ob,g,i,yv,c]
 |set S n=>let#[ob,g,i,t,e,c]:=x;show#[ob,g,i,t,yv,c]
 |ins C N fs=>
  let#[d,z,ne,e,m,#[l,g,i,G,c],r]:=x;show#[E _ d,z,ne,yv,m,#[l,g,i,k _ _ (.inr d) G,c],r]
 |own y=>let#[ob,e]:=x;show#[ob,yv]
 |xd fs=>let#[m,#[l,g,i,e,c],r]:=x;show#[m,#[l,g,i,yv,c],r]
 |rng lo M=>let#[t,u,v,e]:=x;show#[t,u,v,yv]
 |frz ob u D=>let#[e,q]:=x;show#[yv,D q]
 |tbl A=>
  let e:AK h=jj7:=x;apply AK h'=jj7;show jl5
 |met f y=>
  let e:AK h=sO jib:=x;apply AK h'=sO jib;show jl5
 |ext I=>let#[p,#[o,e],st]:=x;show#[st _ _ p λo q=>k _ _ jgc q,#[o,yv],st]
def HOk.lt(x:BG)(e:fY):zK4:=(x a o e).lt
def HOk.fresh(x:BG)(e:zIh):H a=nO:=by
 cases q:H a with
 |none=>rfl
 |some u=>show û (Ng (x.lt q) e) vI
def HOk.kept(x:BG)(k:zt):ja6 H:=λa o e=>
 (x a o e).stay (λb u _ q=>gc) zO0 AF
def HOk.laid(x:BG)(k:zt)(g:zIh)(new:gd xl a o):ja6 xl:=λb u e=>by
 let d:=x.fresh g
 show zw3 f a e
 ·rw[Qp f]at e;show(x b u e).stay (λc v _ q=>k c v q) (λc q=>jxg) λc i q=>jxg
#print"-"
abbrev Rd(H:Hp)(a:Addr)(u:HO):Prop:=H a=sO u\/∃o,H a=sO jj8
def Rd.ok{P:Program}{w:World}{H:Hp}{h:Heap}{a:Addr}{u:HO}(r:PC u)(x:BG):Md u:=by
 rcases r with r|⟨o,r⟩
 ·show x a u r
 ·let#[_,q]:=x a _ r;show q
abbrev Mut:za1->Prop
 |gg=>True
 |some (.dK _)=>True
 |some (.dT _)=>True
 |some (.set _ _)=>True
 |some (.ins _ _ _)=>True
 |some (.ext _)=>True
 |_=>False
section
variable{P:Program}{w:World}{H:Hp}{h h':Heap}{x e:Addr}{o':HO}
def HOk.write(ok:BG)(i:zT1)(o:zz7)(k:jc4)(m:zli)
  (new:gd (ć x o') x o'):ja6 (ć x o'):=λb u q=>by
 let d:∀c y,H c=sO (.own y)->c≠x:=λc y r z=>zCj r i
 let f:∀c g,H c=sO (Ŋ g)->c≠x:=λc g r z=>zCj r i
 show zw3 l x q
 ·rw[Qp l]at q
  show Ā a b e
  ·let n:H b=sO m9:=by
    show Ϣ o z
    ·show û (Ć a z) l
    ·show ī a z
   show(ä q n,pU v p m #[v,Ϲ a p])
  ·refine(ok b u q).stay (zN7 j r) (λc r=>jm (d c b r) r) λc g r=>jm (f c g r) r
   rcases j with rfl|j
   ·show a
   ·rintro rfl
    show Ϣ o z
    ·show d c b j z
    ·show(ä j z,l rfl)
#print"-"
structure Un(fs ex:List Addr)(H H':Hp)(h h':Heap):Prop where
 keep:∀b o,o0->xC->b∉fs->SJ->Aw=sO o
 slot:∀b o,o0->xC->b∈fs->SJ->∃sl,Aw=sO { o with slots:=sl }
 free:∀b o,o0->xC->SJ->H' b=nO
 there:∀b o,o0->SJ->∃o',Aw=sO o'
 tups:zgd
 frzs:jca
 tbls:jgh
section
variable{fs fs' ex ex':Ŷ}{H H1 H2:Hp}{h h1 h2 h':Heap}{a x e:Addr}{o:HO}
def Un.any(u:Un fs ex H H1 h h1){b:Addr}{ob:Obj}(q:jj h=sO ob)(n:ώ)(c:SJ):∃f,jj h1=sO { ob with slots:=f }:=by
 by_cases d:b∈fs
 ·show u.slot b ob q n d c
 show Š #[ob.slots,u.keep b ob q n d c]
def Un.kept(k:zt):Un fs ex H H h h':=
 #[λb ob q _ _ _=>zW0,λb ob q _ _ _=>#[ob.slots,zW0],λ_ _ _ n _=>n,λb ob q _=>#[ob,zW0],jq q,qRd,λ_ c q=>#[#[],vC q]]
def Un.refl:Un fs ex H H h h:=Un.kept AF
def Un.laid(k:zt)(f:zIh)(c:H a=nO):Un fs ex H xl h h' where
 keep:=λb u q _ _ _=>gc
 slot:=λb u q _ _ _=>#[u.slots,gc]
 free:=λb u q n _=>jm (NS (Ng (NL q) f)) n
 there:=λb u q _=>#[u,gc]
 tups:=λb d q=>jm zT0 q
 frzs:=λb u d q=>jm zT0 q
 tbls:=λb g q=>#[#[],by rw[Qp zT0,q];simp]
def Un.write(d:zT1)(m:zz7)(k:jc4)(g:zli):Un fs ex H (ć x o) h h':=by
 let i:∀b,ώ->b≠x:=λb n z=>zCj n d
 let j:∀b,ώ->b≠e:=λb n z=>by
  subst z
  show Ϣ m r
  ·show i b n r
  ·show ä n r
 let f:∀b u,zbe->¬Mut (sO u)->b≠x:=λb u q nm z=>by subst z;rw[q]at d;show nm d
 refine#[λb u q n _ _=>qG0,λb u q n _ _=>#[u.slots,qG0],λb u q n _=>jm (i b n) n,λb u q _=>?_,
  λb l q=>jm zE5 q,λb u l q=>jm zE5 q,λb p q=>#[#[],by rw[Qp zE5,q];simp]]
 show Ā c b e
 ·show wg c g
 show Š #[u,k b u c q]
#print"-"
abbrev trk(h:Heap)(H:Hp):Ŷ:=(List.range h.objs.size).filter λa=>(H a).isSome
abbrev Qe3(h:Heap)(H:Hp):Heap:=PySem.W.hideAll h zQb
def Qbl(h:Heap)(H:Hp):(Qe3 h H).objs.size=h.objs.size:=PySem.W.hideAll_size _ _
def Qe0{h:Heap}{H:Hp}{b:Addr}{o:Obj}(e:uA)(n:ώ):zFb=sO o:=
 PySem.W.hideAll_get _ e λa=>by
  let q:(H b).isSome=true:=(Ff.mp a).2;rw[n]at q;simp at q
def Qj0{h:Heap}{H:Hp}{b:Addr}{o:Obj}(e:zFb=sO o):uA/\ώ:=by
 let a:uA:=PySem.W.of_hideAll zQb e;show lU a;cases q:H b with
 |none=>rfl
 |some x=>
  let c:b∈trk h H:=Ff.mpr #[EK.mpr (NL a),yh q];let z:zFb=nO:=PySem.W.hideAll_none zQb c;show ä z e
structure Mod(K:Nf)(mg:ý)(base:Heap):Prop where
 kin:K.In base
 glob:nK
 blt:∃mb,base.Ns builtinsNs mb/\∀x:Str,qL->mb x=wD
 nolimit:base.NoLimit
structure Cx where
 prog:Program
 w:World
 K:Nf
 mg:ý
 base:Heap
 A:Around
 N:Á
 s₀:Shared
 H₀:Hp
 env:Env
 outer:ŷ
 stack:ŷ
 ex:Ŷ
 fn:Str->Bool
 calm:Bool
 pn:Ö
 xe:Õ
abbrev frs(l:ŷ):Ŷ:=l.filterMap (·.frame)
noncomputable abbrev Cx.fs(X:Cx):Ŷ:=frs X.outer
abbrev Vis(a:Scope)(x:Str):Prop:=xq=yT\/xq=π\/xq=y9
abbrev Loc(a:Scope)(x:Str):Prop:=jcf
abbrev Qrq(env:Env)(h:Heap)(m:ý)(x:Str)(u:Value):Prop:=
 (fQ x=yT/\m x=sO u)\/((fQ x=π\/fQ x=y9)/\∃c,env.cells.lookup x=sO c/\h.IsCell c (sO u))
structure Cx.Ok(X:Cx):Prop where
 mod:qsh
 kind:X.env.scope.kind=.function
 glob:X.env.globals=mainGlobals
 blt:X.env.builtins=builtinsNs
 above:X.s₀.heap.objs.size<=X.env.locals
 inj:∀x y c,jK->rJ y=sO c->x=y
 has:∀x,jt9->∃c,jK
 cab:∀x c,cg->jK->X.s₀.heap.objs.size<=c
 hd:ţ->X.A.handled=nO
 frames:X.A.frames=sO X.stack
 stk:X.stack=X.outer\/(X.stack=X.env::X.outer/\X.env.frame=sO X.env.locals)
 exf:∀b∈X.ex,zFc/\∀x c,jK->c≠b
 bs:∀b o,Tj->zk0/\qY1
 bsz:X.base.objs.size<=X.s₀.heap.objs.size
 noex:∀b o,Tj->b∉X.ex
 exfs:∀b∈X.ex,zW1
 funs:X.s₀.heap.FunFrames X.base X.outer
 frf:∀b∈X.fs,qY1
structure Inv(X:Cx)(pins:Ö)(σ:sL V)(H:Hp)(s:Shared):Prop where
 ok:X.Ok
 os:s.os=X.s₀.os
 bare:cW s
 base:Un X.fs X.ex X.H₀ H X.s₀.heap s.heap
 loc:∃m,jn2/\∀(i:Nat) (x:Str) (v:V),Ν->jza->Tu->∃u,ô v/\Qrq X.env s.heap m x u
 cell:∀x c,jK->∃v,js7
 free:H X.env.locals=nO
 freeC:∀x c,jK->H c=nO
 pin:∀p∈zQc,jI7
 hok:HOk X.prog X.w H s.heap
 len:σ.length=X.N.length
section
variable{X:Cx}{pins:Ö}{σ:sL V}{H H':Hp}{s:Shared}{h':Heap}
def Cx.Ok.nofr(ok:X.Ok){b:Addr}{o:Obj}(e:Tj):zW1:=λa=>by
 let:=(ok.funs.mem a).1;show Bv e
def Inv.bs(I:Ù):∀b o,Tj->ji/\ώ:=λb o e=>
 #[I.base.keep b o qyj qz0 (I.ok.nofr e) qsi,I.base.free b o qyj qz0 qsi]
def Inv.bk(I:Ù):∀b o,Tj->ji:=λb o e=>(I.bs b o e).1
def Inv.mod(I:Ù):qsh:=I.ok.mod
def Inv.kIn(I:Ù):X.K.In s.heap:=I.ok.mod.kin.keeps I.bk
def Inv.lt(I:Ù):X.env.locals<s.heap.objs.size:=let#[_,a,_]:=I.loc;a.lt
def Inv.sz(I:Ù):X.s₀.heap.objs.size<=s.heap.objs.size:=Nd I.ok.above (NF I.lt)
def Inv.nofs(I:Ù){a:Addr}(h:qsj):a∉X.fs:=λc=>by
 let#[_,o,b,_]:=I.ok.funs.mem c;show û (Ng (NL b) (Nd I.sz h)) vI
def Inv.cne(I:Ù):∀x c,jK->c≠X.env.locals:=λx c e z=>by
 let#[v,o,d,hd]:=kZ I e;let#[m,#[f,g,h,a,b,_],_]:=I.loc;rw[z,a]at d;cases d;rw[b]at hd;cases hd
def Inv.funs(I:Ù):s.heap.FunFrames X.base X.outer:=by
 let all:∀(l:ŷ),(∀b∈frs l,b∈X.fs)->X.s₀.heap.FunFrames X.base l->s.heap.FunFrames X.base l:=by
  intro l
  induction l with
  |nil=>intro _ _;trivial
  |cons p r g=>
   intro f m;let#[n,#[L,o,a,j,i,hd],h]:=m;let d:L∈X.fs:=f L (by unfold frs;rw[IS,a];show Nw);let#[q,e]:=I.base.slot L o i (I.ok.frf L d) d λz=>I.ok.exfs L z d;show#[n,#[L,_,a,j,e,hd],g (λb c=>f b (by unfold frs;rw[IS,a];show ϧ c)) h]
 show all X.outer (λ_ c=>c) I.ok.funs
def Inv.stack(I:Ù):s.heap.FunFrames X.base X.stack:=by
 rcases I.ok.stk with e|⟨e,b⟩
 ·rw[e];show I.funs
 ·rw[e];let#[m,a,_]:=I.loc;refine .cons (by rw[I.ok.kind];decide) b a ?_ I.funs;show Heap.get?_none_of_le (Nd I.ok.bsz I.ok.above)
def Inv.stkSub(I:Ù):∀b∈zO1,b∈X.env.locals::X.fs:=λb a=>by
 rcases I.ok.stk with e|⟨e,c⟩
 ·rw[e]at a;show ϧ a
 ·rw[e]at a;unfold frs at a;rw[IS,c]at a;show a
def Inv.stkFree(I:Ù):∀b∈zO1,ώ:=λb a=>by
 rcases NI.mp (I.stkSub b a)with e|a
 ·rw[e];show I.free
 ·let#[_,o,c,_]:=I.ok.funs.mem a;show I.base.free b o c (I.ok.frf b a) λz=>I.ok.exfs b z a
def Inv.step{g':Array GenState}{t':Nat}{d':Drawn}{ch:List Addr}(I:Inv X pins σ H s)
  (g:∀b∈ch,(b∈X.ex\/X.s₀.heap.objs.size<=b)/\zQ/\(∀x c,jm5->c≠b)/\∀p∈X.pn++pins,p.1≠b)
  (keep:∀b o,zQ->b∉X.fs->AC->zM->xC->Aw=sO o)
  (slot:∀b o,zQ->b∈X.fs->AC->zM->xC->∃N,Aw=sO { o with slots:=N }) (free:∀b o,AC->zM->xC->H' b=nO)
  (there:∀b o,AC->zM->∃D,Aw=sO D)
  (B:zgd) (G:jca) (C:jgh)
  (ns:∀m,jn2->h'.Ns X.env.locals m) (O:HOk X.prog X.w H' h') (hg:AllBare g') :
  Inv X pins σ H' { s with heap:=h',gens:=g',drawn:=d',toks:=t' }:=by
 let E:∀b o,zk0->zQ:=λb o e=>NS (Ng (NL e) I.ok.above)
 let j:∀b o,zk0->b∉X.ex->AC:=λb o e a y=>by
  rcases(g b y).1 with z|z
  ·show a z
  ·show absurd (Ng (NL e) z) (N2 _)
 let h:∀x c,jm5->∀v,js7->h'.IsCell c v:=λx c e v #[o,A,hd]=>by
  let f:c∉ch:=λz=>jna
  by_cases S:c∈X.fs
  ·let#[N,q]:=slot c o juf S f A zl7;show#[_,q,hd]
  ·show#[o,keep c o juf S f A zl7,hd]
 refine#[I.ok,I.os,hg,#[js8,js8,λb o e n a=>?_,λb o e a=>?_,λb xs e=>B b xs (I.base.tups b xs e),λb o xs e=>G b o xs (I.base.frzs b o xs e),λb ps e=>?_],?_,jde,?_,jde,λp Q=>?_,O,I.len]
 ·show keep b o (E b o e) y oq (I.base.keep b o e n y a) zjh
 ·let#[N,t]:=I.base.slot b o e n y a;let#[M,L]:=slot b _ (E b o e) y oq t zjh;show#[M,L]
 ·show(jn3,free b D oq t zjh)
 ·show(jn3,there b D oq t)
 ·let#[Y,t]:=I.base.tbls b ps e;let#[U,L]:=C b _ t;show#[Y++U,by rw[L,Array.append_assoc]]
 ·let#[m,Z,hl]:=I.loc;refine#[m,ns m Z,λi x v t L e3=>?_];let#[u,r,l]:=hl i x v t L e3;refine#[u,r,?_]
  rcases l with l|⟨k,c,e,z⟩
  ·show SQ l
  ·show .inr #[k,c,e,h x c e _ z]
 ·let#[v,z]:=jzb;show#[v,h x c e v z]
 ·let#[m,#[o,_,_,A,_],_]:=I.loc;show free _ o (λz=>(g _ z).2.1 rfl) A I.free
 ·let#[v,o,A,hd]:=jzb;show free c o (λz=>jna) A zl7
 ·let#[e,n,ne,P,d]:=SR Q;let f:p.1∉ch:=λz=>(g p.1 z).2.2.2 p Q rfl;show#[keep p.1 p.2 ne P f e n,free p.1 p.2 f e n,ne,P,d]
def Inv.un{t':Nat}(I:Ù)(u:Un X.fs [] H H' s.heap h')(c:zLe H'):qm H':=by
 let#[m,#[o,x,y,h,r],_]:=zW2;let#[p,l]:=u.any h I.free Ç
 show I.step (g':=s.gens) (d':=s.drawn) (ch:=[]) (λ_ z=>BK z) (λb o _ d _ e n=>u.keep b o e n d Ç) (λb o _ d _ e n=>u.slot b o e n d Ç) (λb o _ e n=>u.free b o e n Ç) (λb o _ e=>u.there b o e Ç) u.tups u.frzs u.tbls (λt j=>by
  show ň q f g a i j;rw[h]at a;show ß a #[_,f,g,l,i]) c I.bare
def Inv.call{g':zIi}{t':Nat}{d':Drawn}{ch:Ŷ}(I:Ù)(u:Un qG1 ch H H' s.heap h')(g:zLe H')(v:AllBare g')
  (f:∀b∈ch,jD0) :
  Inv X pins σ H' { s with heap:=h',gens:=g',drawn:=d',toks:=t' }:=by
 let#[m,#[o,D,E,l,r],_]:=zW2;let#[A,h]:=u.any l I.free λz=>qG2
 show I.step (ch:=ch) f (λb o h y a e n=>u.keep b o e n (λz=>(NI.mp (I.stkSub b z)).elim h y) a) (λb o _ _ a e n=>u.any e n a) (λb o a e n=>u.free b o e n a) (λb o a e=>u.there b o e a) u.tups u.frzs u.tbls (λC t=>by
  show ň B i j d q t;rw[l]at d;show ß d #[_,i,j,h,q]) g v
def Inv.turned{t':Nat}{it:Addr}(I:Ù)(k:∀b o,b≠it->PX)(h:H it=nO)(f:it≠X.env.locals)
  (h1:it∈X.ex\/X.s₀.heap.objs.size<=it) (h2:∀x c,jK->c≠it) (l:∀p∈zQc,p.1≠it):qm H:=by
 let d:∀b u,zbe->b≠it:=λb u e z=>by rw[z,h]at e;cases e
 refine I.step (g':=s.gens) (d':=s.drawn) (ch:=[it]) (qa b j) (λb o _ _ a e _=>zu8) (λb o _ _ a e _=>#[o.slots,zu8]) (λ_ _ _ _ n=>n)
  (λb o a e=>#[o,zu8]) (MX e) (ja7 e) (λb y e=>#[#[],vC e]) (qa m i) jzc I.bare
 ·show xj j
  show ϑ e #[h1,f,h2,l]
 ·show(ň o t w g r i,#[o,t,w,k _ o (EO f) g,r])
 ·refine(I.hok b u e).stay (zN7 a q) zO0 AF
  show Ϣ a z
  ·rw[z];show d b u e
  ·show zY3
def Inv.tok(I:Ù)(t:Nat):Inv X pins σ H { s with toks:=t }:=I.un (h':=s.heap) (t':=t) Un.refl I.hok
def Inv.kept{t':Nat}(I:Ù)(k:∀b u,zk1):qm H:=I.un (Un.kept k) (I.hok.kept k)
def Inv.laid{a:Addr}{o:HO}{t':Nat}(I:Ù)(k:∀b u,zk1)(c:qsj)(new:sM xl a o) :
  qm xl:=I.un (Un.laid k c (I.hok.fresh c)) (I.hok.laid k c new)
def Inv.write{x e:Addr}{o:HO}{t':Nat}(I:Ù)(c:zT1)(d:zz7)(k:∀b u,b≠e->zk1)(a:zli)
  (new:sM (ć x o) x o):qm (ć x o):=I.un (Un.write c d k a) (I.hok.write c d k a new)
def Inv.pins_of{a:Ö}(I:Ù)(h:∀p∈a,jI7):Ĝ a:=
 #[I.ok,I.os,I.bare,I.base,I.loc,I.cell,I.free,I.freeC,λp b=>(NG.mp b).elim (λz=>I.pin p zT3) (h p),I.hok,I.len]
def GB{N:Á}(hN:N.Nodup){i j:Nat}{x:Str}(a:N[i]?=sO x)(b:N[j]?=sO x):i=j:=by
 let#[f,d]:=Nk.mp a;let#[e,c]:=Nk.mp b;show(List.getElem_inj hN).mp (cL d c)
def W7{M:Model}{A:Around}{E:Õ}{i:Nat}{x:Str}{v:V}{u:Value}{Q:xm}(I:Ù)(hN:X.N.Nodup)(hi:Ν)(B:jl)(r:ô v)
  (h:∀s',jX0 s'->(∃a,Heap.SameBut a s.heap s'.heap/\(a=X.env.locals\/rJ x=sO a))->Q () s') (hf:jg:=by show uM):jpb:=by
 let#[m,hn,hl]:=zW2;let Z:(X.env.scope.kind==.class ||(X.env.scope.kind==.module&&X.env.locals != X.env.globals))=false:=by rw[I.ok.kind];rfl
 let L:i<σ.length:=by rw[I.len];show(Nk.mp hi).1
 let cne:=I.cne
 let g:∀{a:Addr} {h':Heap},(∃o,gY=sO o/\H a=nO)->qq a->zLe H:=λ{a h'} ha f b ob e=>by
  let#[_,_,C]:=ha;refine(I.hok b ob e).stay (λc w' t q=>(f.2 c ?_).trans q) zO0 AF
  rintro rfl
  rcases t with rfl|t
  ·show ä C e
  ·show ä C t
 show Ϣ B G
 ·refine wpAny_storeName_local G hn (λh' af f=>?_) Z;let#[oL,_,_,ae,_]:=id hn;refine h _ #[I.ok,I.os,I.bare,jH7,#[_,af,qt4],Ï y c e,I.free,I.freeC,zQd,g #[oL,ae,I.free] f,qqf] #[_,f,jv]
  ·show qO f b jK3 qf1
  ·let#[sl,l]:=ql7;show#[sl,jzd]
  ·show(qhi,#[o',jzd])
  ·show Ā O j i
   ·show(qgb,ß D #[u,r,Ø #[G,Ê]])
   ·show jha
    rcases q with⟨k,e⟩|⟨k,c,e,z⟩
    ·refine Ø (lI k);let:y≠x:=λe=>O (GB hN l (e▸hi));simp[this,e]
    show Ζ #[k,c,e,qa2]
  ·let#[w',z]:=I.cell y c e;show#[w',qa2]
  ·show(qn0,#[(f.2 p.1 ne).trans e,n,ne,nf,d])
 ·let P:cg:=by
   rcases hf with z|z
   ·show z
   ·show ä z G
  let#[c,t]:=I.ok.has x (đ G);let#[w',z]:=kZ I t;refine wpAny_storeName_cell I.ok.kind G t z (λh' ab f=>?_);let#[oc,Y,U]:=id z;refine h { s with heap:=h' } #[I.ok,I.os,I.bare,jH7,#[m,hn.sameBut f (EO (cne x c t)),qt4],Ï y c' e,I.free,I.freeC,zQd,g #[oc,Y,zXc t] f,qqf] #[c,f,å t]
  ·show qO f b jK4 qf1
  ·let#[sl,l]:=ql7;show#[sl,jze]
  ·show(qhi,#[o',jze])
  ·show Ā O j i
   ·show(qgb,ß D #[u,r,å #[Ø G,c,t,ab]])
   ·show jha
    rcases q with q|⟨k,c',e,z'⟩
    show š q
    ·show qd #[k,c',e,z'.sameBut f ?_]
     rintro rfl
     show O (GB hN l (I.ok.inj _ _ _ e t▸hi))
  ·by_cases aa:c'=c
   ·subst aa;show#[_,ab]
   ·let#[w2,z2]:=I.cell y c' e;show#[w2,z2.sameBut f aa]
  ·show qn0;refine#[(f.2 p.1 ?_).trans e,n,ne,nf,d];intro q;rw[q,Y]at e;let q':oc=p.2:=NY e;show d w' (cb q' U)
def Y6{M:Model}{A:Around}{E:Õ}{i:Nat}{x:Str}{v:V}{u:Value}{Q:xm}(I:Ù)(hN:X.N.Nodup)(hi:Ν)(b:jl)(r:ô v)
  (h:∀a,jX0 a->Q () a) (c:jg:=by show uM):jpb:=
 W7 I hN hi b r (λa d _=>h a d) c
def Inv.call'{a:Shared}{ch:Ŷ}(I:Ù)(l:a.os=s.os)(u:Un qG1 ch H H' s.heap a.heap)(d:HOk X.prog X.w H' a.heap)(m:cW a)
  (f:∀b∈ch,jD0):MU H' a:=by
 show ň h' h i g j a;let e:j=s.os:=l;subst e;show I.call (g':=h) (t':=g) (d':=i) u d m f
#print"-"
noncomputable abbrev XK:=Value->ϝ->Ű
noncomputable abbrev St:=sL V
noncomputable abbrev VK:=V->Ű
noncomputable abbrev TE:=St->yE
noncomputable abbrev TT:=St->jUg
noncomputable abbrev TA:=St->Hp->(À V->Ű)->Prop
structure Ends where
 nx:Bi
 rt:VK
 bk:Bi:=mB
 ct:Bi:=mB
noncomputable abbrev TS:=Ends->Bi
abbrev EP(X:Cx)(a:Ö)(σ:St)(Q:VK)(u:Value)(c:Shared):Prop:=∃v b,ŉ a σ b c/\ô v/\Q v b
abbrev TP(X:Cx)(a:Ö)(σ:St)(Q:Ay)(b:Bool)(d:Shared):Prop:=∃c,jdf/\Q b c
abbrev AP(X:Cx)(a:Ö)(σ:St)(Q:À V->Ű)(us:È)(d:Shared):Prop:=∃b c,jdf/\lX b/\Q b c
abbrev SP(X:Cx)(b:Ö)(D:Ends)(f:Flow)(d:Shared):Prop:=
 match f with
 |.next=>∃a c,ŉ b a c d/\zh c
 |.brk=>∃a c,ŉ b a c d/\D.bk a c
 |.cont=>∃a c,ŉ b a c d/\D.ct a c
 |.ret u=>∃v a c,ŉ b a c d/\ô v/\D.rt v c
abbrev PE(X:Cx)(e:Expr)(t:TE):Prop:=
 ∀(a:Ö) (s:Shared) (b:St) (H:Hp) (Q:VK),jH a b->lq->ĕ (v5 e) vj s
abbrev PT(X:Cx)(e:Expr)(t:TT):Prop:=
 ∀(a:Ö) (s:Shared) (b:St) (H:Hp) (Q:Ay),jF->lq->ĕ (isTrue e X.env (v5 e)) zK6 s
abbrev PW(X:Cx)(e:Expr)(t:TT):Prop:=
 ∀(whole:Sem Value) (a:Ö) (s:Shared) (b:St) (H:Hp) (Q:Ay),jF->lq->ĕ (isTrue e X.env whole) zK6 s
def PW.pt{X:Cx}{e:Expr}{t:TT}(h:PW X e t):ur e t:=h _
abbrev PA(X:Cx)(es:é)(t:TA):Prop:=
 ∀(pos:Pos) (a:Ö) (s:Shared) (b:St) (H:Hp) (Q:À V->Ű),jF->lq->ĕ (spliced (backTo pos uV)) (AP X a b Q) s
abbrev PS(X:Cx)(st:Stmt)(t:TS):Prop:=
 ∀(a:Ö) (s:Shared) (b:St) (H:Hp) (D:Ends),jF->t D b H->ĕ (exec st X.env) qRf s
abbrev PSs(X:Cx)(st:j0)(t:TS):Prop:=
 ∀(a:Ö) (s:Shared) (b:St) (H:Hp) (D:Ends),jF->t D b H->ĕ (execs st X.env) qRf s
def thn{b:Type}{t:Sem b}{Q Q':b->Ω}{M:Model}{A:Around}{E:Õ}{s:Shared}(h:ξ M t s)(c:∀a s,Q a s->Q' a s):wpAny M A t Q' E s:=N7 h c gH
section
variable{X:Cx}
def bin{a b:Expr}{ta j:TE}(t:yb)(r:ď b j){c:Ö}{s:Shared}{σ:St}{H:Hp}{R:V->V->Ű}(I:Ĝ c)(h:ta σ H λx H1=>j σ H1 qC1)
  {i:Type} {Q:i->Ω} {f:Value->Value->Sem i}
  (q:∀v u s2 x y H2,ŉ c σ H2 s2->ji2) :
  ĕ (v5 a) (jrb e d) s:=by
 show(jf (jn t c σ) (Ï v l g),ı x n p g,jf (r c l σ H1 _ I1 p) (Ï u s2 g),ň y H2 I2 m o g,q v u s2 x y H2 I2 n m o)
abbrev Qr8(i:Nat):TE:=λa H Q=>∃v,a[i]?=sO qR/\Q v H
abbrev tC(v:V):TE:=λ_ H Q=>Q v H
def Qlu{i:Nat}{x:Str}{pos:Pos}(hN:Ν)(n:Tu)(hd:ŏ:=by decide)(f:jPc:=by decide):ď vf (Qr8 i):=by
 show(qi j,pI v e h);let#[m,o,q]:=I.loc;let#[u,r,l]:=q i x v hN e n;let fin:PB d j u:=qG4
 rcases l with⟨b,p⟩|⟨b,c,g,a⟩
 ·show wpAny_Name (OQ I.ok.kind b o p fin) hd
 ·show υ b
  ·show wpAny_Name (O5 I.ok.kind b g a fin) hd
  ·show wpAny_Name (wpAny_loadName_free I.ok.kind b g a fin f) hd
def QmU{i j pos}:ď (TU Ŀ) (tC Ŀ):=λ_ _ _ H _ I h=>wpAny_Constant_int #[Ä i,H,Α,Ħ,h]
def QoE{b j pos}:ď jrc (tC yY):=λ_ _ _ H _ I h=>Constant_bool #[.bl b,H,I,rfl,h]
def Ql4{j pos}:ď qhj (tC .non):=λ_ _ _ H _ I h=>Constant_none #[.non,H,I,rfl,h]
def Qcv{x j pos}:ď (TU Ě) (tC Ě):=λ_ _ _ H _ I h=>Calls.Constant_str #[Æ x,H,Α,Ħ,h]
abbrev Gl(X:Cx)(x:Str):Prop:=zy2=Tk
def K8{E:Õ}{a:Ö}{s:Shared}{σ:St}{H:Hp}{x:Str}{u:Value}{pos:Pos}{Q:Õ}(I:Ĝ a)(c:Ş)(b:zha)(h:Q u s)
  (hd:ŏ:=by decide):jpc:=
 Ll I.ok.kind c (Calls.loadGlobal_global jRi b h) hd
def XE{E:Õ}{a:Ö}{s:Shared}{σ:St}{H:Hp}{x:Str}{u:Value}{pos:Pos}{Q:Õ}(I:Ĝ a)(e:Ş)(d:yW=nO)(b:wD=sO u)(h:Q u s)
  (c:qL:=by decide) (hd:ŏ:=by decide):jpc:=by
 let#[i,g,f]:=I.mod.blt;show Ll I.ok.kind e (Calls.loadGlobal_builtin jRi d (by rw[I.ok.blt];show g.keeps I.bk) ((f x c).trans b) h) hd
def QiR{x:Str}{v:V}{u:Value}{pos:Pos}(b:Ş)(a:zha)(r:ô v)(hd:ŏ:=by decide):ď vf (tC v):=
 λ_ _ _ H _ I h=>K8 I b a qG4 hd
variable{a b:Expr}{ta tb:TE}{pos:Pos}
variable{tA tB':TT}{rest:é}
abbrev Qpt(t u:TT):TT:=λd H Q=>t d H λc H1=>if Τ then u d H1 Q else Q false H1
abbrev tOr(t u:TT):TT:=λd H Q=>t d H λc H1=>if Τ then Q true H1 else u d H1 Q
abbrev Qsc(t:TT):TT:=λd H Q=>t d H λc H1=>Q (!c) H1
def QiJ(g:fB):PW X jzf tA:=by
 intro i d s f H Q I h;refine isTrue_and (Č (g d s f H Q I h) c j e);cases c with
 |true=>show isTrue_and_nil e
 |false=>show e
def QlG(g:fB):PW X jzg tA:=by
 intro i d s f H Q I h;refine isTrue_or (Č (g d s f H Q I h) c j e);cases c with
 |false=>show isTrue_or_nil e
 |true=>show e
def QlD(l:fB)(j:PW X oW tB'):PW X oX (Qpt tA tB'):=by
 intro g d s e H Q I h;refine isTrue_and jc5;cases c with
 |true=>show j g d i e H1 Q I1 f
 |false=>show zSa
def QoG(l:fB)(j:PW X oY tB'):PW X oZ (tOr tA tB'):=by
 intro g d s e H Q I h;refine isTrue_or jc5;cases c with
 |true=>show zSa
 |false=>show j g d i e H1 Q I1 f
def QkN(f:fB):ur nQ (Qsc tA):=by
 show qi e;show isTrue_not (f d s e H (λc H1=>Q (!c) H1) I h)
abbrev Qn0(ta tb:TE):TE:=λd H Q=>ta d H λx H1=>∃c,x=.bl c/\if Τ then zT4 else Q zM5 H1
abbrev QrJ(ta tb:TE):TE:=λd H Q=>ta d H λx H1=>∃c,x=.bl c/\if Τ then Q He H1 else zT4
def Qlm{op}{t:TE}(h:ď a t):ď qjh t:=λc s d H Q I hw=>BoolOp_one (h c s d H Q I hw)
def Qka(m:yb)(l:PE X oW tb):ď oX (Qn0 ta tb):=by
 show qi f;refine BoolOp_and jc6;show jdg;cases c with
 |true=>show l d i f H1 Q I1 e
 |false=>show#[jZ,H1,I1,rfl,e]
def QoI(m:yb)(l:PE X oY tb):ď oZ (QrJ ta tb):=by
 show qi f;refine BoolOp_or jc6;show jdg;cases c with
 |false=>show l d i f H1 Q I1 e
 |true=>show#[ŵ,H1,I1,rfl,e]
abbrev tIf(t:TT)(ta tb:TE):TE:=λd H Q=>t d H λc H1=>if Τ then ta d H1 Q else zT4
def QeX{c:Expr}(j:PT X c tA)(m:yb)(l:ko):ď qqg (tIf tA ta tb):=by
 show Đ e f Q;refine wpAny_IfExp (Č (jn j e f) d g #[H1,I1,i]);cases d with
 |true=>show m e g f H1 Q I1 i
 |false=>show l e g f H1 Q I1 i
#print"-"
abbrev SqL(K:Nf)(H:Hp)(a:Addr)(xs:À V):Prop:=
 PC C5 \/
  ∃(o:Obj) (b:ľ) (n:Nat),ϣ a=sO o/\o.cls=Ι/\o.dict=nO/\jQj
abbrev SqT(K:Nf)(H:Hp)(a:Addr)(xs:À V):Prop:=
 PC ki \/
  ∃(o:Obj) (b:ľ) (n:Nat),ϣ a=sO o/\zpb/\jQj
abbrev Qsn:Value->Υ V
 |.none=>zY7
 |zd0=>sO yY
 |.int i _=>sO Ŀ
 |.str x _=>sO Ě
 |.bytes b _=>sO (.byt b)
 |.float b _=>sO (.flt b)
 |Ã a=>ō a
 |.type n=>sO (.ty n)
 |_=>nO
def RelV.abs{x:V}{u:Value}(r:ô x):Qsn u=sO x:=by
 cases x with
 |non=>cases r;rfl
 |bl _=>cases r;rfl
 |int _=>show zC
 |str _=>show zC
 |byt _=>show zC
 |flt _=>show zC
 |ref _=>cases r;rfl
 |ty _=>cases r;rfl
def RelV.inj{x y:V}{u:Value}(r:ô x)(q:ô y):x=y:=NY (r.abs.symm.trans q.abs)
def Vals.inj{xs ys:À V}{us:È}(a:ϟ)(b:Vals ys us):xs=ys:=by
 induction a generalizing ys with cases b
 |nil=>rfl
 |cons r t e=>rename_i d c;rw[r.inj d,e c]
section
variable{X:Cx}{pins:Ö}{σ:St}{H:Hp}{s:Shared}{a:Addr}{xs ys:À V}
def SqL.of{K:Nf}(h:qg9):sY H:=Ø uG
def SqT.of{K:Nf}(h:H a=sO ki):fR H:=Ø uG
def Inv.list(I:Ù)(h:tq):∃b:È,pE b/\PlainL s.heap a b.toArray/\Bt:=by
 rcases h with h|⟨o,b,n,f,g,hd,d,c,r⟩
 ·let#[z,b,n,r,e]:=h.ok I.hok;show#[b,r,#[_,n,e,rfl,rfl,rfl],z]
 ·refine#[b.toList,r,#[o,n,qY3,g,hd,ĝ d],?_];show(ű e r,qf2)
def Inv.tuple(I:Ù)(h:tr):∃b:È,pE b/\IsTup s.heap a b.toArray/\Bt:=by
 rcases h with h|⟨o,b,n,f,g,d,c,r⟩
 ·let#[z,b,r,p]:=h.ok I.hok;show#[b,r,p,z]
 ·refine#[b.toList,r,#[o,qY3,g,n,ĝ d],?_];show(ű e r,qf2)
def Inv.list_inj(I:Ù)(h:tq)(h':cy a):xs=ys:=by
 let#[c,r,#[o,n,e,_,_,d],_]:=Ρ h;let#[b,i,#[l,m,f,_,_,g],_]:=Ρ h';show jrd
def Inv.tuple_inj(I:Ù)(h:tr)(h':Mg a):xs=ys:=by
 let#[c,r,#[o,e,_,n,d],_]:=jU h;let#[b,i,#[l,f,_,m,g],_]:=jU h';show jrd
#print"-"
noncomputable abbrev Cx.wish(X:Cx)(E:Õ):Cx:={ X with xe:=E }
noncomputable abbrev Cx.nox(X:Cx):Cx:=X.wish mB
def Cx.Ok.wish{X:Cx}(ok:X.Ok)(E:Õ):qN3:=
 jF2
def Cx.Ok.unwish{X:Cx}{E:Õ}(ok:qN3):X.Ok:=
 jF2
section
variable{X:Cx}{pins:Ö}{σ:St}{H:Hp}{s:Shared}{E:Õ}
def Inv.wish(I:Ù)(E:Õ):jYc:=#[I.ok.wish E,I.os,I.bare,I.base,I.loc,I.cell,I.free,I.freeC,I.pin,I.hok,I.len]
def Inv.unwish(I:jYc):Ù:=#[I.ok.unwish,I.os,I.bare,I.base,I.loc,I.cell,I.free,I.freeC,I.pin,I.hok,I.len]
def SP.unwish{D:Ends}{f:Flow}{c:Shared}(h:SP qqh pins D f c):SP X pins D f c:=by
 cases f with
 |next=>show zkf
 |brk=>show zkf
 |cont=>show zkf
 |ret u=>let#[v,a,b,I,r,q]:=h;show#[v,a,b,I.unwish,r,q]
def PSs.nox{st:j0}{t:TS}(h:PSs X.nox st t):zg1 t:=λpins s σ H D I hw=>
 N7 (h pins s σ H D (I.wish _) hw) (λ_ _ q=>q.unwish) λ_ _ z=>BO z
#print"-"
section
variable{X:Cx}{st:Stmt}{rest:j0}{t u:TS}{e:Expr}{te:TE}{pos:Pos}
abbrev Qok:TS:=λD a H=>zh H
abbrev QpK(t u:TS):TS:=λD a H=>t { D with nx:=u D } a H
def Qhx:PSs X [] Qok:=λ_ _ a H _ I h=>ID #[a,H,I,h]
def Qd7(h1:zT5)(h2:PSs X rest u):PSs X qRg (QpK t u):=by
 show Đ a c D;refine wpAny_execs_cons (Č (h1 a s c H { D with nx:=u D } I h) f d q);cases f with
 |next=>
  let#[b,i,g,q]:=q;show h2 a d b i D g q
 |ret v=>show q
 |brk=>show q
 |cont=>show q
def Qhw(h1:zT5):PSs X [st] t:=by
 show Đ a b D;refine wpAny_execs_cons (Č (h1 a s b H D I h) f c q);cases f with
 |next=>show ID q
 |ret v=>show q
 |brk=>show q
 |cont=>show q
def Inv.quiet{a:Ö}{σ:St}{H:Hp}{s:Shared}(I:Ĝ a):interactive X.env=false:=by simp[interactive,I.ok.kind]
abbrev QoC(te:TE):TS:=λD a H=>te a H λ_ H1=>zh H1
def QiC(g:CT)(f:swapsWith e nO pos.line X.env=k7:=by rfl):PS X qG7 (QoC te):=by
 show Đ a b D;refine wpAny_Expr_any jc7 I.quiet f;show(ı x j d c,#[b,H1,I1,d])
abbrev Qrs(te:TE):TS:=λD a H=>te a H D.rt
def QkQ(g:CT):PS X qf3 (Qrs te):=by
 show Đ a b D;refine wpAny_Return_some jc7;show(ı x d f c,#[x,b,H1,I1,d,f])
abbrev Qsf(c:TT)(t u:TS):TS:=λD a H=>c a H λb H1=>if pB then t D a H1 else u D a H1
def Qpd{c:Expr}{a b:j0}{i:TT}(m:ur c i)(o:PSs X a t)(n:PSs X b u):PS X (.If c a b pos) (Qsf i t u):=by
 show Đ f g D;refine wpAny_If (Č (jn m f g) d j #[H1,I1,l]);cases d with
 |true=>show o f j g H1 D I1 l
 |false=>show n f j g H1 D I1 l
#print"-"
noncomputable abbrev TG:=V->jUf
noncomputable abbrev TGs:=À V->jUf
abbrev PG(X:Cx)(target:Expr)(t:TG):Prop:=
 ∀(a:Ö) (s:Shared) (c:St) (H:Hp) (v:V) (u:Value) (Q:Bi),jH a c->ô v->t v c H Q ->
  ĕ (assign target X.env u) (jta e d) s
abbrev PGs(X:Cx)(g:é)(t:TGs):Prop:=
 ∀(a:Ö) (s:Shared) (c:St) (H:Hp) (d:À V) (e:È) (Q:Bi),jH a c->Vals d e->t d c H Q ->
  wpAny yA X.A (assignInOrder ((assignEach g X.env).map (·.2)) e) (jta h f) X.xe s
noncomputable abbrev TIp:=V->V->yE
abbrev PIp(X:Cx)(op:Operator)(t:TIp):Prop:=
 ∀(a:Ö) (s:Shared) (b:St) (H:Hp) (x y:V) (v u:Value) (Q:VK),jH a b->yd->ô y->t x y H Q ->
  ĕ (inplaceOp op v u) vj s
section
variable{X:Cx}{pos:Pos}
abbrev QbF(i:Nat):TG:=λv a H Q=>Q (uq a qR) H
def QdV{i:Nat}{x:Str}(hN:X.N.Nodup)(hi:Ν)(b:jl)(c:jg:=by show uM):PG X vf zc7:=by
 intro a s e H v u Q I r h;show wpAny_assign_Name (Y6 I hN hi b r (λf d=>#[_,H,d,h]) c)
abbrev Qp2:TGs:=λb a H Q=>b=[]/\Q a H
abbrev QlQ(t:TG)(u:TGs):TGs:=λc b H Q=>∃v r,c=v::r/\t v b H λa d=>u r a d Q
def Qi4:PGs X [] Qp2:=by
 intro a s b H c d Q I r h;let#[e,h]:=h;show(ym e r,assignInOrder_nil #[b,H,I,h])
def QfY{e:Expr}{es:é}{t:TG}{u:TGs}(h1:PG X e t)(h2:PGs X es u)
  (j:(assignEach qo X.env).map (·.2)=assign e X.env::(assignEach es X.env).map (·.2):=by rfl):PGs X qo (QlQ t u):=by
 intro a s c H m o Q I r h;let#[v,n,l,h]:=h;subst l;cases r with
 |cons r g=>
  rw[j];refine assignInOrder_cons (thn (h1 a s c H _ _ _ I r h) λ_ f d=>?_);show(ŧ b H1 I1 i d,h2 a f b H1 _ _ Q I1 g i)
abbrev QrR(K:Nf)(n:Nat)(t:TGs):TG:=λv c H Q=>∃a b,ϒ/\SK/\zAa/\t b c H Q
def Qmm{es:é}{k:Nat}{t:TGs}{n:Nat}(x:ţ)(h:PGs X es t)
  (q:jPf=n:=by rfl) (d:(assignEach es X.env).findIdx? (·.1)=nO:=by rfl):PG X (sN k) (QrR X.K n t):=by
 intro c s f H v u Q I r hw;let#[a,i,z,p,w,hw]:=hw;show ym z r;let#[j,g,m,B]:=jU p;refine assign_Tuple_tuple (u6 x) m (by simp[q,<-w,g.length]) d (Ò y l);let I1:Hm c f y:=I.kept (t':=s.toks) λb o e=>l b o qve e;show h c _ f H i _ Q I1 (Ŏ g) hw
abbrev QpI(te:TE)(g:TG):TS:=λD a H=>te a H λx H1=>g x a H1 D.nx
def QgY{i:Nat}{x:Str}{e:Expr}{te:TE}{a:Pos}(hN:X.N.Nodup)(hi:Ν)(j:jl)(n:CT)(l:zH4 (sO (pR x a))=k7:=by rfl)(m:jg:=by show uM) :
  PS X (jdi a) (QpI te zc7):=by
 show Đ b c D;refine wpAny_Assign_Name (qh n b c p d) l;show ı y f g d;show Y6 I1 hN hi j f (λo I2=>#[_,H1,I2,g]) m
abbrev Qsm(i:Nat)(te:TE)(b:TIp):TS:=λD a H=>∃x,a[i]?=sO ze0/\te a H λy H1=>b x y H1 λz H2=>D.nx (uq a (sO z)) H2
def Qm8{i:Nat}{x:Str}{e:Expr}{te:TE}{op:Operator}{t:TIp}{j:Pos}(hN:X.N.Nodup)(hi:Ν)(p:jl)(U:CT)(M:PIp X op t)(S:jg:=by show uM) :
  PS X (.AugAssign RJ op e pos) (Qsm i te t):=by
 show(Đ a q D,pI v Z h);let#[m,O,Q]:=I.loc;let o:Tu:=by show(Ϣ p k,Ø k,Ũ (đ k))
 let#[u,r,l]:=Q i x v hi Z o;refine wpAny_AugAssign_Name ?_
 let go:ĕ (v5 e) (wt w g (inplaceOp op u w) (jM1 r f (qhh r) (λ_=>SP X a D .next))) s:=by
  show(jf (jn U a q) (Ï w B n),ı y E L n,jf (M a B q H1 v y u w _ I1 r E L) (Ï z s2 n));let#[zv,H2,I2,C,G]:=n;show Y6 I2 hN hi p C (λs3 I3=>#[_,H2,I3,G]) S
 rcases l with⟨b,P⟩|⟨b,c,Y,d⟩
 ·show OQ I.ok.kind b O P go
 ·show υ b
  ·show O5 I.ok.kind b Y d go
  ·show Ϣ p k
   show jA0
   show jA0
#print"-"
section
variable{X:Cx}{pos:Pos}
abbrev Qgt(c:TT)(g:TS):TS:=λD a H=>∃W:Nat->Bi,(∃m,W m a H)/\∀m a H,W m a H ->
 c a H λb H1=>if pB then∃N:Bi,(∀d f,N d f->∃e,e<m/\W e d f)/\qJ4 g a H1 else zh H1
def QfN{c:Expr}{body:j0}{r:TT}{t:TS}(u:w9)(M:ur c r)(O:PSs X body t):PS X qji (Qgt r t):=by
 show Đ d y D;let#[W,#[L,B],i]:=h;refine wpAny_While (codeAny_whileLoop (λn G=>∃g x,ŉ d g x G/\W n g x) ?_ L #[y,H,I,B])
 rintro n E ⟨e,H1,I1,z⟩
 refine DH u (Č (M d E e H1 _ I1 (i n e H1 z)) b C #[H2,I2,l]);cases b with
 | true=>
  let#[N,hN,l]:=l;rw[Ĳ];refine DH u (Č (O d C e H2 _ I2 l) f P j);cases f with
  |next=>
   show jug
  |cont=>
   show jug
  |brk=>show j
  |ret v=>show j
 |false=>
  rw[Í N8];show ID #[e,H2,I2,l]
#print"-"
structure It where
 go:Nat->Ű
 yld:Nat->Hp->V->Ű
 stop:Nat->Ű
abbrev Qbj(X:Cx)(a:Ö)(H:Hp)(b:Addr):Prop:=
 ώ/\zFc/\zW1/\jKe/\(∀x c,jK->c≠b)/\∀p∈X.pn++a,p.1≠b
def Inv.fpOk{X:Cx}{a:Ö}{σ:St}{H f:Hp}{s:Shared}{b:Addr}(I:Ĝ a)(d:s.heap.objs.size<=b)(h:f b=nO):pJ a f:=by
 refine#[h,EF (Ng I.lt d),I.nofs d,å (Nd I.sz d),Ę x c e z,Ï p g z]
 ·let#[v,q]:=kZ I e;show û (Ng q.lt jdj) vI
 ·show û (Ng (NL (I.pin p g).1) jdj) vI
structure Turn(P:Program)(w:World)(K:Nf)(tg:Expr)(J:It)(fp:Ŷ)(it:Addr)(tn:zhd):Prop where
 mem:it∈fp
 obj:∀i h,tn i h->∀b∈fp,∃o,uA/\qp5
 keep:∀i h h',tn i h->(∀b∈fp,∀o,uA->zn9)->tn i h'
 item:∀(X:Cx),X.prog=P->X.w=w->X.K=K->ţ->∀(i:Nat) (pins:Ö) (s:Shared) (σ:St) (H:Hp) (E:Õ),Ù->jtb->kR s->zbf ->
  wpAny Cv X.A nR (λr s1=>∃u,r=sO u /\
   wpAny Cv X.A jU9 (λ_ s2=>∃x H',MU H' s2/\ô x/\zbg H'/\tn (i+1) s2.heap/\∀b∈fp,H' b=nO) E s1) E s
 done:∀(X:Cx),X.prog=P->X.w=w->X.K=K->ţ->∀(i:Nat) (pins:Ö) (s:Shared) (σ:St) (H:Hp) (E:Õ),Ù->jtb->kR s->bq ->
  wpAny Cv X.A nR (λr s1=>r=nO/\MU H s1) E s
 self:∀(A:Around) (i:Nat) (s:Shared) (Q:Õ) (E:Õ),kR s->Q HC s->ξ Cv (Af HC) s
noncomputable abbrev TI:=St->jX1
abbrev PIE(X:Cx)(a:Ö)(σ:St)(h:Expr)(R:d0)(c:Value)(s2:Shared):Prop:=
 ∃(f:Addr) (g:Ŷ) (e:zhd) (J:It) (d:Hp),c=Ã f/\ŉ a σ d s2/\Turn X.prog X.w X.K h J g f e/\e 0 s2.heap/\(∀b∈g,pJ a d)/\R J d
abbrev PI(X:Cx)(d iter:Expr)(c:TI):Prop:=
 ∀(a:Ö) (s:Shared) (b:St) (H:Hp) (R:d0),jF->c b H R ->
  ĕ zDb (wt v e (Af v) (PIE X a b d R)) s
def Uw {M:Model} {A:Around} {E:Õ} {s:Shared} {b:Expr} {it:Addr} {u:Value} {o:Obj} {n:String} {vs:ľ} {Q:xm} (c:s.heap.get? it=sO o) (e:o.cls=.type n) (hd:o.data=.fields vs)
    (d:jF3=false) (a:Q () s):ξ M (letOwnedTupleGo b HC u) s:=by
  unfold letOwnedTupleGo
  cases b<;>first
    |show Nl a
    |(cases u<;>first
        |show Nl a
        | (show je0 c
           rw[e,hd];apply ξ M (if(jF3&&vs[0]?==sO (rawInt _))=true then _ else _) s;rw[if_neg (by intro h;rw[d,Bool.false_and]at h;cases h)]
           show Nl a))
abbrev Itl(K:Nf)(a:Addr):It:=
 #[λi H=>∃b x,vD b/\m8,λi H x c=>c=H/\jxh,λi H=>∃b,vD b/\qY7]
abbrev Itt(K:Nf)(a:Addr):It:=
 #[λi H=>∃b x,SK/\m8,λi H x c=>c=H/\∀b,SK->m8,λi H=>∃b,SK/\qY7]
abbrev Itr(lo:Int)(n:Nat):It:=#[λi _=>i<n,λi H x a=>a=H/\x=Ä (lo+i),zO3]
def QcC{P:Program}{w:World}{K:Nf}{Q:Expr}(a it:Addr):Turn P w K Q qY8 [it] it (λi h=>h.IsListIter it a i) where
 mem:=Ê
 obj:=λi h st b g=>by
  show xj g
  show jHe
 keep:=jxi q
 item:=by
  intro X A hw B N i f s M H E I n st y;subst A hw B;show(ŧ O x m l y,jA1,Mw Y r l,zz n);refine wpAny_pyNext_list_item st p.isList (x:=u) zBg (Ï q j U);let I1:Hm f M q:=I.turned (t':=s.toks) (xk o g e U) L f1 G D C;show TY j;show#[u,rfl,ip q #[x,H,I1,Y,#[rfl,λys hy=>by rw[I.list_inj hy m];show l],j,qU g n]]
 done:=by
  intro X A hw B N i f s M H E I n st y;subst A hw B;show(j6 O m l y,jA1,zz n,ja8 r);show wpAny_pyNext_list_end zhb st p.isList (qa3 l) λq eb=>#[rfl,I.turned (t':=s.toks) (jS6 g) L f1 G D C]
 self:=λ_ _ _ _ _ st h=>wpAny_pyIter_listiter st h
def Qa5{P:Program}{w:World}{K:Nf}{Q:Expr}(a it:Addr):Turn P w K Q qY9 [it] it (λi h=>h.IsTupleIter it a i) where
 mem:=Ê
 obj:=λi h st b j=>by
  show xj j
  show jHe
 keep:=jxi r
 item:=by
  intro X A hw B N i f s M H E I q st y;subst A hw B;show(ŧ O x n m y,jzj,Mw Y t m,zz q);refine wpAny_pyNext_tuple_item st jvf (x:=u) zBg (Ï r l U);let I1:Hm f M r:=I.turned (t':=s.toks) (xk o j e U) L f1 G D C;show TY l;show#[u,rfl,ip r #[x,H,I1,Y,#[rfl,λys hy=>by rw[I.tuple_inj hy n];show m],l,qU j q]]
 done:=by
  intro X A hw B N i f s M H E I q st y;subst A hw B;show(j6 O n m y,jzj,zz q,ja8 t);show wpAny_pyNext_tuple_end zhb st jvf (qa3 m) λr eb=>#[rfl,I.turned (t':=s.toks) zhe L f1 G D C]
 self:=λ_ _ _ _ _ st h=>wpAny_pyIter_tupleiter st h
def QaH{P:Program}{w:World}{K:Nf}{D:Expr}(it:Addr)(lo:Int)(n:Nat):Turn P w K D qRi [it] it (λi h=>IsRangeIter h it (lo+Pd*1) (ŝ-Pd) 1) where
 mem:=Ê
 obj:=λi h st b c=>by
  show xj c
  subst e
  show#[_,st,λv z=>by
   show qf4 C]
 keep:=qac g
 item:=by
  intro X m hw p l i a s y H E I f st j;show jc0;let W:=Walks.range (prog:=X.prog) (w:=X.w) (u6 l) it lo 1 n;refine W.item i s _ _ j st λv g A L d G=>?_;show ü L;let I1:qz4 y g A:=I.turned (λb o c e=>G b o xy e) x f1 u r q;refine#[_,rfl,jX2 g A d #[Ä (lo+i),H,I1,lI t,jp,d,qU c f]];rw[Int.mul_one]
 done:=by
  intro X m hw p l i a s y H E I f st j;show jc0;show On (u6 l) st (by let:n<=i:=j;lia) (ş g M #[rfl,I.turned (t':=s.toks) (ml c M) x f1 u r q])
 self:=qi0
section
variable{X:Cx}{tg:Expr}
def Gu{a:Ö}{σ:St}{H:Hp}{s:Shared}{R:d0}{E:Õ}{lo hi:Int}{t u v:Tok}{tk:Nat}(I:Ĝ a)(h1:-qad<=lo)(h2:lo<2^62)(f:-qad<=hi)(d:hi<2^62)
  (q:R (Itr lo zD0) H):wpAny yA X.A (Af yB) (PIE X a σ tg R) E { s with heap:=jje,toks:=tk }:=by
 refine qgd (small_one h1 h2 f d);let I1:Inv X a σ H { s with heap:=jje,toks:=tk }:=I.kept zkg
 refine#[zj6,[zj6],_,_,H,rfl,
  jbh,QaH _ lo zD0,?_,Ò b c,q]
 ·let h:lo+yL*1=lo:=Ê
  let g:jvh-yL=Builtin.Range.rangeSize lo hi 1:=by rw[rangeSize_one];split<;>lia
  apply IsRangeIter _ _ (lo+yL*1) (jvh-yL) 1;rw[h,g];show ų
 ·let e:b=zj6:=ĝ c
  show dk
abbrev QnL(ta:TA):TI:=λa H R=>ta a H λb H1=>∃j:Int,b=[Ä j]/\qG9/\j<2^62/\R (Itr 0 j.toNat) H1
abbrev Qoo(ta:TA):TI:=λa H R=>ta a H λb H1=>∃i j:Int,b=ox/\(qGa/\je1)/\R (Itr i zO4) H1
def QdN{a:Expr}{ta:TA}{p pos:Pos}(o:Mo)(n:HW)(u:zM6)(m:xP:=by rfl):PI X tg jA2 (QnL ta):=by
 show Đ b d R;refine Call_ (XE I o n boot_range (Eo (Č (vv u b d) w x f) m rfl));show ı v i c f;let#[j,e,c,l,q]:=c;subst e;cases i with
 |cons r g=>
  cases g;show(ü r,call_range_1 (Gu I1 à à c l (Ŏ q)))
def Qcd{a b:Expr}{ta:TA}{p pos:Pos}(z:Mo)(y:HW)(A:PA X [a,b] ta)(x:jGg:=by rfl)(d:jpd:=by rfl) :
  PI X tg jA3 (Qoo ta):=by
 show Đ c l R;refine Call_ (XE I z y boot_range (Eo (Č (vv A c l) C E m) (by rw[x,d]) (ja9 d)));show ı B n g m;let#[i,j,e,#[g,w,v,u],q]:=g;subst e;cases n with
 | cons r f=>
  cases f with
  |cons o f=>
   cases f;show(Ϯ r D o,call_range_2 (Gu I1 g w v u q))
abbrev Qql(f:TI)(g:TG)(h:TS):TS:=λD a H=>f a H λJ H1=>∃W:Nat->Nat->Bi,(∃m,W 0 m a H1)/\∀i m a H,W i m a H ->
 (bq/\zh H)\/(zbf/\∃N:Bi,(∀b c,N b c->∃e,e<m/\W (i+1) e b c)/\∀x c,zbg c->g x a c λd H2=>qJ4 h d H2)
abbrev Ua(a:Ŷ)(h:Heap):Ö:=a.filterMap λb=>(h.get? b).map λo=>(b,o)
def VS{a:Ŷ}{h:Heap}{b:Addr}{o:Obj}(c:b∈a)(e:uA):(b,o)∈Ua a h:=FU.mpr #[b,c,kz e]
def Qcn{a:Ŷ}{h:Heap}{p:Addr×Obj}(c:p∈Ua a h):p.1∈a/\h.get? p.1=pA:=by
 let#[b,d,e]:=FU.mp c;cases q:jj h with
 |none=>show ä q e
 |some o=>
  rw[q]at e;let f:(b,o)=p:=NY e;show ϑ f #[d,q]
def Inv.pinned{a:Ö}{σ:St}{H:Hp}{s:Shared}{c:Ŷ}(I:Ĝ a)(j:∀b∈c,pJ a H)(i:∀b∈c,∃o,ji/\qp5):Ĝ (a++Ua c s.heap):=
 I.pins_of λp h=>(NG.mp h).elim (λz=>SR (qc z)) λz=>by
  let#[f,e]:=Qcn z;let#[l,f1,f2,_]:=j p.1 f;let#[o,g,d]:=i p.1 f;rw[e]at g;show ß g #[e,l,f1,f2,d]
def Inv.unpinned{a pl:Ö}{σ:St}{H:Hp}{s:Shared}(I:Ĝ (a++pl)):Ĝ a:=I.pins_of λp b=>SR (qc (NT _ b))
def QlO{iter:Expr}{body:j0}{wi:TI}{g:TG}{tb:TS}{pos:Pos}(L:w9)(hc:ţ)(hi:rW)(hg:PG X tg g)(q:PSs X body tb)
  (hs:yC:=by intro _;rfl):PS X qdi (Qql wi g tb):=by
 show Đ c σ D;refine wpAny_For (thn (hi c s σ H _ I h) λv s1 h1=>thn h1 λab s2 h2=>?_) hs;let#[it,O,tn,J,H2,e,I2,T,S,f2,W,#[m0,w0],C]:=h2;subst e;let p:∀{y:Hp},zDc->∀b∈O,pJ c y:=qjj q
 refine codeAny_forLoop_any (λn s'=>∃i l y,ŉ c l y s'/\kR s'/\zDc/\W i n l y) ?_ m0 #[0,σ,H2,I2,S,qU q f2,w0]
 rintro n s3 ⟨i,j,H3,I3,E,M,w3⟩
 rcases C i n j H3 w3 with⟨stop,qn⟩|⟨go,N,hN,step⟩
 ·refine DH L (Č (T.done X rfl rfl rfl hc i c s3 j H3 X.xe I3 (p M) E stop) r s4 #[Y,I4]);subst Y;show ID #[j,H3,I4,qn]
 ·refine DH L (Č (T.item X rfl rfl rfl hc i c s3 j H3 X.xe I3 (p M) E go) r s4 #[u,Y,h4]);subst Y;refine DH L (thn h4 λ_ s5 Q=>?_);let#[x,H5,I5,r5,y5,B,Z]:=Q;let aa:=I5.pinned (p Z) (T.obj _ _ B);refine DH L (thn (hg _ s5 j H5 x u _ aa r5 qC2) λ_ s6 Q=>?_);show ŧ P H6 I6 q6 Q;refine DH L (Č (q _ s6 P H6 _ I6 q6) f U z)
  let again:∀{a:St} {t:Hp},ŉ (c++Ua O s5.heap) a t U->N a t->∃m,m<n/\∃i l y,ŉ c l y U/\kR U/\zDc/\W i m l y:=λ{a t} I7 G=>by
   let#[m',hm,w7]:=hN a t G;refine#[m',hm,i+1,a,t,I7.unpinned,T.keep _ _ _ B (jA4 q I7),Ò b q,w7];let#[o,e,d]:=T.obj _ _ B b q;show(I7.pin (b,o) (zA5 q)).2.1
  cases f with
  |next=>show jo5
  |cont=>show jo5
  |brk=>let#[a,t,I7,z]:=z;show#[a,t,I7.unpinned,z]
  |ret v=>let#[x7,a,t,I7,r7,z]:=z;show#[x7,a,t,I7.unpinned,r7,z]
#print"-"
noncomputable abbrev R2:=V->V->yE
abbrev OpR(X:Cx)(f:Hf)(r:R2):Prop:=
 ∀(a:Ö) (s:Shared) (b:St) (H:Hp) (x y:V) (v u:Value) (Q:VK),jH a b->yd->ô y->r x y H Q ->
  ĕ (f v u) vj s
abbrev UnR(X:Cx)(f:zFe)(r:V->yE):Prop:=
 ∀(a:Ö) (s:Shared) (b:St) (H:Hp) (x:V) (v:Value) (Q:VK),jH a b->yd->r x H Q ->
  ĕ (f v) vj s
abbrev CallR(X:Cx)(f:Value)(r:À V->yE):Prop:=
 ∀(a:Ö) (s:Shared) (b:St) (H:Hp) (c:À V) (d:È) (Q:VK),jH a b->zW4->r c H Q ->
  ĕ (call f d) vj s
abbrev Qse(X:Cx)(r:V->jUg):Prop:=
 ∀(a:Ö) (s:Shared) (b:St) (H:Hp) (x:V) (v:Value) (Q:Ay),jF->yd->r x H Q ->
  ĕ qdj zK6 s
abbrev tOp(r:R2)(ta b:TE):TE:=λa H Q=>ta a H λx H1=>b a H1 λy H2=>r x y H2 Q
abbrev tUn(r:V->yE)(ta:TE):TE:=λa H Q=>ta a H λx H1=>r x H1 Q
abbrev rI(C:qJ5)(g:qYa):R2:=λx y H Q=>∃i j,d5/\y=Ä j/\C i j/\qyi
abbrev rI0(g:qYa):R2:=λx y H Q=>∃i j,d5/\y=Ä j/\qyi
abbrev rU(g:Int->V):V->yE:=λx H Q=>∃i,d5/\Q (g i) H
section
variable{X:Cx}{a b c:Expr}{ta tb tc:TE}{pos:Pos}
def Qo8(r:yb)(q:ko){d:Ö}{s:Shared}{σ:St}{H:Hp}{R:V->V->Ű}(I:Ĝ d)
  (h:ta σ H λx H1=>tb σ H1 qC1) {Q:Õ} {f:Hf}
  (p:∀v u s2 x y H2,ŉ d σ H2 s2->ji2) :
  ĕ (v5 a) (jrb g e) s:=by
 show(jf (jn r d σ) (Ï v j i),ı x m o i,jf (q d j σ H1 _ I1 o) (Ï u s2 i),ň y H2 I2 l n i,p v u s2 x y H2 I2 m l n)
def QnB{op:Operator}{r:R2}(j:â zIj r)(m:yb)(l:ko):ď qp6 tL:=by
 show qi e;show wpAny_BinOp (Qo8 m l I h λv u f x y H2 I2 i g q=>j d f e H2 x y v u Q I2 i g q)
def QoZ{op:UnaryOp}{r:V->yE}(l:UnR X (unaryOp op) r)(m:yb):ď (.UnaryOp op a pos) (tUn r ta):=by
 show qi e;refine UnaryOp_ (qh m d e g f);show(ı x i j f,l d g e H1 x v Q I1 i j)
def opI{f:Hf}{C:qJ5}{g:Int->zW5}
  (rule:∀(i j:Int) (t u:Tok) (s:Shared) (Q:Õ) (E:Õ),C i j->jLa->zk7) :
  â f (rI C jA5):=by
 intro d s o H x y v u Q I m l h;let#[i,j,rfl,rfl,n,q]:=h;show(Ϯ m e l,rule i j t e s _ _ n joi)
def Qov{f:Hf}{g:Int->zW5}
  (rule:∀(i j:Int) (t u:Tok) (s:Shared) (Q:Õ) (E:Õ),jLa->zk7) :
  â f (rI0 jA5):=by
 intro d s n H x y v u Q I m l h;show(R9,Ϯ m e l,rule i j t e s _ _ joi)
def QqJ{f:Hf}{g:Int->Int->Bool}
  (rule:∀(i j:Int) (t u:Tok) (s:Shared) (Q:Õ) (E:Õ),Q (um TN) s->zk7) :
  â f (rI0 λi j=>ö TN):=by
 intro d s n H x y v u Q I m l h;show(R9,Ϯ m e l,rule i j t e s _ _ #[ö TN,H,I,rfl,q])
abbrev Qq5(i j:Int):Prop:=zhf
abbrev Qrg(i j:Int):Prop:=zwb
abbrev CMul(i j:Int):Prop:=zua
def CMul.ok{i j:Int}(h:CMul i j):IntMulOk i j:=by
 rcases h with⟨e,d⟩|⟨e,d⟩
 ·show .of_left qp7
 ·show .of_right qp7
def op_add:â HR jl6:=Qov λ_ _ _ _ _ _ _ q=>add_int q
def Qkp:â qz5 (rI0 λi j=>Ä (i-j)):=Qov λ_ _ _ _ _ _ _ q=>sub_int q
def Qkj:â HH (rI CMul λi j=>Ä (i*j)):=opI λ_ _ _ _ _ _ _ d q=>mul_int q d.ok
def QjL:â qn1 (rI Qq5 λi j=>Ä (i/j)):=opI λi j _ _ _ _ _ d q=>by
 let e:yf<j:=d.1;let f:zAb:=d.2;show floordiv_int (Int.ne_of_gt e) (by rw[Int.fdiv_eq_ediv_of_nonneg i (Dh e)];show q) (đ (Oq É))
def QkB:â qz6 (rI (λ_ j=>0<j) λi j=>Ä (i%j)):=opI λi j _ _ _ _ _ d q=>by
 let e:yf<j:=d;show mod_int' (Int.ne_of_gt d) (by rw[Int.fmod_eq_emod_of_nonneg i zY9];show q)
def Qmv:â qz7 (rI Qrg λi j=>Ä zF0):=opI λ_ _ _ _ _ _ _ d q=>pow_int_small d.1 d.2.1 d.2.2 q
def Qio:â qvf jl6:=Qov λ_ _ _ _ _ _ _ q=>iadd_int q
def unI{f:zFe}{g:zW5}
  (rule:∀(i:Int) (t:Tok) (s:Shared) (Q:Õ) (E:Õ),Q (.int (g i) s.toks) { s with toks:=BQ }->xQ (f TX) Q E) :
  UnR X f (rU λi=>Ä (g i)):=by
 intro d s j H x v Q I e h;show(kE i q h,ü e,rule i t s _ _ #[Ä (g i),H,Α,Ħ,q])
def Qln:UnR X (unaryOp .USub) (rU λi=>Ä (-i)):=unI λ_ _ _ _ _ q=>neg_int q
#print"-"
section
variable{X:Cx}{a b c:Expr}{ta tb tc:TE}{pos:Pos}
def Qb7{d:Ö}{σ:St}{H:Hp}{s:Shared}{Q:VK}{k f:Bool}(I:Ĝ d)(q:Q (.bl k) H)(e:k=f):PB d σ (um f):=by
 show ϑ e #[.bl k,H,I,rfl,q]
def op_lt:â zFf (rI0 λi j=>jxj):=QqJ λ_ _ _ _ _ _ _ q=>lt_int q
def Qom:â qz8 (rI0 λi j=>ö (ό (j<i))):=QqJ λ_ _ _ _ _ _ _ q=>gt_int q
def Qdt:â zFf (λx y H Q=>∃i j,x=Æ i/\y=Æ j/\Q (.bl (ό (zGb i j))) H):=by
 intro d s g H x y v u Q I f e h;show(R9,Ϯ f l e,lt_str (Qb7 I q rfl))
def op_isN:â zFg (λx y H Q=>y=.non/\Q (.bl (ό (x=.non))) H):=by
 intro e s g H x y v u Q I d f h;show jt q h;cases f;refine is_none_gen qJ6
 cases x<;>first
  |(cases d;rfl)
  |(show ü d;rfl)
def QhZ:â qqi (λx y H Q=>y=.non/\Q (.bl (!decide (x=.non))) H):=by
 intro e s g H x y v u Q I d f h;show jt q h;cases f;refine isnot_none_gen qJ6
 cases x<;>first
  |(cases d;rfl)
  |(show ü d;rfl)
def OpR.or{f:Hf}{r j:R2}(h:â f r)(h':â f j):â f (qn2 j):=by
 intro d s e H x y v u Q I i g q
 show υ q
 ·show h d s e H x y v u Q I i g q
 ·show h' d s e H x y v u Q I i g q
def Qja{op:CmpOp}{r:R2}(j:gi)(n:yb)(m:ko)(l:nh):ď Ha tL:=by
 show qi e;show wpAny_Compare1 (Qo8 n m I h λv u f x y H2 I2 i g q=>j d f e H2 x y v u Q I2 i g q) l
abbrev Qop(t:TE):TT:=λd H Q=>t d H (qN5 e)
def QhW{op:CmpOp}{r:R2}(q:gi)(A:yb)(w:ko)(t:nh):ur Ha (Qop tL):=by
 show qi f
 refine wpAny_isTrue_Compare1 (thn (jn A d f) λv i #[x,H1,I1,m,p]=>thn (w d i f H1 _ I1 p) λu g #[y,H2,I2,l,o]=>
  thn (q d g f H2 x y v u _ I2 m l o) (Ï c B #[z,H3,I3,j,k,e,n])) t
 show(ym e j,Ic (ź H3 I3 n))
abbrev Qnw(K:Nf)(x:V)(H:Hp)(k:Bool):Prop:=
 match x with
 |.non=>k=false
 |.bl b=>k=b
 |Ä i=>k=zT6
 |Æ y=>jMj
 |.byt y=>jO8
 |Ã p=>(∃d,qY4/\k=zQf)\/(∃d,p0 p d/\k=zQf)\/∃e,H p=sO (.dK e)/\k=!e.isEmpty
 |_=>False
def QaX{κ:Type}{d:jW}{vs:HK}(r:KV d vs):(!vs.isEmpty)=zQf:=by
 show A8 r
def Yo{xs:À V}{d:È}(r:pE d):(!d.toArray.isEmpty)=!xs.isEmpty:=by
 cases r<;>simp
def Yw:zJ0<2^63:=by rw[Fj];decide
def QgA:Qse X (λx H Q=>qC3 H):=by
 intro z s D H x v Q I l h;show j6 k e q h;let E:=Yw;let C:r0:=Fj;cases x with
 |non=>
  cases l;let d:k=false:=e;subst d;show truthy_none zmj
 |bl b=>
  cases l;let d:k=b:=e;subst d;show Ic zmj
 |int i=>
  show ü l;let d:k=zT6:=e;subst d;show PySem.P.truthy_int zmj
 |str y=>
  show ü l;obtain⟨B,d⟩:jMj:=e;subst d;show PySem.P.truthy_str Â jzh
 |byt y=>
  show ü l;obtain⟨B,d⟩:jO8:=e;subst d;show PySem.W.truthy_bytes (NF (qN (Nd B (Ny C)))) jzh
 |ref p=>
  cases l;let d:(∃j,SqL X.K H p j/\qS1)\/(∃j,SqT X.K H p j/\qS1)\/∃f,H p=sO (.dK f)/\k=!f.isEmpty:=e
  rcases d with⟨j,n,d⟩|⟨j,n,d⟩|⟨f,n,d⟩
  ·subst d;show o5 u r A n g;show wpAny_truthy_list pl.isList (by simp only[Nz];lia) jvi
  ·subst d;show(xo u r A n,gZ);show truthy_tuple pl (by simp only[Nz];omega) jvi
  ·subst d;obtain⟨A,hS,o,r,m⟩:f.length<=sizeLine/\(i6 p)=false/\∃o,KV f o/\s.heap.DictOf (JP X.prog X.w) p o:=I.hok p _ n;let g:f.length=o.length:=N6 r;show wpAny_truthy_dict hS m Â #[H,Α,by rw[QaX r];show q]
 |_=>show Te e
def QeQ(m:yb)(l:jF4) :
  ur a (λσ H Q=>ta σ H λx e=>qC3 e):=by
 show qi σ;refine isTrue_plain (qh m d σ g f) (l _);show(ı x i j f,QgA d g σ H1 x v Q I1 i j)
def op_add_str:â HR (λx y H Q=>∃i j,x=Æ i/\y=Æ j/\i.length+j.length<=sizeLine/\Q (vb (i++j)) H):=by
 intro d s m H x y v u Q I g f h;let#[i,j,rfl,rfl,l,q]:=h;show Ϯ g e f;show add_str (λe n=>#[Æ (i++j),H,Α,Ħ,q]) l
def Kk{x:V}{us:È}(r:lX [x]):jqd:=by
 cases r with
 |cons e d=>show ß d #[_,rfl,e]
def Qhu{x y:V}{us:È}(r:lX [x,y]):∃u w',us=[u,w']/\ô x/\B9 y w':=by
 cases r with
 |cons g f=>
  cases f with
  |cons e d=>show ß d #[_,_,rfl,g,e]
def QcQ:CallR X qGb (λxs H Q=>(∃i,xs=[Ä i]/\Q Ŀ H)\/∃k,xs=[.bl k]/\Q (Ź (zsh k)) H):=by
 intro d s f H xs g Q I r h
 rcases h with⟨i,rfl,q⟩|⟨k,rfl,q⟩
 ·show(qC4,call_int_int #[Ä i,H,I,Ħ,q])
 ·show(iz e r,call_int_bool #[Ä (zsh k),H,Α,Ħ,q])
#print"-"
structure ObjM(h:Heap)(x dx C:Addr)(mA:ý):Prop where
 obj:ο x=sO (Dl C dx)
 ns:h.Ns1 dx mA
 ne:dx≠x
def Qda{h:Heap}{g:Addr}{d:ý}(n:h.Ns1 g d):∃c,ο g=sO c/\∀name,IZ name c=sO (d name):=by
 let#[o,f,r,j,hd,m,_,l]:=n;refine#[o,j,λname=>?_];let e:=l name;unfold nsFind findBy at e;rw[<-Array.find?_toList]at e;unfold IZ;rw[hd];show zYg
 ·rename_i y q;rw[q]at e;show zb1 e
 ·rename_i q;rw[q]at e
  let a:f.toList.any (·.refKey)=false:=by
   rw[List.any_eq_false];intro y i;let#[z,t,b]:=m y (Array.mem_toList_iff.mp i);simp[DictEntry.refKey,b]
  let p:¬f.toList.any (·.refKey)=true:=Ϲ a N8
  rw[Í p];show zb1 e
def ObjM.look{h:Heap}{x c C:Addr}{b:ý}(I:ObjM h x c C b):∃a,PySem.W.InstAt h x (Dl C c) C fI/\∀name,IZ name a=sO (b name):=
 let#[a,d,e]:=Qda I.ns
 #[a,#[I.obj,rfl,rfl,d],e]
section
variable{prog:Program}{w:World}{A:Around}{E:Õ}{s:Shared}{K:Nf}{x dx C f:Addr}{mA:ý}{name:Str}{v:Value}
def Qhz{expr:Bool}{Q:Õ}(X:cO)(I:zB3)(e:qC5)(d:mZ)
  (g:qi2=sO nO) (b:mA name=sO v) (a:Yaz v=true) (h:Q v { s with toks:=BQ }) :
  ù (getAttr AD name expr):=by
 show jaa i c;show PySem.W.get_value X J (IT e).1 (PySem.W.findObj_own d g rfl (by rw[c,b])) a h
def QeN{pl:Sem Bool}{Q:jy0}(X:cO)(I:zB3)(a:qC5)
  (g:qi2=sO kX) (d:Ra) (c:mA name=nO) (h:Q (Ã f,[Ã x]) s) :
  ù (getMethod AD name pl):=by
 show jaa b e;show PySem.W.method_fn X J (IT a).1 (IT a).2 g (beq_iff_eq.mp d) (by apply(IZ name b).map (·.isSome)=sO false;rw[e,c];rfl) h
def QiI{ns:Á}{Q:xm}(X:cO)(I:zB3)
  (o:zrd) (p:zO5) (n:L9 K C name=sO nO) (q:mZ)
  (hw:Yag mA ns) (e:qt5)
  (h:∀h',ObjM h' x dx C (λy=>if y=name then sO v else mA y)->Heap.SameBut dx s.heap h'->Q () { s with heap:=h',toks:=s.toks+2 }) :
  ù (setAttr AD name v):=by
 show jaa B G;refine PySem.W.set_plain X J o (PySem.W.osa_open (s:={ s with toks:=BQ }) (r:=nO) X J p n (æ b));let#[cd,t,j]:=PySem.W.any_some q;let m:ϳ s x=sO #[Ã C,sO dx,.plain,#[]]:=I.obj;show Ë (Nl (Nc (Nc (wpAny_loadPart m (Nc (PySem.W.Looks.here (s:={ s with toks:=BQ }) (PySem.W.looks_clsIn X t) ?_))))));rw[j];refine Nl (a:=sO dx) (Nc (Nl zK8));refine wpAny_nsSet1 (s:={ s with toks:=BQ }) I.ns (Ï h' d c);let#[D,u,z,g,i,l]:=d.count (PySem.Within.cons name v hw);show Ë (wpAny_lookBehind g (by rw[i];show pastItsLine_dict (Nd l (by rw[NO];show E2 e _))) ?_);show ϩ (h _ #[(c.2 _ (EO I.ne)).trans I.obj,d,I.ne] c)
def QfP{R:oF}{vs:È}{a:uW}(X:cO)(b:s0)
  (hi:jNe) (c:PySem.W.typeIn K xw=sO (.type "function"))
  (h:codeAny Ņ (A.under (qS6 #[Ã C::vs,a])) (.call xw #[Ã jM::vs,a]) (PySem.W.InitBack jM R)
   { s with heap:=jM2 }) :
  Hd (.call SB #[vs,a]) R s:=by
 show bN e t;show PySem.W.make_core (PySem.W.makes_of X b) (PySem.W.looks_findIn X hi) (λself=>PySem.W.bind_fn X self c) BL h
#print"-"
set_option backward.eqns.deepRecursiveSplit false in
abbrev Wp(f:Str)(v:V):ž V->ž V
 |[]=>zYh
 |qS7=>if g=f then(g,v)::r else(g,x)::Wp f v r
def Us(f g:Str)(v:V):∀fs:ž V,(Wp f v fs).lookup g=if g=f then sO v else pb g:=by
 intro fs
 induction fs with
 |nil=>
  apply List.lookup g zYh=_
  show Ā h g f
  ·show zAi f;simp only[List.lookup,a,Ð h]
  ·show zw7 f;simp only[List.lookup,a,Í h]
 | cons c r i=>
  show Ď k x c;let d:=i;show zr2 b
  ·rw[Ð b]
   show Ā h g k
   ·show zAi k;simp only[List.lookup,a,if_pos (Ć h b)]
   ·show zw7 k;simp only[List.lookup,a,if_neg (λe:g=f=>h (cL e b))]
  ·rw[Í b]
   show Ā h g k
   ·show zAi k;simp only[List.lookup,a,if_neg (λe:g=f=>b (za2 h e))]
   ·show zw7 k;simp only[List.lookup,a];show d
def WH(f:Str)(v:V):∀fs:ž V,f∈(Wp f v fs).map (·.1)/\∀g,g∈fs.map (·.1)->g∈(Wp f v fs).map (·.1):=by
 intro fs
 induction fs with
 |nil=>
  show#[by simp[Wp],λg h=>qY h]
 | cons b r c=>
  show(Ď k x b,Ď i d c,zr2 a)
  ·rw[Ð a];show ϑ a #[Ê,λg h=>ĝ h]
  ·rw[Í a];refine#[?_,Ò g h]
   ·rw[NH];show ϧ i
   ·rw[NH]at h ⊢
    show BD h e
    ·show NI.mpr (đ e)
    ·show ϧ (d g e)
def U5(f:Str)(v:V):∀fs:ž V,(Wp f v fs).length<=fs.length+1:=by
 intro fs
 induction fs with
 |nil=>
  simp[Wp]
 |cons b r d=>
  show Ď k x b;let c:=d;show zr2 a
  ·rw[Ð a,NO,NO];show yg
  ·rw[Í a,NO,NO];show E2 c _
def RelO.some_of{v:V}{o:M7}(r:RelO qR o):∃u,o=sO u/\ô v:=by
 cases o with
 |none=>show Te r
 |some u=>show je3
def RelO.none_of{o:M7}(r:RelO nO o):o=nO:=by
 cases o with
 |none=>rfl
 |some u=>show Te r
def QdJ{v:V}{u:Value}(r:ô v):Yaz u=true:=by
 cases v with
 |non=>cases(show qR9 from r);rfl
 |bl b=>cases(show qIj from r);rfl
 |int i=>show Sj jqe;rfl
 |str x=>show Sj jqf;rfl
 |byt b=>show Sj (show qp3 from r);rfl
 |flt b=>show Sj (show qp4 from r);rfl
 |ref a=>cases joj;rfl
 |ty n=>cases(show qJ0 from r);rfl
section
variable{P:Program}{w:World}{H H':Hp}{h h':Heap}{a C dx:Addr}{fs fs':ž V}
def U2(c:BG)(e:nV):∃b,ObjM h a dx C b/\(∀f,zCi b)/\Yag b (fs.map (·.1))/\qFj/\H dx=qXj:=by
 let#[d,z,ne,ob,b,n,r,q]:=(show Md qGc  from c a _ e)
 show#[b,#[ob,n,ne],r,q,z,d]
#print"-"
structure Cls(K:Nf)(C:Addr):Prop where
 pg:qp8
 hd:mZ
 po:zO5
 sa:zrd
def Cls.get{K:Nf}{C:Addr}(c:zd3)(f:Str):FF K C f=true:=c.pg
abbrev NoAttr(K:Nf)(C:Addr)(f:Str):Prop:=qe0
def NoAttr.taker{K:Nf}{C:Addr}{f:Str}(n:zM7):L9 K C f=sO nO:=by
 unfold L9;rw[show qe0 from n];rfl
structure Meth(K:Nf)(C:Addr)(m:Str)(f:Addr):Prop where
 at_:E5 K SB m=sO kX
 fn:Ra
 kp:qB
section
variable{X:Cx}{pins:Ö}{σ:St}{H:Hp}{s:Shared}{a C dx:Addr}{fs:ž V}{f:Str}{v:V}{A:Around}{E:Õ}
def Qa1{b:Bool}{Q:Õ}(I:Ù)(e:nV)(c:kq)(n:tw)(l:pb f=sO v)
  (h:∀u d,MU H d->ô v->Q u d):ξ yA (getAttr ĭ f b) s:=by
 let#[i,O,r,_,_,_]:=zQg;let#[u,hu,g]:=RelO.some_of (v:=v) (o:=i f) (jab l r f);show Qhz I.kIn O (c.get f) c.hd n hu (QdJ g) (h u _ qi3 g)
def Yq{m:Str}{g:Addr}{pl:Sem Bool}{Q:jy0}(I:Ù)(e:nV)(c:kq)(k:Meth X.K C m g)(l:pb m=nO)
  (h:Q (Ã g,uD) s):ξ yA (getMethod ĭ m pl) s:=by
 let#[b,O,r,_,_,_]:=zQg;let d:b m=nO:=RelO.none_of (jab l r m);show QeN I.kIn O (c.get m) k.at_ k.fn d h
def QaR{y:V}{u:Value}{Q:xm}(I:Ù)(e:nV)(c:kq)(n:tw)(D:tx)(t:ô y)
  (h:∀j,MU (ć a (.ins C dx qN6)) j->Q () j):ξ yA (setAttr ĭ f u) s:=by
 let#[l,O,r,i,_,m]:=zQg;let B:(fs.map (·.1)).length<=sizeLine:=by rw[ND,Fj];show NF (nB D)
 refine QiI I.kIn O c.sa c.po n.taker c.hd i B λM d p=>h _ ?_;let hd:∃o,M.get? dx=sO o:=let#[o,_,_,N,_]:=d.ns;#[o,N]
 refine I.write (x:=a) (e:=dx) xl6 (õ m) (xk q L z p) hd ?_;refine#[by rw[Qp O.ne];show m,?_,O.ne,d.obj,_,d.ns,æ g,Ò g G]
 ·let:=U5 f y fs;lia
 ·apply RelO ((Wp f y fs).lookup g) qe1;rw[Us]
  show Ā q g f
  ·rw[Ð q,Ð q];show t
  ·rw[Í q,Í q];show r g
 ·show Ā q g f
  ·rw[q];show(WH f y fs).1
  ·refine(WH f y fs).2 g (i g λz=>G ?_);apply qe1=nO;rw[Í q];show z
def Inv.made(I:Ù):Inv X pins σ (upd (upd H s.heap.objs.size (.own jM)) jM (.ins C s.heap.objs.size []))
  { s with heap:=jM2 }:=by
 let c:qge E6=sO E6:=NK s.heap rfl
 let j:((s.heap.push E6).push zv8).get? jM=sO zv8:=by
  let:=NK (s.heap.push E6) (o:=Dl C s.heap.objs.size) rfl;rwa[F4]at this
 let i:(s.heap.push E6).Ns s.heap.objs.size zQh:=#[E6,#[],_,c,rfl,(λe h=>B6 h Ç),ς]
 let I1:=I.laid (a:=s.heap.objs.size) (o:=.own jM) (h':=s.heap.push E6) (t':=s.toks) js9 ÿ #[_,c];refine I1.laid (a:=C9) (o:=.ins C s.heap.objs.size []) (t':=s.toks) js9 (Ny (F4 _ _)) ?_;let ne:s.heap.objs.size≠C9:=NS uh;refine#[by rw[Qp ne,ZL],NN _,ne,j,ŀ,(Heap.Ns1.of_empty i).at λo q=>ŕ q,λ_=>True.intro,λy g=>y0 g]
def Qjr{prog:Program}{w:World}{env:Env}{e:Expr}{f:Str}{pos:Pos}{s:Shared}{Q:Õ}(c:jOg)
  (h:CH A (u5 e) (λo b=>ξ Ņ (getAttr o f true) b) E s):ù (u5 zB4):=
 Attribute_any_ h (by rw[arm_eval_Attribute,c])
#print"-"
abbrev QqN(K:Nf)(ta:TE)(f:Str):TE:=λb H Q=>ta b H λx H1=>∃a C c fs v,yy/\H1 a=zPj c/\zd3/\zM7/\pb f=sO v/\Q v H1
abbrev QqZ(K:Nf)(ta d:TE)(f:Str):TS:=λD b H=>d b H λy H1=>ta b H1 λx H2=>∃a C c fs,yy/\H2 a=zPj c/\zd3/\zM7/\tx /\
 D.nx b (upd H2 a (.ins C c qN6))
section
variable{X:Cx}{o e value:Expr}{f:Str}{pos pos' tpos:Pos}{ta tv:TE}
def Ql3(m:PE X e ta)(p:jMf):ď zB4 (QqN X.K ta f):=by
 show Đ b d Q;refine Qjr p (Č (jn m b d) u z g);let#[x,H1,I1,i,a,C,A,fs,v,r,t,c,n,l,q]:=g;subst r;obtain rfl:SI:=i;show Qa1 I1 t c n l λw y I2 j=>#[v,H1,I2,j,q]
def Qkz(w:PE X o ta)(t:PE X value tv)(v:jHj):PS X jN0 (QqZ X.K ta tv f):=by
 show Đ b d D;refine plainObj_wpAny_Assign_Attribute (Č (jn t b d) u i g) v;show(ı y j q g,jf (w b i d H1 _ I1 q) (Ï r E g));let#[x,H2,I2,m,a,C,G,fs,z,A,c,n,l,p]:=g;subst z;obtain rfl:r=BA a:=m;show QaR I2 A c n l j (ş B I3 #[d,_,I3,p])
def Qii{pl:Sem Bool}{m:Str}{apos:Pos}{args:List Expr}{b:List (Addr×Obj)}{s:Shared}{σ:St}{H:Hp}{Q:Value->Shared->Prop}{te:TE}(r:PE X e te)(I:Inv X b σ H s)
  (h:te σ H λx H1=>∃a C i fs g,x=.ref a/\H1 a=sO (.ins C i fs)/\Cls X.K C/\Meth X.K C m g/\fs.lookup m=nO /\
   ∀s1,Inv X b σ H1 s1->wpAny (model X.prog X.w) X.A (callWith pos (.ref g) [.ref a] (backTo pos (starEach args X.env)) (backToKw pos (keywordEach [] X.env))) Q X.xe s1)
  (p:eval (.Call (.Attribute e m apos) args [] pos) X.env=(do
   let d <-eval e X.env
   standAt apos.atName
   let(f,first) <-holding [d] (getMethod d m pl)
   callWith pos f first (backTo pos (starEach args X.env)) (backToKw pos (keywordEach [] X.env)))) :
  wpAny (model X.prog X.w) X.A (eval (.Call (.Attribute e m apos) args [] pos) X.env) Q X.xe s:=by
 refine OC (pl:=pl) (thn (r b s σ H _ I h) λu s1 j=>?_) p;let#[x,H1,I1,n,a,C,i,fs,g,t,v,c,k,l,q]:=j;subst t;obtain rfl:u=Value.ref a:=n;show Yq I1 v c k l (q s1 I1)
#print"-"
structure Room(k:Nat)(A:Around):Prop where
 hd:ϸ
 dp:A.depth+3*k+5<recursionLimit
 un:A.units+16*k+200<cLine
def Room.mono{j k:Nat}{A:Around}(r:zbh)(h:j<=k):Room j A:=#[r.hd,by let:=r.dp;lia,qza]
def Room.deeper{k:Nat}{A:Around}(r:qC6)(env:Env):Room k (A.deeper env):=
 #[r.hd,by let:=r.dp;apply A.depth+1+3*k+5<_;lia,by let:=r.un;apply A.units+3+16*k+200<_;lia]
def Qbd{A:Around}{C:Addr}{us:È}{a:uW}:(A.under zsi).depth=A.depth+1:=by
 first|rfl|simp[Around.under,Code.weight,Code.isCreation,Code.isGuard,Code.isCaller,Code.frames,Code.isFrame,guardIds]
def Qba{A:Around}{C:Addr}{us:È}{a:uW}:(A.under zsi).units=CL:=by
 first|rfl|simp[Around.under,Code.cUnits,Code.frames,Code.isFrame]
def Room.make{k:Nat}{A:Around}(r:qC6)(C:Addr)(us:È)(a:uW):Room k (A.under zsi):=
 #[r.hd,by let:=r.dp;rw[Qbd];lia,by let:=r.un;rw[Qba];lia]
def Room.depth{k:Nat}{A:Around}(r:zbh):A.depth<recursionLimit:=by let:=r.dp;show Np (Nd ŗ ŗ) this
def Room.units{k:Nat}{A:Around}(r:zbh):A.units+64<cLine:=qza
abbrev Qof:TA:=λ_ H Q=>Q [] H
abbrev Qoc(ta:TE)(c:TA):TA:=λa H Q=>ta a H λx H1=>c a H1 λb H2=>Q (x::b) H2
section
variable{X:Cx}{e:Expr}{es:é}{te:TE}{t:TA}{pos:Pos}
def QlM:PA X [] Qof:=λ_ _ _ _ H Q I h=>Lx qt6
def Qiu(o:CT)(n:za3)(m:xM:=by rfl):PA X qo (Qoc te t):=by
 intro pos a s c H Q I h;rw[m];apply Ů (spliced (jGh::backTo pos uV));refine Ld (Č (jn o a c) u f b);show(ı x i l b,jf (n pos a f c H1 _ I1 l) (Ï p q b),ň d H2 I2 g j b,#[x::d,H2,I2,Ē i g,j])
abbrev Qru(t:TA):TE:=λb H Q=>t b H (qc7 (upd H1 p (Ŋ a)))
abbrev QqP(t:TA):TE:=λb H Q=>t b H (qc7 (upd H1 p uB))
def QkK{i}(h:za3):ď (sN i) (Qru t):=by
 intro a s d H Q I l;refine wpAny_Tuple_spliced (Č (h pos a s d H _ I l) j c f);show(qG6,jH0 m,Ak #[ϗ c,jw2 (Ŋ g),jLb,rfl,q _ m] #[z,j,r,#[_,ų,rfl,_,rfl]])
def QgX(h:za3):ď zH6 (QqP t):=by
 intro a s d H Q I j;refine wpAny_List_spliced (Č (h pos a s d H _ I j) i c f);show(qG6,jH0 l,Ak #[ϗ c,jw2 (Þ g),jLb,rfl,q _ l] #[z,i,0,r,ų])
#print"-"
noncomputable abbrev Sp:=À V->Hp->VK->XK->Prop
noncomputable abbrev CXT:=ŷ->Hp->Shared->XK->Õ
structure Env0(P:Program)(w:World)(K:Nf)(mg:ý)(base:Heap)(A:Around)(outer:ŷ)(s:Shared)(H:Hp):Prop where
 frames:A.frames=sO outer
 mod:Mod K mg base
 bs:∀b o,base.get? b=sO o->ji/\ώ
 bsz:base.objs.size<=s.heap.objs.size
 funs:s.heap.FunFrames base outer
 frf:∀b∈frs outer,ώ
 hok:jac H s
 bare:cW s
abbrev CE(a:ŷ)(P:Program)(w:World)(H:Hp)(s:Shared)(Q:VK)(u:Value)(b:Shared):Prop:=
 ∃v c,b.os=s.os/\cW b/\Un (frs a) [] H c s.heap b.heap/\jac c b/\ô v/\Q v c
abbrev CR(CX:CXT)(a:ŷ)(P:Program)(w:World)(H:Hp)(s:Shared)(Q:VK)(E:XK)(r:Result)(b:Shared):Prop:=
 match r with
 |.ok (.ret u)=>CE a P w H s Q u b
 |.ok _=>False
 |.error e=>CX a H s E e b
structure FnOk(P:Program)(w:World)(K:Nf)(mg:ý)(base:Heap)(CX:CXT)(k:Nat)(f:Addr)(fd:FuncData)(ps:Á)(sp:Sp):Prop where
 len:jT7
 run:∀(A:Around) (outer:ŷ) (s:Shared) (H:Hp) (args:Args) (us:È) (vs:À V) (Q:VK) (E:XK),zbh->Env0 P w K mg base A outer s H->BindsTo s fd args TD->br->sd ->
  codeAny Cv A (.call xw args) (CR CX outer P w H s Q E) s
def FnOk.imp{P:Program}{w:World}{K:Nf}{mg:ý}{base:Heap}{CX:CXT}{k:Nat}{f:Addr}{fd:FuncData}{ps:Á}{sp b:Sp}(F:FnOk P w K mg base CX k f fd ps sp)
  (h:∀vs H Q E,b vs H Q E->sd):FnOk P w K mg base CX k f fd ps b:=
 #[λvs H Q E q=>F.len vs H Q E (h _ _ _ _ q),λA a s H args c vs Q E g i j d e=>F.run A a s H args c vs Q E g i j d (h _ _ _ _ e)]
def Env0.make{P:Program}{w:World}{K:Nf}{mg:ý}{base:Heap}{A:Around}{a:ŷ}{s:Shared}{H:Hp}(e:zD1 A a)(C:Addr)(us:È)(b:uW) :
  zD1 (A.under (qS6 #[Ã C::us,b])) a:=#[by first|show e.frames|(simpa[Around.under,Code.envs,Code.isFrame,pushEnvs]using e.frames),e.mod,e.bs,e.bsz,e.funs,e.frf,e.hok,e.bare]
section
variable{X:Cx}{pins:Ö}{σ:St}{H:Hp}{s s':Shared}
def Inv.env0(I:Ù):Env0 X.prog X.w X.K X.mg X.base X.A X.stack s H:=
 #[I.ok.frames,I.ok.mod,I.bs,qC7,I.stack,I.stkFree,I.hok,I.bare]
def Inv.after{Q:VK}{u:Value}(I:Ù)(h:CE X.stack X.prog X.w H s Q u s'):EP X pins σ Q u s':=by
 let#[v,f,os,bare,un,c,r,q]:=h;show ň e g d t a s';obtain rfl:a=s.os:=os;show#[v,f,I.call (h':=e) (g':=g) (d':=d) (t':=t) (ch:=[]) un c bare (λb z=>B6 z Ç),r,q]
#print"-"
abbrev Qey(sp:Sp)(a:À V)(E:XK)(t:TA):TE:=λb H Q=>t b H λc H1=>sp zYf H1 Q E
abbrev Qog(C:Addr)(m:Str)(sp:Sp)(b:À V)(E:XK)(ta:TE)(t:TA):TE:=λc H Q=>ta c H λx H1=>∃a e fs,yy/\H1 a=zPj e/\pb m=nO /\
 t c H1 λd H2=>sp (x::(d++b)) H2 Q E
abbrev Qmb(C:Addr)(sp:Sp)(b:À V)(E:XK)(t:TA):TE:=λc H Q=>t c H λd H1=>∀x a,H1 x=nO->H1 a=nO->a≠x ->
 sp (Ã x::(d++b)) (upd (upd H1 a m9) x (.ins C a [])) jV5 E
abbrev Binds(K:Nf)(fd:FuncData)(ps:Á)(b:È):Prop:=
 ∀(s:Shared) (a:È),cO->(a++b).length=ps.length->BindsTo s fd #[a,[]] (ps.zip zYb)
def Binds.all{K:Nf}{fd:FuncData}{ps:Á}(h:∀us:È,qt8->jw3=pure TD):Cj:=λs us _ a=>by
 rw[Eb]at a ⊢;show .of_eq (h us a)
abbrev V7(CX:CXT)(X:Cx)(E:XK):Prop:=∀(a:Ö) (c:St) (H:Hp) (s:Shared) (e:Value) (b:Shared),jH a c->CX X.stack H s E e b->X.xe e b
section
variable{X:Cx}{CX:CXT}{k:Nat}{f C:Addr}{fd:FuncData}{ps:Á}{sp:Sp}{dvs:À V}{ds:È}{E:XK}{x m:Str}{p pos apos:Pos}{e o:Expr}{es:é}{ta:TE}{t:TA}
def QdW{a:Ö}{σ:St}{H:Hp}{s:Shared}{Q:VK}{us:È}{vs:À V}(F:xO)(i:BN k)(l:Hx)(hd:MC)(g:vK)
  (I:Ĝ a) (r:br) (h:sp fm H Q E):ĕ (call xw us) qG3 s:=by
 let c:Vals fm zM8:=r.append hd;let j:(us++ds).length=ps.length:=by show(B5 c,F.len _ _ _ _ h)
 refine wpAny_call (Fv (F.run X.A X.stack s H nC zM8 fm Q E i I.env0 (l s us I.kIn j) c h) (Ï r d b));cases r with
 |error e=>show g a σ H s e d I b
 |ok n=>
  cases n with
  |ret u=>show I.after b
  |next=>show BO b
  |brk=>show BO b
  |cont=>show BO b
def Qb1(F:xO)(l:BN k)(v:Ş)(n:zA)(u:nJ)(z:Hx)(hd:MC)(j:vK)
  (B:TJ) (c:ŏ:=by decide) (y:xM:=by rfl) (b:(backTo pos uV).any (·.1)=false:=by rfl) :
  dS (Qey sp dvs E t):=by
 show Đ a g Q;refine zd4 v n c;refine Le (h₀:=X.base) I.ok.mod.kin u (Č (vv B a g) G L i) y b;show ı D r q i;refine qN7;show QdW F l z hd j I1 r q
def Qd6(F:xO)(d:BN k)(j:Ş)(g:zA)(i:nJ)(l:Hx)(hd:MC)(c:vK)
  (a:ŏ:=by decide):ď iy (Qey sp dvs E Qof):=by
 show Đ b n Q;refine zd4 j g a;show O6 I.kIn i (QdW (us:=[]) F d l hd c I .nil h)
def QhG{pl:Sem Bool}(P:PE X o ta)(c:Cls X.K C)(B:Meth X.K C m f)(F:FnOk X.prog X.w X.K X.mg X.base CX k f fd ps sp)(O:Room k X.A)(S:Binds X.K fd ps ds)(hd:Vals dvs ds)(M:V7 CX X E)(U:PA X (e::es) t)
  (g:starEach (e::es) X.env=(false,eval e X.env)::starEach es X.env:=by rfl) (i:(backTo pos (starEach es X.env)).any (·.1)=false:=by rfl)
  (N:eval (.Call (.Attribute o m apos) (e::es) [] pos) X.env=(do
   let y <-eval o X.env
   standAt apos.atName
   let(f,first) <-holding [y] (getMethod y m pl)
   callWith pos f first (backTo pos (starEach (e::es) X.env)) (backToKw pos (keywordEach [] X.env))):=by rfl) :
  PE X (.Call (.Attribute o m apos) (e::es) [] pos) (Qog C m sp dvs E ta t):=by
 intro b s j H Q I h;refine OC (pl:=pl) (thn (P b s j H _ I h) λu D d=>?_) N;let#[x,H1,I1,G,a,dx,fs,Y,Z,l,q]:=d;subst Y;obtain rfl:u=Value.ref a:=G;refine Yq I1 Z c B l ?_;refine Le (first:=[.ref a]) (h₀:=X.base) I.ok.mod.kin B.kp (thn (U pos b D j H1 _ I1 q) λv s2 d=>?_) g i;let#[n,H2,I2,r,L]:=d;refine#[I2.kIn,?_];show QdW (us:=.ref a::v) (vs:=.ref a::n) F O S hd M I2 (.cons rfl r) L
structure Mk(K:Nf)(C f:Addr):Prop where
 makes:s0
 init:jNe
 fn:Ra
 kp:zAj
def Gv{a:Ö}{σ:St}{H:Hp}{s:Shared}{Q:VK}{us:È}{vs:À V}(M:zQi)(F:xO)(q:Su)(z:Hx)(hd:MC)
  (n:vK) (I:Ĝ a) (r:br)
  (h:∀x c,H x=nO->H c=nO->c≠x->sp (Ã x::fm) (upd (ć c m9) x (.ins C c [])) jV5 E) :
  ĕ (call SB us) qG3 s:=by
 let g:=h jM s.heap.objs.size (I.hok.fresh Tq) oG (NS uh);let I2:=Inv.made (C:=C) I;let d:Vals (V.ref jM::fm) jL7:=.cons rfl (r.append hd)
 let y:(jQ5++ds).length=ps.length:=by
  show ű e d;rw[F.len _ _ _ _ g]at e;show e.symm
 refine wpAny_call (QfP (f:=f) I.kIn M.makes M.init (beq_iff_eq.mp M.fn) (Fv (F.run _ X.stack _ _ #[jQ5,[]] jL7 _ _ E (q.make C us [])
  (I2.env0.make C us []) (z _ (Value.ref jM::us) I2.kIn y) d g) (Ï r i b)))
 cases r with
 |error e=>show n a σ _ _ e i I2 b
 | ok B=>
  cases B with
  |ret u=>
   let#[v,G,I3,j,D,l]:=I2.after b;show ϑ D #[j,#[V.ref jM,G,I3,rfl,l]]
  |next=>show BO b
  |brk=>show BO b
  |cont=>show BO b
def Qik(M:zQi)(F:xO)(l:Su)(u:Ş)(n:yW=ō C)(y:Hx)(hd:MC)(j:vK)
  (z:TJ) (c:ŏ:=by decide) (v:xM:=by rfl) (b:(backTo pos uV).any (·.1)=false:=by rfl) :
  dS (Qmb C sp dvs E t):=by
 show Đ a g Q;refine zd4 u n c;refine Le (h₀:=X.base) I.ok.mod.kin M.kp (Č (vv z a g) D G i) v b;show ı B r q i;refine qN7;show Gv M F l y hd j I1 r q
def Qe9(M:zQi)(F:xO)(d:Su)(i:Ş)(g:yW=ō C)(j:Hx)(hd:MC)(c:vK)
  (a:ŏ:=by decide):ď iy (Qmb C sp dvs E Qof):=by
 show Đ b l Q;refine zd4 i g a;show O6 I.kIn M.kp (Gv (us:=[]) M F d j hd c I .nil h)
#print"-"
structure FnScope(N P:Á)(sc:Scope):Prop where
 kind:sc.kind=.function
 co:sc.isCoroutine=false
 gen:sc.isGenerator=false
 nd:N.Nodup
 pre:N.take P.length=P
 par:∀x∈P,qzb=yT\/qzb=π
 nofree:∀y∈sc.names,qYc
def QcO{kindOf:qqj}{x:Str}:∀{binds:uW} {m:ý},qgf->bindL kindOf binds m x=m x:=by
 intro binds
 induction binds with
 |nil=>
  intro _ _;show rfl
 | cons a r b=>
  show Ď n v a;intro m h;unfold bindL;rw[qb9];split
  ·show jqg
  ·rfl
def QdR{kindOf:qqj}{x:Str}:∀{binds:uW} {m:ý},qgf->bindC kindOf binds m x=m x:=by
 intro binds
 induction binds with
 |nil=>
  intro _ _;show rfl
 | cons a r b=>
  show Ď n v a;intro m h;unfold bindC;rw[qb9];split
  ·rfl
  ·show jqg
def WJ{kindOf:Str->Option NameKind}{x:Str}{v:Value}:∀{P:List Str} {vs:List Value} {i:Nat} {m:Str->Option Value},P.Nodup->P[i]?=sO x->vs[i]?=sO v->kindOf x=sO .local ->
  bindL kindOf (P.zip vs) m x=sO v
 |[],_,_,_,_,h,_,_=>by simp at h
 |_::_,[],_,_,_,_,h,_=>by simp at h
 |p::P,w::vs,0,m,a,h1,h2,b=>by
  simp at h1 h2;subst h1;subst h2;apply bindL kindOf ((p,w)::P.zip vs) m p=_;unfold bindL;rw[QcO λv c=>(EV.mp a).1 (Oa c).1,if_pos b];simp
 |p::P,w::vs,i+1,m,a,h1,h2,b=>by
  apply bindL kindOf ((p,w)::P.zip vs) m x=_;unfold bindL;show WJ (i:=i) (EV.mp a).2 (by simpa using h1) (by simpa using h2) b
def Uj{kindOf:Str->Option NameKind}{x:Str}{v:Value}:∀{P:List Str} {vs:List Value} {i:Nat} {m:Str->Option Value},P.Nodup->P[i]?=sO x->vs[i]?=sO v->kindOf x≠sO .local ->
  bindC kindOf (P.zip vs) m x=sO v
 |[],_,_,_,_,h,_,_=>by simp at h
 |_::_,[],_,_,_,_,h,_=>by simp at h
 |p::P,w::vs,0,m,a,h1,h2,b=>by
  simp at h1 h2;subst h1;subst h2;apply bindC kindOf ((p,w)::P.zip vs) m p=_;unfold bindC;rw[QdR λv c=>(EV.mp a).1 (Oa c).1,if_neg b];simp
 |p::P,w::vs,i+1,m,a,h1,h2,b=>by
  apply bindC kindOf ((p,w)::P.zip vs) m x=_;unfold bindC;show Uj (i:=i) (EV.mp a).2 (by simpa using h1) (by simpa using h2) b
abbrev start(N:Á)(vs:À V):St:=vs.map sO++List.replicate (N.length-vs.length) nO
abbrev Qbg(CX:CXT)(P:Program)(w:World)(K:Nf)(mg:ý)(base:Heap)(N:Á)(b:Str)(a:Scope)(f:Addr)(cd:Value)(A:Around)(outer:ŷ)(s:Shared)(H:Hp)(E:XK):Cx where
 prog:=P
 w:=w
 K:=K
 mg:=mg
 base:=base
 A:=A.deeper zv5
 N:=N
 s₀:=s
 H₀:=H
 env:=qae
 outer:=outer
 stack:=qae::outer
 ex:=[]
 calm:=true
 fn:=zT7
 pn:=[]
 xe:=λe d=>wpAny Cv (A.deeper zv5) (leaving zv5 e) (λ_ c=>CX outer H s E e c) (λg c=>CX outer H s E g c) d
def YS{a:Scope}{n:Nat}{x:Str}(h:xq=π):∃c,(cellsFrom n a.names []).lookup x=sO c:=by
 let q:=Os a.names n [] uG;show Option.isSome_iff_exists.mp q
def Qcs{CX:CXT}{P:Program}{w:World}{K:Nf}{mg:ý}{base:Heap}{N ps:Á}{j:Str}{d:Scope}{f:Addr}{cd:Value}{A:Around}{g:ŷ}{s s1:Shared}{H:Hp}{E:XK}{us:È}{vs:À V}
  (S:FnScope N ps d) (hd:ϸ) (m:zD1 A g) (O:qt7) (r:br)
  (x:InCallC s s.heap.objs.size (bindL jUh TD ŀ) (cellsFrom jM d.names []) (bindC jUh TD ŀ) s1) :
  Inv (Qbg CX P w K mg base N j d f cd A g s H E) [] zK9 H s1:=by
 let M:ps.length<=N.length:=by show(qa4,Nd zH7 fK)
 let#[G,U,rfl,I]:=x.done;let o:∀b:Addr,b∉(Qbg CX P w K mg base N j d f cd A g s H E).ex:=jjf z
 refine#[#[m.mod,S.kind,rfl,rfl,Nu _,Ϭ y z c G l,Ò y t,λy c _ h=>?_,λ_=>hd,Around.frames_deeper m.frames,å jp,jp0,m.bs,m.bsz,λb _ _=>o b,jp0,m.funs,m.frf],
  rfl,m.bare,Un.kept I,#[_,x.toInCall.ns,λi y v G l X=>?_],λy c h=>#[_,x.cell y c h],m.hok.fresh ÿ,Ï y c h,λp C=>absurd (show p∈([]:Ö)from C) Ç,m.hok.kept I,?_]
 ·show name_of_addr x.apart (Dx G) (Dx l)
 ·let t:wB d y=π\/wB d y=y9:=t
  show υ t
  ·show YS t
  ·show jy1 t
 ·show NF qf6
 ·let D:zO6:=by
   unfold start at l
   by_cases D:zO6
   ·show D
   show jnc D l
  let Q:sf:=by
   unfold start at l;rw[NM (Ŏ D),NB]at l;cases e:vs[i]? with
   |none=>show ä e l
   |some a=>show ä e l;rfl
  show Mw L r Q
  let C:ps[i]?=sO y:=by
   rw[<-S.pre,LK (Ng D (Ny O))];show G
  let B:ps.Nodup:=by rw[<-S.pre];show S.nd.sublist (List.take_sublist _ _)
  show pr u L
  rcases S.par y (E3 C)with k|k
  ·show ø #[k,WJ B C hu k]
  ·let#[c,e]:=YS (n:=C9) k;show qd #[Ø k,c,e,?_];let q:=x.cell y c e;rw[Uj B C hu (by apply wB d y≠_;rw[k];decide)]at q;show q
 ·show m.hok.fresh (NF qf6)
 ·unfold start;apply _=N.length;rw[NA,ND,OD];lia
def Qkb{CX:CXT}{P:Program}{w:World}{K:Nf}{mg:Str->Option Value}{base:Heap}{k:Nat}{f:Addr}{name d:Str}{h:Arguments}{body:List Stmt}{a:Scope}{Y kV C pm g ct oc:Value}{Z od:Option Addr}
  {L:Array (Option Value)} {N ps:List Str} {sp:Sp} (lk:K.lookup f=sO #[oc,od,.func (EL name d h body a Y kV C pm Z g ct),L]) (U:DV K g d=true) (S:FnScope N ps a)
  (len:∀vs H Q E,sp vs H Q E->vs.length=ps.length)
  (m:∀(A:Around) (c:List Env) (s:Shared) (H:Hp) (vs:List V) (Q:VK) (E:XK),Room k (A.deeper (envOfC d a s.heap.objs.size f g))->sp vs H Q E ->
   ∃t,PSs (Qbg CX P w K mg base N d a f g A c s H E) body t/\t { nx:=λ_ j=>Q .non j,rt:=Q } (start N vs) H) :
  FnOk P w K mg base CX (k+1) f (EL name d h body a Y kV C pm Z g ct) ps sp:=by
 refine#[len,λA c s H args us vs Q E O B hb r z=>?_];let hl:=len _ _ _ _ z;let KX:K.In s.heap:=B.mod.kin.keeps λb o e=>(B.bs b o e).1;let M:s.heap.NoLimit:=B.mod.nolimit.keeps λb o e=>(B.bs b o e).1
 let l:∀y∈ps.zip us,a.names.lookup y.1=sO .local\/(a.names.lookup y.1=sO .cell/\((cellsFrom (s.heap.objs.size+1) a.names []).lookup y.1).isSome=true):=λ#[n,v] hy=>by
  rcases S.par n (Oa hy).1 with q|q
  ·show .inl q
  ·show .inr #[q,Os _ _ _ (.inl q)]
 refine codeAny_call_function O.depth (KX _ _ lk) rfl S.co S.gen rfl (PySem.W.codeRec_of KX U) (hb _ _ _ _ ?_);refine wpAny_newFunctionEnv_cells S.kind l λaa he X x=>?_;subst he;refine#[M.keeps x.toInCall.keep,codeAny_func ?_];let#[t,ht,hq]:=m A c s H vs Q E (O.deeper _) z;let I:Inv (Qbg CX P w K mg base N d a f g A c s H E) [] (start N vs) H X:=Qcs S O.hd B hl r x;refine N7 (ht [] X (start N vs) H _ I hq) (λfl D p=>?_) λe D p=>p
 let fin:∀{i:St} {j:Hp} {v:V} {u:Value},Inv (Qbg CX P w K mg base N d a f g A c s H E) [] i j D->RelV v u->Q v j->CE c P w H s Q u D:=
  λ{i j v u} J G q=>#[v,j,J.os,J.bare,J.base,J.hok,G,q]
 cases fl with
 |ret u=>
  let#[v,i,j,J,G,q]:=p;show fin J G q
 |next=>
  let#[i,j,J,q]:=p;show fin (v:=V.non) (u:=Value.none) J rfl q
 |brk=>
  let#[_,_,_,q]:=p;show False.elim q
 |cont=>
  let#[_,_,_,q]:=p;show False.elim q
section
variable{X:Cx}{x:Str}{p pos:Pos}{e:Expr}{es:é}{t:TA}{id T:String}{r:x0}
abbrev tCB(r:x0)(t:TA):TE:=λa H Q=>t a H λb H1=>r b H1 Q
def QfR(w:jYd)(u:Ş)(q:yW=nO)(n:zpc)(y:TJ)(o:qL:=by decide)(c:ŏ:=by decide)
  (v:xM:=by rfl) (b:(backTo pos uV).any (·.1)=false:=by rfl):dS qYe:=by
 show(zp9,jZa);refine IF jnb v b;show(ı g l m f,w a j d H1 g i Q I1 l m)
def Qdg(w:zE3 r)(u:Ş)(q:yW=nO)(n:zpa)(y:TJ)(o:qL:=by decide)(c:ŏ:=by decide)
  (v:xM:=by rfl) (b:(backTo pos uV).any (·.1)=false:=by rfl):dS qYe:=by
 show(zp9,jZa);refine Eo jnb v b;show(ı g l m f,w a j d H1 g i Q I1 l m)
#print"-"
#print"-L2"
namespace HT
open PySem PyProof.Rows
section
variable{prog:Program}{w:World}{A:Around}{E:Õ}{s:Shared}
def cat_tup{t b:Addr}{vs ws:È}{Q:Õ}(q:IsTup s.heap t vs.toArray)(r:IsTup s.heap b ws.toArray)(m:vs≠[])
  (h1:ws=[]->Q SC s) (h2:ws≠[]->Q yB { s with heap:=s.heap.push { cls:=yH,data:=.seq qC8 } })
  (i:vs.length+ws.length<=sizeLine):ù (binaryOp .Add SC SD):=by
 show zC4 j h o q;let#[#[p,g,data2,c],a,f,l,d]:=id r;show zJh o f d;let e:vs.toArray++ws.toArray=qC8:=Ê
 by_cases hw:ws=[]
 ·show Yah zhh zhi LL O0 Ik F6 zT8
   (tuple_addW1 t b vs.toArray ws.toArray n l dd g j c gI (by simp[hw])) #[h,a,h1 hw]
 ·refine Yah zhh zhi LL O0 Ik F6 zT8
   (tuple_addW2 t b vs.toArray ws.toArray n l dd g j c gI (by simpa using hw) (by rw[Nz,Nz];show i)) #[h,a,?_]
  rw[e];show h2 hw
abbrev sIx(n d:Nat):ġ->Nat
 |none=>d
 |Û v=>if v<0 then(v+ŝ).toNat else qk1
def sIx_none(n d:Nat):sIx n d nO=d:=rfl
def sIx_nat(n d k:Nat):sIx n d Sx=zd5:=by
 apply(if ĳ<0 then(ĳ+ŝ).toNat else min (k:Int).toNat n)=zd5;rw[qg,E7]
def QlC(n d:Nat)(hd:d<=n)(o:ġ):sIx n d o<=n:=by
 cases o with
 |none=>show hd
 |some v=>
  apply jj2<=n
  by_cases a:v<0
  ·rw[Ð a];lia
  ·rw[Í a];show Dj _ _
def Uz(v:Int)(n d:Nat):(if v<0 then max (v+ŝ) 0 else min v ŝ)=qba:=by
 apply _=((jj2:Nat):Int)
 by_cases a:v<0
 ·rw[Ð a,Ð a,Int.toNat_eq_max]
 ·let#[k,rfl]:=Int.eq_ofNat_of_zero_le (pP a);rw[Í a,Í a,E7]
  rcases Nat.le_total k n with h|h
  ·rw[Dg h,Int.min_eq_left qn3]
  ·rw[LM h,Int.min_eq_right qn3]
def clip_max(v:Int)(n d:Nat):max 0 (min (if v<0 then v+ŝ else v) ŝ)=qba:=by
 rw[<-Uz]
 by_cases a:v<0
 ·rw[Ð a,Ð a,Int.min_eq_left (ES (Int.add_le_add_right (Dh a) n) (Fw (Int.zero_add _))),Int.max_comm]
 ·rw[Í a,Í a,Int.max_eq_right (Int.le_min.mpr #[FG.mp a,Int.natCast_nonneg n])]
def QaB(lo hi:ġ)(n:Nat):jii=(nM,qn4):=by
 let a:¬(ud<0):=xg
 unfold Builtin.Slice.sliceAdjust;simp only[a,if_false];refine LN ?_ ?_
 ·cases lo with
  |none=>rfl
  |some v=>show Uz v n 0
 ·cases hi with
  |none=>rfl
  |some v=>show Uz v n n
def QaQ(i j:Nat):Builtin.Slice.slicePlaces jX u7 1=j-i:=by
 unfold Builtin.Slice.slicePlaces;let a:ud>0:=xg
 simp only[a,if_true,Int.ediv_one];split<;>lia
def YH{v:Value}{o:ġ}{Q:ġ->Ω}(p:IsPart v o)(h:Q o s):ù (Builtin.Slice.slicePartIndex v):=by
 cases p with
 |none=>show slicePart_none h
 |int i t=>show slicePart_int h
def sliceApplied_gen{e:Addr}{d c:Value}{lo hi:ġ}{n:Nat}{Q:Int×Int×Nat->Ω}(g:r4 e d c)(pl:ze4 d)(f:ze5 c)
  (h:Q (nM,1,sIx n n hi-sIx n 0 lo) s):ù (Builtin.Slice.sliceApplied (Ġ e) (pure ŝ)):=by
 let#[os,a,i,b]:=id g;unfold Builtin.Slice.sliceApplied Builtin.Slice.sliceFields;show(Ë (Nc (wpAny_field a b (x:=d) rfl (Nc (wpAny_field a b (x:=c) rfl (Nc (wpAny_field a b (x:=.none) rfl ϻ)))))),Ë (slicePart_none ?_));apply Ů (if(ud==0)=true then _ else _);show(qsg,Ë (YH pl (Nc (YH f (Nc ϻ)))));apply Ů (match jii with|(lo,hi)=>pure (lo,ud,Builtin.Slice.slicePlaces lo hi 1));rw[QaB lo hi n];apply Ů (pure (nM,ud,Builtin.Slice.slicePlaces nM qn4 1));rw[QaQ];show Nl h
def Qfm(xs:ľ)(i k:Nat):((List.range k).filterMap λ vX=>xs[zlc]?).toArray=((xs.toList.drop i).take k).toArray:=by
 let e:(λ vX=>xs[zlc]?)=qN8:=by
  funext m;let:zlc=i+m:=Ñ
  rw[this]
 rw[e];let:=pick_run xs i k;rw[List.filterMap_map]at this;let a:((λx=>xs[x]?)∘λx=>i+x)=qN8:=rfl;show ut a;rw[this]
def getItem_tuple_cut{t c:Addr}{items:ľ}{l j:Value}{lo hi:ġ}{Q:Õ}(b:qr0)(n:r4 c l j)(pl:ze4 l)(p:ze5 j)
  (hw:¬(HQ=0/\wR=items.size))
  (h:Q yB { s with heap:=s.heap.push { cls:=yH,data:=.seq jDf } })
  (d:qr1):ù (getItem SC (Ġ c)):=by
 let a:sizeOk (.seq jDf):=by
  apply((items.toList.drop jUa).take xgh).toArray.size<=sizeLine;rw[Nz,N4,DY,NC];show Nd (Nd fK ju) d
 let r:wR<=items.size:=QlC _ _ ÿ hi;show jkc e g u n i c
 show Ë (qf7 b)
 refine Nc (EZ (name:=qgg) b.typeIs Ey
  (jNi b))
 show(jid b i,Ë (sliceApplied_gen n pl p ?_))
 let f:¬(jE2=true):=by
  intro q;rw[N0,N0]at q;let v:((HQ:Nat):Int)=0:=DF q.1.1;let o:wR-HQ=items.size:=DF q.2;show hw #[Ñ,pp r (Nd (ħ o) ju)]
 apply Ů (if jE2=true then _ else _);rw[Í f,Qfm]
 first
  |show Nc (m:=iT) jR7
  |show Nc (m:=iT) (Ez (yt (Td zt9)) a)
  |show Nc (Nc (m:=iT) (Ez (Td zt9) a))
  |show Nc (Nc (m:=iT) jR7)
#print"-"
#print"-HT"
namespace L2
noncomputable abbrev TO:=St->Hp->(ġ->Ű)->Prop
abbrev PO(X:Cx)(e:MD)(t:TO):Prop:=
 ∀(a:Ö) (s:Shared) (b:St) (H:Hp) (Q:ġ->Ű),jF->lq ->
  ĕ (evalPart e X.env) (λu d=>∃o c,ŉ a b c d/\IsPart u o/\Q o c) s
abbrev Qjp:TO:=λ_ H Q=>Q nO H
abbrev Qn5(t:TE):TO:=λa H Q=>t a H λx H1=>∃i,d5/\Q (sO i) H1
section
variable{X:Cx}{e:Expr}{te:TE}{lo hi:MD}{tl th:TO}{pos p2:Pos}
def Qh7:PO X nO Qjp:=by
 show Đ a b Q;rw[evalPart_none];show ϩ #[nO,H,I,.none,h]
def QiF(h:CT):PO X lg (Qn5 te):=by
 intro a s b H Q I hw;rw[evalPart_some];show(jf (h a s b H _ I hw) (Ï u g c),ı x d f c,kE i q f,ü d,#[sO i,H1,I1,zbd,q])
abbrev SlR(X:Cx)(r:V->ġ->ġ->yE):Prop:=
 ∀(a:Ö) (s:Shared) (b:St) (H:Hp) (x:V) (v d c:Value) (lo hi:ġ) (f:Addr) (Q:VK),jH a b->yd->r4 f d c->ze4 d->ze5 c->zXd r ->
  ∃T id,jIj/\qS8/\ĕ (getItem v (Ġ f)) vj s
def SlR.or{r i:Sa}(h:pM r)(h':pM i):pM (λx lo hi H Q=>zXd r\/zXd i):=by
 intro a s b H x v d c lo hi f Q I g l pl j q
 show υ q
 ·show h a s b H x v d c lo hi f Q I g l pl j q
 ·show h' a s b H x v d c lo hi f Q I g l pl j q
abbrev tSl(r:Sa)(te:TE)(tl th:TO):TE:=λa H Q=>te a H λx H1=>tl a H1 λl H2=>th a H2 λu H3=>r x l u H3 Q
def Qfa{r:Sa}(B:pM r)(E:CT)(C:PO X lo tl)(hu:PO X hi th):ď (.Subscript e qn5 pos) (tSl r te tl th):=by
 show zp9;refine Subscript_ (qh E a d j f);show ı x m p f;refine wpAny_Slice (Č (C a j d H1 _ I1 p) g i f);let#[l,H2,I2,pl,o]:=f;refine thn (hu a i d H2 _ I2 o) λvu c f=>?_;show ň u H3 I3 t n f;rw[evalPart_none];refine Nl ?_;let I4:Inv X a d H3 { c with heap:=zs8 }:=I3.kept (t':=c.toks) λb ob q=>ŕ q;let#[T,id,G,z,D]:=B a { c with heap:=zs8 } d H3 x v g vu l u c.heap.objs.size Q I4 m (Heap.IsSliceOf.new ..) pl t n;apply wpAny yA X.A (subscriptTail e qn5 v (qS0 c)) (EP X a d Q) X.xe { c with heap:=zs8 };show tail_any (ops:=[ϗ c,v]) z G D (by with_unfolding_all rfl)
abbrev Qev(xs:À V)(lo hi:ġ):À V:=jE0
def KD(xs:À V)(lo hi:ġ):(Qev xs lo hi).length<=xs.length:=by
 unfold Qev;rw[N4,DY];show Nd fK ju
abbrev QrP(K:Nf):Sa:=λx lo hi H Q=>∃a b,yy/\SK /\
 ¬(rK b=0/\zB0 b=b.length)/\∀p,qK (ć p (Ŋ (Qev b lo hi)))
def Qlp:pM (QrP X.K):=by
 intro g s t H x v w u lo hi z Q I l p pl m h;let#[a,d,rfl,n,hw,q]:=h;cases l;let#[f,r,j,i]:=jU n;let c:f.toArray.size=d.length:=qd3
 show qp9 j;refine HT.getItem_tuple_cut j p pl m qpa ?_ (Sq c i);rw[c];show Ak #[ϗ s,_,jhc (Qev d lo hi),rfl,zm7] #[Nd (KD d lo hi) i,_,(r.drop (zIb d)).take (zB0 d-rK d),zYi]
abbrev Qn7(K:Nf):R2:=λx y H Q=>∃a b d c,yy/\y=Ã b/\p0 a d/\p0 b c/\d≠[]/\zI9 /\
 (c=[]->zGa)/\(c≠[]->∀p,qK (ć p (Ŋ zf)))
def Vals.nil_iff{xs:À V}{us:È}(r:ϟ):us=[]↔xs=[]:=by
 cases r with
 |nil=>simp
 |cons _ _=>simp
def QhR:â HR (Qn7 X.K):=by
 intro f s E H x y v u Q I n m h;let#[a,b,l,j,rfl,rfl,D,C,B,i,r,p]:=h;show(B7 n m,Av A d t D,Av g c p2 C);refine HT.cat_tup t p2 (λz=>B (d.nil_iff.mp z)) (λz=>#[Ã a,H,I,rfl,r (c.nil_iff.mp z)]) (pQ z) (by rw[<-d.length,<-c.length];show i);show Ak #[ϗ s,_,jhc (l++j),rfl,p (λw=>z (c.nil_iff.mpr w)) _ oG] #[by show PP i,_,d.append c,zYi]
#print"-"
abbrev ixN(n:Nat)(i:Int):HI:=if 0<=i then(if i<n then sO i.toNat else nO)else if -ŝ<=i then sO qYg else nO
abbrev atI{a:Type}(xs:À a)(i:Int):Υ a:=(ixN xs.length i).bind λj=>xs[j]?
def QhJ{n:Nat}{i:Int}{j:Nat}(h:ixN n i=sO j):seqIndex? i n=sO j/\j<n/\-ŝ<=i/\i<n:=by
 unfold ixN at h
 by_cases b:0<=i
 ·rw[Ð b]at h
  by_cases a:i<n
  ·rw[Ð a]at h;let e:i.toNat=j:=NY h;show#[by rw[seqIndex_of b a,e],Ñ,Ñ,a]
  show gN a h
 ·rw[Í b]at h
  by_cases a:-ŝ<=i
  ·rw[Ð a]at h;let e:qYg=j:=NY h;show#[by rw[seqIndex_neg (YaL.mp b) a,e],Ñ,a,Ñ]
  show gN a h
def UD{a:Type}{xs:À a}{i:Int}{v:a}(h:qN9):∃j,seqIndex? i xs.length=sO j/\qXe/\qYh/\-qe2<=i/\i<xs.length:=by
 unfold atI at h;cases e:ixN xs.length i with
 |none=>show ä e h
 |some j=>
  rw[e]at h;let#[f,d,c,b]:=QhJ e;show#[j,f,h,d,c,b]
def Qi6{a:Type}{xs:À a}{j:Nat}{v:a}(h:qXe):atI xs u7=sO v:=by
 let b:qYh:=ú h
 let e:ixN xs.length u7=sO j:=by
  unfold ixN;rw[Bd,Bd];simp
 unfold atI;show ī e h
abbrev Y0(b:Expr):Prop:=jX4 o i b
abbrev IxR(X:Cx)(r:R2):Prop:=
 ∀(value slice:Expr) (a:Ö) (s:Shared) (b:St) (H:Hp) (x y:V) (v u:Value) (Q:VK),jH a b->yd->ô y->r x y H Q ->
  subscripted slice false v u=qSa v u->ĕ (subscriptTail value slice v u) vj s
abbrev MtR(X:Cx)(id:String)(r:uu):Prop:=
 ∀(a:Ö) (s:Shared) (b:St) (H:Hp) (x:V) (c:À V) (v:Value) (d:È) (Q:VK),jF->yd->zW4->r x c H Q ->
  je4
section
variable{X:Cx}{a b:Expr}{ta tb:TE}{pos:Pos}
def IxR.or{r g:R2}(h:Ad r)(h':Ad g):Ad (qn2 g):=by
 intro value slice c s d H x y v u Q I f e q i
 show υ q
 ·show h value slice c s d H x y v u Q I f e q i
 ·show h' value slice c s d H x y v u Q I f e q i
def Qon{r:R2}(j:Ad r)(m:yb)(l:ko)(i:Y0 b):ď R7 tL:=by
 show Đ c d Q;show Subscript_ (Qo8 m l I h λv u e x y H2 I2 g f q=>j a b c e d H2 x y v u Q I2 g f q (i _ _))
abbrev Qqf(K:Nf):R2:=λx y H Q=>∃p c i v,x=Ã p/\y=Ä i/\SqL K H p c/\qt9
abbrev Qpy(K:Nf):R2:=λx y H Q=>∃p c i v,x=Ã p/\y=Ä i/\p0 p c/\qt9
abbrev QpB:R2:=λx y H Q=>∃z i c,x=Æ z/\y=Ä i/\zD9/\atI z.cps.toList i=sO c/\Q (vb f4) H
def ix_list:Ad (Qqf X.K):=by
 intro value slice c s m H x y v u Q I C B h n;let#[p,O,i,z,rfl,rfl,D,G,q]:=h;cases C;show ü B;let#[g,r,pl,P]:=Ρ D;let#[j,d,N,U,M,L]:=UD G;show(ν w o f r N,ű E r);let S:=Yw;let fin:PB c m w:=#[z,H,I,f,q]
 by_cases e:0<=i
 ·let l:i.toNat=j:=by
   rw[seqIndex_of e L]at d;show NY d
  show item_listR pl.isList e Â jo6 fin n
 ·let l:(i+(g.toArray.size:Int)).toNat=j:=by
   rw[seqIndex_neg qS9 M]at d;rw[Nz,<-E];show NY d
  show Ot (x:=w) pl.isList.typeIs slot_list_getitem.lookup
   (wpAny_getItem_list_neg (Q:=qYi A m) pl.isList qS9 (by rw[Nz]<;>lia) Â jo6 qNa) n
def ix_tup:Ad (Qpy X.K):=by
 intro value slice c s e H x y v u Q I l g h n;let#[p,G,i,z,rfl,rfl,o,B,q]:=h;cases l;show(ü g,xo m r L o);let#[j,D,C,P,O,N]:=UD B;show(ν w E d r C,ű A r);let M:=Yw;let fin:PB c e w:=#[z,H,I,d,q]
 show Ot (x:=w) pl.typeIs Ey.lookup
  (getItem_tuple (j:=j) (Q:=qYi f e) pl Â Â (by rw[Nz,<-A];show D) (Ŏ E) qNa) n
def QlL:IxR X QpB:=by
 intro value slice d s B H x y v u Q I g f h l;let#[z,i,c,rfl,rfl,D,n,q]:=h;show Ϯ g C f;let#[j,e,r,G,p,o]:=UD n;let m:z.cps.toList.length=z.length:=by simp[Str.length]
 rw[m]at e p o;let E:=Yw
 show tail_any (typeIs_str s z t) slot_str_getitem.lookup (getItem_str (c:=c) (by
  let A:decide (i < -(2^63:Int))=false:=zN;let w:decide (i >= 2^63)=false:=zN
  rw[A,w,Lm]) (by rw[e];show yq r) #[Æ f4,H,Α,Ħ,q]) l
abbrev rIx(K:Nf):R2:=λx y H Q=>Qqf K x y H Q\/Qpy K x y H Q\/QpB x y H Q
def QmC:Ad (rIx X.K):=ix_list.or (ix_tup.or QlL)
def W2(lo hi:ġ)(n:Nat):(sliceBounds lo hi nO n).1=((HT.sIx n 0 lo:Nat):Int)/\(sliceBounds lo hi nO n).2.1=((HT.sIx n n hi:Nat):Int)/\(sliceBounds lo hi nO n).2.2=1:=by
 refine#[?_,?_,rfl]
 ·cases lo with
  |none=>rfl
  |some i=>show HT.clip_max i n 0
 ·cases hi with
  |none=>rfl
  |some i=>show HT.clip_max i n n
def YO(c:È)(lo hi:ġ):slicePick c.toArray lo hi nO=((c.drop (zIb c)).take (zB0 c-rK c)).toArray:=by
 let#[f,e,d]:=W2 lo hi c.toArray.size;unfold slicePick;rw[f,e,d];simp only[sliceRange_one,pick_run,Nz]<;>rfl
abbrev Qrk(K:Nf):Sa:=λx lo d H Q=>∃a c,yy/\vD c/\∀p,qK (ć p (Þ (Qev c lo d)))
def sl_list:pM (Qrk X.K):=by
 intro f s t H x v w u lo e z Q I j p pl l h;show CY a d n q h;cases j;let#[m,r,i,g]:=Ρ n;show ű c r;refine#["list",_,slot_list_getitem.lookup,i.isList.typeIs,?_];refine wpAny_getItem_list_slice i.isList p pl l .none Ç ?_ (by rw[Nz]<;>show Nd (ħ c) g);rw[YO,<-c];show Ak #[ϗ s,_,I.laid (t':=s.toks) (o:=Î (Qev d lo e)) jk3 ÿ ?_,rfl,zm7] #[Nd (KD d lo e) g,_,0,(r.drop (zIb d)).take (HT.sIx d.length d.length e-rK d),ų]
abbrev QiX:V->Bool
 |.non=>true
 |.bl _=>true
 |B4=>true
 |yn=>true
 |_=>false
abbrev eqV:V->V->Bool
 |.non,.non=>true
 |.bl a,.bl b=>a==b
 |.bl a,Ä b=>jUb
 |Ä a,.bl b=>jUc
 |Ä a,Ä b=>a==b
 |Æ a,Æ b=>a==b
 |_,_=>false
def QlA{A:Around}{s:Shared}{y x:V}{u v:Value}(e:ô y)(c:yd)(g:QiX y=true)(f:QiX x=true):SeqAt.EqAt A s u v (eqV y x):=by
 cases y with
 |non=>
  cases e;cases x with
  |non=>cases c;show SeqAt.EqAt.same _
  |bl b=>cases c;show SeqAt.EqAt.none_bool b
  |int b=>show(ū,SeqAt.EqAt.none_int b t)
  |str b=>show(ū,SeqAt.EqAt.none_str b t)
  |_=>show oV
 |bl a=>
  cases e;cases x with
  |non=>cases c;show SeqAt.EqAt.bool_none a
  |bl b=>cases c;show SeqAt.EqAt.bool_bool a b
  |int b=>show(ū,SeqAt.EqAt.bool_int a b t)
  |str b=>show(ū,SeqAt.EqAt.bool_str a b t)
  |_=>show oV
 |int a=>
  show Ψ d e;cases x with
  |non=>cases c;show SeqAt.EqAt.int_none a d
  |bl b=>cases c;show SeqAt.EqAt.int_bool a d b
  |int b=>show(ū,SeqAt.EqAt.int_int a d b t)
  |str b=>show(ū,Yad a d b t)
  |_=>show oV
 |str a=>
  show Ψ d e;cases x with
  |non=>cases c;show SeqAt.EqAt.str_none a d
  |bl b=>cases c;show SeqAt.EqAt.str_bool a d b
  |int b=>show(ū,Yae a d b t)
  |str b=>show(ū,SeqAt.EqAt.str_str a d b t)
  |_=>show oV
 |_=>show û (show zQj from g) N8
def call_len_seq:CallR X zE6 (λxs H Q=>∃p ys,zIa/\jw4/\Q (.int ys.length) H):=by
 intro g s l H xs m Q I r h;show je5 d i;let n:=Yw
 show υ d
 ·show o5 f e j d c;show Calls.call_len_list pl.isList (by simp only[Nz]<;>lia) jkd
 ·show(xo f e j d,ű c e);show len_tuple pl (by simp only[Nz]<;>omega) jkd
def WN:CallR X zE6 (λxs H Q=>∃z,xs=[Æ z]/\zD9/\Q (.int z.length) H):=by
 intro c s d H xs e Q I r h;let#[z,rfl,f,q]:=h;show qC4;let g:=Yw;show len_str Â #[.int z.length,H,Α,Ħ,q]
def CallR.or{f:Value}{r i:x0}(h:CallR X f r)(h':CallR X f i):CallR X f (λxs H Q=>r xs H Q\/i xs H Q):=by
 intro c s d H xs e Q I g q
 show υ q
 ·show h c s d H xs e Q I g q
 ·show h' c s d H xs e Q I g q
def Ul:CallR X t6 (λxs H Q=>∃p ys,zIa/\jw4/\∀l,H l=nO->Q gx je6):=by
 intro m s z H xs B Q I r h;show je5 t A
 let fin:∀(c:È),Vals ys c->zC8->∀(f:Heap) (j:Nat),(∀b y,gX=sO y->jj f=sO y) ->
   rO f s=sO { cls:=Ι,dict:=nO,data:=i8 c j,slots:=#[] }->EP X m z Q yB { s with heap:=f }:=λc g i f j kp e=>
  #[ϗ s,_,I.laid (t':=s.toks) kp ÿ (show ObjOk X.prog X.w _ f _ MS from#[i,c,j,g,e]),rfl,zm7]
 show υ t
 ·show o5 c g i t d;let#[o,v,x,n,hd]:=pl.isList;show jE8 BL
 ·show(xo c g i t,ű d g);let#[o,v,x,n,hd]:=pl;show jE8 CK
def Wg:CallR X zFa (λxs H Q=>∃p ys,zIa/\((cy p/\∀l,H l=nO->Q gx (ć l bU))\/(Mg p/\Q zi0 H))):=by
 intro c s n H xs x Q I r h;let#[p,ys,rfl,h]:=h;show iz v r
 rcases h with⟨m,q⟩|⟨m,q⟩
 ·show o5 d i j m f;refine call_tuple_list pl.isList (λg kp=>?_) (by simp only[Nz]<;>show Nd (ħ f) j);let I1:Hm c n g:=I.kept (t':=s.toks) kp
  let I2:Inv X c n (upd H g.objs.size bU) { s with heap:=g.push { cls:=yH,data:=.seq d.toArray } }:=
   I1.laid (t':=s.toks) (λb o e=>ŕ e) ÿ (nc bU  #[j,d,i,zYi])
  show#[.ref g.objs.size,_,I2,rfl,q _ (du I1)]
 ·show(xo d i j m,call_tuple_same pl #[Ã p,H,I,rfl,q])
abbrev tyV(K:Nf)(T:String)(x:V)(H:Hp):Prop:=match x with
 |yn=>T="str"
 |B4=>T="int"
 | Ã p=>(T="list"/\∃d,qY4)\/(T="tuple"/\∃o,ϣ p=sO o/\zpb/\o.dict=nO) \/
   (T="dict"/\((∃c,H p=sO (.dK c))\/∃c,H p=sO (.dT c)))\/(T="set"/\∃S n,H p=sO (.set S n))
 |_=>False
def Qgw{g:Ö}{σ:St}{H:Hp}{s:Shared}{T:String}{x:V}{v:Value}(I:Ĝ g)(r:yd)(ty:tyV X.K T x H) :
  qS8/\∀a,ϒ->∃ob,gY=sO ob/\ob.dict=nO:=by
 cases x with
 |str z=>
  show(ü r,ß (show T="str"from ty) #[typeIs_str s z t,je7])
 |int i=>
  show(ü r,ß (show T="int"from ty) #[typeIs_int s i t,je7])
 | ref p=>
  cases r
  rcases ty with⟨rfl,u,m⟩|⟨rfl,o,d,q,hd⟩|⟨rfl,d⟩|⟨rfl,S,n,d⟩
  ·let#[l,_,pl,_]:=Ρ m;refine#[pl.isList.typeIs,Ò a e];cases e;let#[o,n,e,c,hd,_]:=pl;show#[o,e,hd]
  ·refine#[#[o,I.kIn p o d,q],Ò a e];show ß e #[o,I.kIn _ o d,hd]
  ·let z:∃o,ϳ s p=sO o/\o.ExactDict:=by
    rcases d with⟨h,d⟩|⟨h,d⟩
    show jNf
    show jNf
   show(j6 o e f z,jie)
  ·let#[o,_,_,_,e,f,_]:=qYb;show jie
 |_=>show False.elim ty
abbrev QrV(K:Nf)(T:String)(r:uu)(to:TE):TE:=λc H Q=>to c H λx H1=>qSb/\r x [] H1 Q
abbrev tBM(K:Nf)(T:String)(r:uu)(to:TE)(t:TA):TE:=λc H Q=>to c H λx H1=>qSb/\t c H1 λd H2=>r x d H2 Q
variable{o e:Expr}{es:é}{to:TE}{t:TA}{name:Str}{apos cpos:Pos}{T id:String}{r:uu}
def QkZ(p:cB)(slot:tz)(g:SX)(u:MtR X id r)(q:PE X o to)
  (f:dB:=by rfl) (d:iJ:=by rfl):ď jLf (QrV X.K T r to):=by
 show Đ c i Q;refine wpAny_Call_method0_late f d (qh q c i m l);let#[x,H1,I1,j,ty,n]:=l;let#[y,w]:=Qgw I1 j ty;show#[T,id,p,slot,g,y,w,Ou rfl (PySem.evalArgs_none (u c m i H1 x [] v [] Q I1 j .nil n))]
def Qo3(C:cB)(slot:tz)(m:SX)(G:MtR X id r)(E:PE X o to)(L:TJ)
  (g:dB:=by rfl)
  (i:(jD8
   && decide jF9)=true:=by rfl)
  (f:iJ:=by rfl) (D:xM:=by rfl) (d:(backTo cpos uV).any (·.1)=false:=by rfl) :
  ď jJf (tBM X.K T r to t):=by
 show Đ c j Q;refine wpAny_Call_method_late g i f rfl (qh E c j y l);let#[x,H1,I1,n,ty,B]:=l;let#[N,M]:=Qgw I1 n ty;refine#[T,id,C,slot,m,N,M,?_];let p:=L cpos c y j H1 _ I1 B;rw[D]at p ⊢;refine Ou (by apply(false ||(backTo cpos uV).any (·.1))=false;rw[d]<;>rfl) (Calls.evalArgs_plain ?_);show(jf p (Ï u w l),ň q H2 I2 z A l,G c w j H2 x q v u Q I2 n z A)
#print"-"
abbrev MtM(X:Cx)(id:String)(r:uu):Prop:=
 ∀(a:Ö) (s:Shared) (b:St) (H:Hp) (x:V) (c:À V) (v:Value) (d:È) (Q:VK),jF->yd->zW4->r x c H Q ->
  je4
def Vals.one{x:V}{us:È}:lX [x]->jqd:=by
 rintro(_|⟨r,_|_⟩);show qXc
def Vals.zero:∀{us:È},Vals [] us->us=[]
 |_,.nil=>rfl
def Vals.dropLast{xs:À V}{us:È}(h:ϟ):Vals xs.dropLast us.dropLast:=by
 induction h with
 |nil=>show .nil
 |cons r t a=>
  cases t with
  |nil=>show .nil
  |cons q b=>show Ē r a
def Vals.rep{xs:À V}{us:È}(h:ϟ):∀k:Nat,Vals qd4 (List.replicate k us).flatten:=by
 intro k
 induction k with
 |zero=>
  show .nil
 |succ k a=>
  rw[EI,EI,Df,Df];show Vals.append h (a)
def Qaz{c:Type}(l:À c):l.eraseIdx (l.length-1)=l.dropLast:=by
 induction l with
 |nil=>rfl
 | cons a r d=>
  cases r with
  |nil=>rfl
  | cons b r=>
   let e:qC9-1=(qNb-1)+1:=by
    let g:qC9=r.length+2:=rfl;let f:qNb=r.length+1:=rfl;show rfl
   rw[e,List.eraseIdx_cons_succ,d]
   all_goals rfl
def QcX(b:È):∀(k:Nat) (a:È),
  List.foldl (λd c=>d++c) a.toArray (zBc k)=(a++qe3).toArray:=by
 intro k
 induction k with
 |zero=>
  intro a;simp
 | succ k f=>
  intro a;show jA7 e a b
  let g:zYb++qe3=a++(List.replicate (k+1) b).flatten:=by
   rw[EI,Df,Eh]
  rw[<-g,<-f zYb,<-e,EI,IG]
section
variable{X:Cx}{pins:Ö}{σ:St}{H:Hp}{s:Shared}{l b:Addr}{xs ys zs:À V}
def Inv.lset{a its':È}{n:Nat}{f:ľ->ľ}{t':Nat}(I:Ù)(h:zNi)
  (e:je9) (d:f a.toArray=its'.toArray) (c:Vals ys its') (hz:zC8) :
  Inv X pins σ je6 { s with heap:=s.heap.update l qCa,toks:=t' }:=by
 let q:=YaA e f;rw[d]at q;refine I.write (x:=l) (e:=l) (by rw[h];show trivial) BL (λi u g hu=>(EM s.heap qCa (EO g)).trans hu) #[_,q] ?_;show#[hz,its',_,c,q]
def Inv.lnew{a:È}{t':Nat}(I:Ù)(c:Vals ys a)(hz:zC8) :
  Inv X pins σ (upd H s.heap.objs.size MS) { s with heap:=s.heap.push { cls:=Ι,data:=.seq a.toArray },toks:=t' }:=
 I.laid zR ÿ #[hz,a,0,c,ų]
def Inv.fresh(I:Ù):H s.heap.objs.size=nO:=I.hok.fresh ÿ
def Inv.lstM(I:Ù)(c:zNi):Bt/\∃(a:È) (n:Nat),pE a/\xs.length=a.length/\je9:=by
 let#[z,a,n,r,e]:=I.hok l _ c;show#[z,a,n,r,r.length,e]
def Wa{n:Nat}(h:zO7):Builtin.List.listTooLong n=false:=by
 unfold Builtin.List.listTooLong;show decide_eq_false (PD h)
#print"-"
section
variable{X:Cx}
abbrev Qiy:uu:=λx b H Q=>∃l a y,xB/\b=[y]/\zh0/\zE7/\Q .non (ć l (Þ (a++[y])))
def QcI:MtM X "list.append" Qiy:=by
 intro b s o H x t v w Q I g i h;let#[l,p,y,rfl,rfl,f,d,q]:=h;show(zN8 g j i,xb a m f);refine Fg IH AG O8 (OR _ _) (Yar l a.toArray n u (by rw[Nz];show NF (Np (ħ m) d))) zh9;refine#[.non,_,zN9 a [u] f (r.append (Mb j)),rfl,q];rw[NA,N1];show d
abbrev QjX:uu:=λx d H Q=>∃l b c a,xB/\d=[Ã b]/\jy2/\H b=sO uB/\qf5/\Q .non (ć l (Þ zYf))
def Qb5:MtM X "list.extend" QjX:=by
 intro g s E H x N v O Q I m o h;let#[l,b,M,G,rfl,rfl,j,C,y,q]:=h;show zN8 m p o;cases p;show xb c B j;let#[L,a,w,t,A,D]:=zLf C;show jR0
 let d:jE3:=by
  rw[Wa f,Ft];show N8
 refine Fg Fy AG O9 (OS _ _)
  (AutoSeq1.list_extend_list_list_0 l c.toArray n b a.toArray w d (zNa (ħ B)) (cN f)) #[e,D,?_]
 refine#[.non,_,zN9 c a j (r.append t),rfl,q];show PP y
abbrev QrF:uu:=λx b H Q=>∃l a y,xB/\b=[]/\zh0/\a[a.length-1]?=sO y/\Q y (ć l (.lst a.dropLast))
def Qlv:MtM X "list.pop" QrF:=by
 intro d s t H x A v B Q I j m h;let#[l,w,y,rfl,rfl,i,p,q]:=h;cases j;let c:=m.zero;subst c;show(xb a g i,Mw o r p)
 let b:a.toArray[a.toArray.size-1]?=sO u:=by
  apply a.toArray[a.length-1]?=sO u;rw[<-N5,<-g];show hu
 refine Fg Yai AG F.entry_list_pop (F.args_list_pop_1 _) (MeetsSeq.list_pop_last l a.toArray n u b (zNa gG)) zh9;refine#[y,_,I.lset (its':=a.dropLast) i e ?_ r.dropLast ?_,o,q]
 ·apply a.toArray.eraseIdxIfInBounds (a.toArray.size-1)=a.dropLast.toArray;rw[Nz,List.eraseIdxIfInBounds_toArray,Qaz]
 ·rw[List.length_dropLast];show Nd ju z
abbrev QrQ:R2:=λx y H Q=>∃l b c a,xB/\y=Ã b/\jy2/\H b=sO uB/\qf5/\∀p,qK (ć p (Þ zYf))
def QlK:OpR X HR QrQ:=by
 intro d s A H x y v u Q I g f h;let#[l,b,D,B,rfl,rfl,o,p,j,q]:=h;show(B7 g f,xb c L o);let#[C,a,G,i,m,w]:=zLf p;refine PySem.P.add_list e w ?_ (by rw[Nz,Nz];omega);show jA7 t c a
 show ī t #[A5,_,I.lnew (t':=s.toks) qJ9 (by show PP j),rfl,qYj]
abbrev Qra:R2:=λx y H Q=>∃l k a,xB/\y=Ä k/\zh0/\-(2^63)<=k/\k<2^63/\a.length*k.toNat<=sizeLine /\
 ∀p,qK (ć p (.lst (qGe k a)))
def Qiq{a:Type}(xs:À a)(k:Nat):(List.replicate k xs).flatten.length=k*xs.length:=by
 induction k with
 |zero=>simp
 |succ k b=>rw[EI,Df,NA,b,Nat.succ_mul,LO]
def QkR:OpR X HH Qra:=by
 intro p s N H x y v u Q I C B h;let#[l,k,O,rfl,rfl,E,L,G,w,q]:=h;cases C;show(ü B,xb b D E);let c:qn7<=sizeLine:=by rw[Nz,<-D];show w
 let i:¬qn7>qzf:=by
  let:zJ0<=qzf:=Ú
  show NQ.mpr (Nd c this)
 let g:¬(!Builtin.List.listFitsIndex k)=true:=by
  rw[fitsIndex_both L G];show N8
 let d:¬Builtin.List.listTooLong (b.toArray.size*k.toNat)=true:=by
  rw[Wa c];show N8
 let f:List.foldl qGd #[] (zBc (if b.toArray.isEmpty=true then 0 else k.toNat))=(List.replicate k.toNat b).flatten.toArray:=by
  let M:∀m:Nat,List.foldl qGd #[] (zBc m)=(List.replicate m b).flatten.toArray:=λm=>by
   let:=QcX b m [];rw[Ob]at this;show this
  rw[M];cases b with
  |nil=>simp
  |cons a S=>show qt
 refine wpAny_binaryOp_repeat_ref (T:="list") (U:="int") à AG (λA=>typeIs_int A k t) noFill_list_mul F.fills_int_mul F.slot_int_rmul repeat_list F.slot_int_index.lookup
  (Fg F.slot_int_rmul (typeIs_int s k t) F.entry_int_rmul (F.args_int_rmul_2 _ _) (int___rmul___int_list k t l b.toArray n)
   #[e,rfl,ϴ e,Fg F.slot_list_mul AG F.entry_list_mul (F.args_list_mul_2 _ _) (AutoListH.list___mul___list_int_3 l b.toArray n k t g i d) zh9])
 show ī f #[A5,_,I.lnew (t':=s.toks) (r.rep k.toNat) (by rw[Qiq,Nat.mul_comm];show w),rfl,qYj]
#print"-"
#print"-L2"
namespace Att
open PySem PySem.W PySem.Calls PyProof.Rows
def K5{P:Params}{h:Heap}:∀(ns:Ŝ) (vs:È),WellAll P h vs qr3->cn:=by
 intro ns
 induction ns with
 |nil=>
  intro vs w;rw[ET]at w;cases w;show .nil
 | cons n ns c=>
  intro vs w;rw[NH]at w;cases w with
  |cons a b=>
   cases a;show .cons _ _ (c _ b)
def QdL{l:OpenLaw}{n:Nat}(u:zO8){P:Params}{h:Heap}{args:List WData}{vals:È}
  (b:l.row.toRowW.claim.pre args=true) (i:WellAll P h vals args) :
  ∃a vs ns,vals=[BA a]/\args=[WData.list qr3]/\ο a=zk2/\cn/\mF:=by
 let j:WShape.hasAll [] args [.list .int]=true:=(pre_splitW b).1;let m:l.pre.holds [] { args:=args }=true:=(pre_splitW b).2;let#[d,r,rfl,x,w]:=hasAllW_cons j;obtain rfl:=hasAllW_nil w;let#[y,rfl,v]:=hasW_list x;let#[ns,rfl]:=items_int v
 let c:mF:=by
  unfold OpenLaw.pre at m
  let g:(WTm.not (.lt (.lit (.int ŝ)) (.len (.arg 0)))).holds [] { args:=[.list jC9] }=true:=by
   let g:=(holds_andW m).1;rw[u]at g;show g
  let f:=condW_of g (w_not (w_lt w_lit (w_len_list (w_arg rfl))));rw[ND]at f;refine Nat.le_of_not_lt (æ q);let s:ŝ<((ns.length:Nat):Int):=Ô
  first
   |(rw[yJ s]at f;show û f à)
   |(simp at f;omega)
 cases i with
 |cons p o=>
  cases o;cases p with
  |list t e=>show#[_,_,ns,rfl,rfl,t,K5 ns _ e,c]
def QcK(l:OpenLaw)(args:List WData):l.row.toRowW.claim.post args nI args=true:=
 postW_of (r:=l.row.toRowW) (X:=qJa)
  (show WShape.has [] nI .bool=true by first|rfl|decide|simp[WShape.has,WShape.arms,WShape.armsAll])
  (show(WTm.eq .res (.lit nI)).value [] { args:=args,res:=sO nI,after:=args }=sO (um qJa)from w_eq_bool (w_res rfl) w_lit) rfl
def attach_call{l:OpenLaw}{n:Nat}{q:Program}{e:Á}{B:jp1}{A:World->M0}{d:DefRec}
  (H:zO8) (x:zBh)
  (call:∀(w:World) (c b:Shared) (mg t:ý) (p:Addr) (o:Obj) (pm cd h:Value) (a:Addr) (vs:È) (ns:Ŝ),
   Ground q e [] B w c mg t b.heap->A w b.heap ->
   ϳ b p=sO o->o.data=.func (docDef d.name d.params d.body d.scope pm cd h)->b.heap.CodeRec cd d.name->mg d.name=ō p ->
   ϳ b a=zk2->cn->mF->b.gens=#[] ->
   codeAny (model l.prog w) callerA (.call zi0 zgi) (jEa s b) b) :
  WalkO q e B A l.row.toRowW d [] zC9:=by
 intro w c b mg t G Y p o pm cd h Q kV E hd y hD v M args vals as i z C u L;obtain rfl:Q=.none:=Dflts.none hD x;obtain rfl:kV=.none:=Dflts.noKw hD;let#[a,vs,ns,rfl,rfl,j,g,m]:=QdL H i u;refine enter_call (Fv (call w c b mg t p o pm cd h a vs ns G Y E (fd_plain hd) y v j g m M) (Ï r s D));let#[rfl,P,O,N]:=D;show#[Ø #[zR0,zR0,[],rfl,ς,zR0,QcK l _,λ_=>#[List.Pairwise.nil,λ_ I=>(nomatch I)]],P,O,N]
#print"-Att"
namespace L2
def Qbu{vs:È}{ns:Ŝ}(h:cn):Vals (qQ V) vs:=by
 induction h with
 |nil=>show .nil
 |cons _ t _ i=>show Ē gC i
abbrev QoX(H:Hp):Prop:=∀b,ώ\/∃o a,H b=sO (.frz o uB)
def Qfh{P:Program}{w:World}{K:Nf}{mg M:ý}{CX:CXT}{k:Nat}{U a:Addr}{fd:FuncData}{x:Str}{sp:Sp}{c:Shared}{vs:È}{ns:Ŝ}
  (KX:K.In c.heap) (B:c.heap.Ns mainGlobals mg) (g:c.heap.Ns builtinsNs M) (Q:∀x:Str,qL->M x=wD) (C:c.heap.NoLimit) (hg:c.gens=#[])
  (I:ϳ c a=zk2) (hi:cn) (Z:qt5) (hr:zJ1)
  (F:∀base:Heap,K.In base->nK->FnOk P w K mg base CX k U fd [x] sp) (l:∀(s:Shared) (u:Value),jR6)
  (N:∀H:Hp,QoX H->vD (qQ V)->sp uD H juh zJ2)
  (S:∀H e i,CX [] H c qvh e i->False) :
  jC7:=by
 let Y:=Qbu hi;let t:=hi.length
 let core:∀H:Hp,QoX H->vD (qQ V)->jac H c->(∀b,H b≠nO->b=a)->(H a≠nO->ϣ a=nO) ->
   jC7:=by
  intro H hO hS A hA hK;let f:∀{b:Addr} {o:Obj},je2->ώ->(Qe3 c.heap H).get? b=sO o:=λe n=>Qe0 e n
  let L:∀{b:Addr} {o:Obj} {E:TQ} {G:Nat},je2->o.data=.dict E G->ώ:=λ{b o E G} e d=>by
   cases q:H b with
   |none=>rfl
   |some u=>
    show(jUi,ä I e);let d':Data.seq vs.toArray _=Data.dict E G:=d;cases d'
  let j:∀{b:Addr} {m:ý},c.heap.Ns b m->(Qe3 c.heap H).Ns b m:=λ{b m} #[o,E,G,e,d,r]=>#[o,E,G,f e (L e d),d,r]
  let D:K.In zH8:=λb o e=>f (KX b o e) (by
   cases q:H b with
   |none=>rfl
   |some u=>
    show jUi
    rw[hK (vt q)]at e;cases e)
  let hM:Mod K mg zH8:=#[D,j B,#[M,j g,Q],let#[mc,h1,h2]:=C;#[mc,j h1,h2]]
  let e0:Env0 P w K mg zH8 callerA [] c H:=#[rfl,hM,λb o e=>Qj0 e,Ny (Qbl _ _),trivial,jjf g,A,.of_eq hg]
  refine Fv ((F _ D (j B)).run callerA [] c H zgi uD uD _ _ hr e0 (l c ĭ) (.cons rfl .nil) (N H hO hS)) (Ï r i h);cases r with
  |error e=>show(S H e i h).elim
  | ok fl=>
   cases fl with
   |next=>show BO h
   |brk=>show BO h
   |cont=>show BO h
   | ret u=>
    let#[v,H',os,bare,un,y,r',q]:=h;let q':v=ŵ:=q;subst q';obtain rfl:u=Value.bool true:=r';refine#[rfl,OldK.of_keep (Ï b o e),os,bare];cases q:H b with
    |none=>show un.keep b o e q (by intro z;show û jli Ç) Ç
    |some u=>
     rcases hO b with z|⟨ob,xs,z⟩
     ·show ä q z
     ·let z2:=un.frzs b ob _ z;let#[e1,_]:=A b _ z;let#[e2,_]:=y b _ z2;rw[e]at e1;show Ŭ e1 e2
 cases O:ϣ a with
 |some o=>
  let e:=KX a o O;show ä I e;refine core zQh (λ_=>jv) (ϭ #[_,vs.toArray,_,O,rfl,rfl,rfl,by rw[Nz,t];show Z,ĝ Y]) (λb u z=>by let p:(nO:za1)=sO u:=z;cases p) (λb z=>y0 z) λz=>y0 z
 | none=>
  refine core (λb=>if b=a then sO (.frz { cls:=Ι,data:=zxc } (Þ (qQ V)))else nO) (pQ b) (jb (ϭ #[{ cls:=Ι,data:=zxc },Ĳ])) (Ϗ b u z) (qa b z) λ_=>O
  ·show zh3
   show Ζ #[_,_,Ð g]
   ·show Ø qSf
  ·show zh3
   ·let p:=(if_pos g).symm.trans z;cases p;show ϑ g #[I,M9 Z,vs,_,Y,I]
   ·let p:=(if_neg g).symm.trans z;cases p
  ·show zh3
   ·show g
   ·show û qSf z
noncomputable abbrev KOf{K:Nf}{h:Heap}(_:uj):Nf:=K
def QjK{l:PySem.W.OpenLaw}{n k:Nat}{q:Program}{i:Á}{X:jp1}{E:World->M0}{d:DefRec}{K:Params->Nf}{CX:World->CXT}{sp:World->Sp}{x:Str}
  (M:zO8) (z:zO7) (B:zBh) (L:zJ1)
  (Q:∀(w:World) (h:Heap),E w h->r9)
  (F:∀(w:World) (mg:ý) (r:Addr) (h:Heap),r9->Bu->mg d.name=ō r ->
   ∃fd:FuncData,(∀(s:Shared) (u:Value),jR6) /\
    ∀base:Heap,qr4->nK->FnOk l.prog w cz mg base (CX w) k r fd [x] (sp w))
  (y:∀(w:World) (H:Hp) (a:Addr) (ns:Ŝ),mF->QoX H->SqL cz H a (qQ V)->sp w uD H juh zJ2)
  (C:∀(w:World) (H:Hp) (s:Shared) (e:Value) (t:Shared),CX w [] H s qvh e t->False) :
  YaQ q i X E l.row.toRowW d [] zC9:=by
 refine Att.attach_call M B λw D m mg Z r o pm cd U a vs ns G Y ho hd O A p j c N=>?_;let I:=Q w _ Y;let#[fd,P,hF]:=F w mg r _ I G.T.g A;show Qfh I G.T.g G.T.b G.T.builtins G.T.nolimit N p j (Nd c z) L hF P (λH S hS=>y w H a ns c S hS) λH e t=>C w H m e t
abbrev Ze(s:Stmt)(j:Nat):Stmt:=match s with
 |.ClassDef _ _ _ body _ _ _ _ _ _ _=>body.getD j jYe
 |_=>.Pass qk2
abbrev ZO(s:Stmt):Arguments:=match s with
 |.FunctionDef _ a _ _ _ _ _ _ _ _=>a
 |_=>{ posonlyargs:=[],args:=[],vararg:=nO,kwonlyargs:=[],kw_defaults:=[],kwarg:=nO,defaults:=[] }
abbrev Q6(s:Stmt):j0:=match s with
 |.FunctionDef _ _ b _ _ _ _ _ _ _=>b
 |_=>[]
abbrev Ql(s:Stmt):Scope:=match s with
 |.FunctionDef _ _ _ _ _ _ a _ _ _=>a
 |_=>{ kind:=.function,names:=[],isGenerator:=false,isCoroutine:=false }
noncomputable abbrev CX0:CXT:=λ_ _ _ _ _ _=>False
noncomputable abbrev E0:XK:=zJ2
def QaJ{X:Cx}:V7 CX0 X E0:=λ_ _ _ _ _ _ _ h=>h.elim
structure Fun(K:Nf)(x qual:Str)(st:Stmt)(f:Addr)(fd:FuncData):Prop where
 ex:∃(oc:Value) (od:ϝ) (kV doc pm:Value) (an:ϝ) (cdv ct:Value) (osl:Ho),
  fd=EL x qual qX ψ Ŵ .none kV doc pm an cdv ct/\zt6/\qvi
 kp:qB
section
variable{P:Program}{w:World}{K:Nf}{mg:ý}{base:Heap}
def Fun.ok{x b:Str}{st:Stmt}{f:Addr}{fd:FuncData}{N ps:Á}{k:Nat}{sp:Sp}(F:mf b)(S:C4)(len:jT7)
  (d:∀(c:Value) (A:Around) (a:ŷ) (s:Shared) (H:Hp) (vs:À V) (Q:VK) (E:XK),AN k b c->sd ->
   ∃t,PSs (Qbg CX0 P w K mg base N b Ŵ f c A a s H E).nox ψ t/\t { nx:=λ_ m=>Q .non m,rt:=Q } zK9 H):FnOk P w K mg base CX0 (k+1) f fd ps sp:=by
 let#[o,n,kV,l,pm,p,c,ct,i,rfl,lk,g]:=F.ex;refine Qkb lk g S len λA a s H vs Q E j e=>?_;let#[t,h,q]:=d c A a s H vs Q E j e;show#[t,h.nox,q]
def Fun.binds{x a:Str}{st:Stmt}{f:Addr}{fd:FuncData}{ps:Á}(F:mf a)
  (h:∀(kV b pm:Value) (d:ϝ) (c ct:Value) (us:È),zub (zja a b d c)):Cj:=by
 let#[j,i,kV,b,pm,d,c,ct,e,rfl,lk,g]:=F.ex;show .all (h kV b pm d c ct)
def G9{x a:Str}{st:Stmt}{f:Addr}{i:Value}{h g:ϝ}{e:Ho}{kV d pm b ct:Value}(l:ϣ f=sO #[i,h,.func jcc,e])
  (c:DV K b a=true) (k:qB):Fun K x a st f jcc:=#[#[i,h,kV,d,pm,g,b,ct,e,rfl,l,c],k]
#print"-"
def Qgq{A B:Prop}(h:B):if zQj then A else B:=by
 rw[Í N8];show h
def QgR{A B:Prop}(h:A):if true=true then A else B:=by
 rw[Ĳ];show h
section
variable{κ:Type}[f5 κ]
abbrev Qbh(a:jW)(k:κ):Υ V:=(a.find? og).map (·.2)
abbrev Qd0(a:jW)(k:κ)(v:V):jW:=
 jE7
def Qfy{p:κ×V}{r:jW}{k:κ}(e:p.1=k):qzg=pA:=qzh
def QeZ{p:κ×V}{r:jW}{k:κ}(e:¬p.1=k):qzg=Qbh r k:=qzh
def Gj(a:jW)(k:κ)(v:V):(Qd0 a k v).length<=a.length+1:=by
 unfold Qd0;show jcb
def RelO.isSome_eq{o:Υ V}{u:M7}(r:RelO o u):o.isSome=u.isSome:=by
 cases o with
 |none=>cases u with
  |none=>rfl
  |some _=>show Te r
 |some _=>cases u with
  |none=>show Te r
  |some _=>rfl
def KV.val{a:jW}{vs:HK}(r:zd1)(k:κ):RelO (Qbh a k) (valueAt vs k):=by
 unfold KV at r
 induction r with
 |nil=>show zbb
 | @cons p q j c h t g=>
  show Ď f i h
  show kj
  ·let d:q.1=k:=f.symm.trans e;let b:qpb=sO q.2:=qpc
   rw[Qfy e,b];show i
  ·let d:¬q.1=k:=λz=>e (Ć f z);let b:qpb=valueAt c k:=qpc
   rw[QeZ e,b];show g
def KV.any{a:jW}{vs:HK}(r:zd1)(k:κ):jm7=vs.any og:=by
 unfold KV at r
 induction r with
 |nil=>rfl
 |cons h t c=>rw[Fd,Fd,c,h.1]
def KV.repl{b:jW}{vs:HK}(r:zY2)(k:κ){y:V}{u:Value}(d:ô y) :
  KV (b.map λa=>wM a y) (vs.map λa=>wM a u):=by
 unfold KV at r ⊢
 induction r with
 |nil=>show .nil
 |@cons p q j i h t f=>
  show(rY f,Ď c g h)
  show kj
  ·rw[Ð e,if_pos (za2 c e)];show#[c,d]
  ·rw[Í e,if_neg (λz=>e (Ć c z))];show#[c,g]
def KV.put{a:jW}{vs:HK}(r:zd1)(k:κ){y:V}{u:Value}(b:ô y):KV (Qd0 a k y) (stored vs k u):=by
 unfold Qd0 stored;rw[r.any k]
 by_cases e:(vs.any (qC c k))=true
 ·rw[Ð e,Ð e];show r.repl k b
 ·rw[Í e,Í e];show Ov r (yV b)
#print"-"
def Qm3{P:Program}{w:World}{k:Key}{u:Value}(r:ô (kV k)):(JP P w).is k u=true:=by
 cases k with
 |inl i=>show Ď t e jqe;subst e;show Ut P w i t
 |inr x=>show Ď t e jqf;subst e;show UH P w x t
section
variable{P:Program}{w:World}{H:Hp}{h:Heap}{a:Addr}
def QoQ{u:HO}(ok:BG)(e:PC u):Md u:=e.ok ok
def QjT{b:č V}(ok:BG)(e:PC sP):zra:=
 show Md sP  from QoQ ok e
def QoK{b:č V}(ok:BG)(e:qqe):zra:=QjT ok (đ e)
#print"-"
abbrev DGet(H:Hp)(a:Addr)(y:V)(r:Υ V):Prop:=∃b k,PC sP/\y=kV k/\r=Qbh b k
def DGet.k{H:Hp}{a:Addr}{b:č V}{k:Key}(e:qqe):DGet H a (kV k) (Qbh b k):=#[b,k,Ø e,rfl,rfl]
section
variable{X:Cx}{pins:Ö}{σ:St}{H:Hp}{s:Shared}{a:Addr}{y v:V}{u r:Value}{o:Υ V}{A:Around}{E:Õ}
def Inv.big(I:Ù):sysModules<s.heap.objs.size:=by
 let h:mainGlobals<s.heap.objs.size:=(I.mod.glob.keeps I.bk).lt;show Ea à h
def Qcu{Q:Õ}(hu:CL<cLine)(I:Ù)(g:DGet H a y qR)(f:ô y)(h:∀w' c,MU H c->B9 v w'->Q w' c) :
  ξ yA (getItem ĭ u) s:=by
 show ň i k e j l g;subst j;let#[z,hd,d,rel,dd]:=qZ1;let#[w',hw,b]:=RelO.some_of (v:=v) (o:=valueAt d k) (by rw[l];show rel.val k);show wpAny_getItem_of (Qm3 f) dd.mapOf hw (h w' _ qi3 b)
def QbH{h':Heap}{t':Nat}{ob:HO}(I:Ù)(c:Mut (H a))(d:qq a)(f:∃q,ke a=sO q)(new:ObjOk X.prog X.w qJb h' a ob) :
  qm qJb:=
 I.write (x:=a) (e:=a) c BL (xk q g z d) f new
def Qku{P:Program}{w:World}{c:Hp}{h':Heap}{b:č V}{vs:zE9}(z:zD8)(hd:wL)(rel:zY2)(dd:h'.DictOf zH1 a vs) :
  gd c a sP:=#[z,hd,vs,rel,dd]
#print"-"
abbrev Qox(i:Expr):Prop:=jX4 a b i
def QdA{prog:Program}{w:World}{A:Around}{E:Õ}{s:Shared}{env:Env}{value slice:Expr}{pos:Pos}{T id:String}{Q:Õ}
  (l:jIj) (j:Qox slice)
  (h:CH A (eval value env) (λo d=>wpAny Ņ A (eval slice env) (λi a=>a.TypeIs o T/\ξ Ņ (getItem o i) a) E d) E s) :
  ù (u5 (.Subscript value slice pos)):=by
 refine Subscript_ (N7 h (λo d f=>N7 f (Ϗ i a b) gH) gH);let#[g,b]:=b;unfold subscriptTail;show pG;rw[getitemInPython_of_ne g.not_modules];show Ë (L8 g l ?_)
 let fin:CH A (subscripted slice false o i) (λr c=>ξ Ņ (letTemporaryGo value o r>>=λ_=>Pj) c) E a:=by
  rw[j o i];show wpAny_operating (N7 b (λr c e=>Nc (wpAny_letTemporaryGo (Nl e))) gH)
 first
  |show ϩ (Nc fin)
  |show Nc (Nl (Nc fin))
  |show Nc fin
def UQ{X:Cx}{b:Ö}{σ:St}{H:Hp}{s:Shared}{a:Addr}{y:V}{o:Υ V}(I:Ĝ b)(g:DGet H a y o):s.TypeIs ĭ "dict":=by
 let#[c,k,e,_,_]:=g;let#[_,_,d,_,dd]:=qZ1;show dd.typeIs
abbrev Qn2(c ty:TE):TE:=λb H Q=>c b H λx H1=>ty b H1 λy H2=>∃a v,yy/\DGet H2 a y qR/\Q v H2
section
variable{X:Cx}{o i e value:Expr}{pos pos' tpos:Pos}{td ty tv:TE}
def Qg9(hu:ci<cLine)(r:PE X o td)(hi:PE X i ty)(q:Qox i):ď (.Subscript o i pos) (Qn2 td ty):=by
 show Đ b f Q;refine QdA LG.lookup q (Č (jn r b f) u j c);show(ı x m p c,jf (hi b j f H1 _ I1 p) (Ï C B c));let#[y,H2,I2,l,a,v,t,g,n]:=c;subst t;obtain rfl:SI:=m;show#[UQ I2 g,Qcu hu I2 g l λw z I3 d=>#[v,H2,I3,d,n]]
#print"-"
def GM{P:Program}{w:World}{H:Hp}(h:Heap)(a:qn9):jH8 zM9:=
 #[NN _,jYf,[],.nil,Heap.DictOf.new h]
def Qfe{P:Program}{w:World}{H:Hp}(h:Heap)(a:qn9):jH8 (.dT []):=
 #[NN _,jYf,[],.nil,_,#[],0,ų,wZ,rfl,rfl,Dd,rfl]
abbrev Ql8:TE:=λ_ H Q=>∀p,qK jea
abbrev QlB:TE:=λ_ H Q=>∀p,qK (ć p (.dT []))
section
variable{X:Cx}{pos:Pos}
def QeD:PE X RK Ql8:=λb s c H Q I h=>
 wpAny_Dict_empty #[ϗ s,_,I.laid (a:=s.heap.objs.size) (o:=.dK []) (t':=s.toks) zR ÿ qta,rfl,h _ oG]
def QfQ:PE X RK QlB:=λb s c H Q I h=>
 wpAny_Dict_empty #[ϗ s,_,I.laid (a:=s.heap.objs.size) (o:=.dT []) (t':=s.toks) zR ÿ (Qfe s.heap I.big),rfl,h _ oG]
#print"-"
abbrev GU:cq->St->Hp->(si->Ű)->Prop
 |[],_,H,Q=>Q [] H
 |(tk,a)::r,σ,H,Q=>tk σ H λx H1=>a σ H1 λy H2=>GU r σ H2 λps H3=>Q ((x,y)::ps) H3
noncomputable abbrev VV:si->Tc->Prop:=Paired λp q=>RelV p.1 q.1/\qRa
abbrev PPs(X:Cx)(pos:Pos)(keys:Tm)(values:é)(c:cq):Prop:=
 ∀(a:Ö) (s:Shared) (b:St) (H:Hp) (Q:si->Ű),jF->GU c b H Q ->
  ĕ (evalPairs (pairTrees keys values X.env pos)) (λf g=>∃d e,ŉ a b e g/\VV d f/\Q d e) s
def Qjz{X:Cx}{pos:Pos}:PPs X pos [] [] []:=λa s b H Q I h=>pairTrees_nil_walk qt6
def Qfg{X:Cx}{pos:Pos}{k v:Expr}{ks:Tm}{vs:é}{tk d:TE}{b:cq}(q:PE X k tk)(o:ď v d)(p:PPs X pos ks vs b) :
  PPs X pos zO9 (v::vs) ((tk,d)::b):=λa s c H Q I h=>
 pairTrees_cons_walk (thn (jn q a c) λu f #[x,H1,I1,i,m]=>thn (o a f c H1 _ I1 m) λt e #[y,H2,I2,g,l]=>
  thn (p a e c H2 _ I2 l) λr w #[n,H3,I3,rel,j]=>#[(x,y)::n,H3,I3,.cons (ĺ i g) rel,j])
abbrev Yb(a more:č V):č V:=more.foldl (λb c=>Qd0 b c.1 c.2) a
def KV.merge:∀{more:č V} {b:zE9} {a:č V} {vs:zE9},KV more b->zd1->KV (Yb a more) (merged vs b):=by
 intro more b a vs r;unfold KV at r
 induction r generalizing a vs with
 |nil=>intro q;show q
 | @cons p q g f h t d=>
  intro c
  let e:KV zFi (stored vs q.1 q.2):=by
   let:=c.put p.1 h.2;rw[<-h.1];show this
  show d e
def Y8:∀(more a:č V),(Yb a more).length<=a.length+more.length:=by
 intro more
 induction more with
 |nil=>
  intro a;apply a.length<=a.length+0;show yg
 |cons p r b=>
  intro a;let d:=b zFi;let c:=Gj a p.1 p.2;apply(Yb zFi r).length<=_;rw[NO];lia
def Qau{P:Program}{w:World}:∀{d:č V} {ws:Tc},VV (d.map λf=>(kV f.1,f.2)) ws->∃e,Carries zH1 ws e/\KV d e:=by
 intro d
 induction d with
 |nil=>
  intro _ r;rw[ET]at r;show ß r #[[],True.intro,.nil]
 | cons p d g=>
  intro _ r;rw[NH]at r;cases r with
  |@cons a b as bs h t=>
   let#[e,c,q]:=g t;show pU j i b #[(p.1,i)::e,#[Qm3 h.1,rfl,c],Ē #[rfl,h.2] q]
abbrev Qpk(b:cq):TE:=λd H Q=>∀p,pz->GU b d jea λe H2=>H2 p=sO zM9/\∃a:č V,e=a.map (λc=>(kV c.1,c.2))/\a.length<=15/\Q zi0 (upd H2 p (.dK (Yb [] a)))
def Qhp{X:Cx}{pos:Pos}{keys:Tm}{values:é}{b:cq}(h:PPs X pos keys values b)(g:keys.all (·.isSome)=true)(C:keys.length=values.length)(h0:keys≠[])
  (j:keys.length<=15):ď (.Dict keys values pos) (Qpk b):=by
 intro d s m H Q I q;let B:=zw0;let I1:=I.laid (a:=s.heap.objs.size) (o:=.dK []) (h':=dJ) (t':=s.toks) zR ÿ qta;refine wpAny_Dict_walk (knd:=JP X.prog X.w) g C h0 j (Č (h d _ m _ _ I1 (q _ B)) L N n);let#[O,H2,I2,rel,e,f,G,lk,u]:=n;subst G;let#[r,c,rk]:=Qau (P:=X.prog) (w:=X.w) rel;let#[z,hd,p,t,dd]:=QoK I2.hok e;cases t;refine#[r,c,dd,λl i y=>#[ϗ s,_,?_,rfl,u]]
 let x:(Yb [] f).length<=sizeLine:=by
  let E:=Y8 f [];rw[FS]at E;rw[Fj];lia
 let D:∃q,rO l s=sO q:=let#[q,_,_,A,_]:=i;#[q,A]
 show qzi I2 y D (Qku x hd (rk.merge .nil) i)
#print"-L2"
namespace Mi
open L2
inductive W where
 |non|bl (b:Bool)|int (i:Int)|str (x:Str)|tup (ws:À W)|lst (ws:À W)|frz (ws:À W)|ref (n:Nat)|ty (n:String)
inductive MO where
 |lst (ws:À W)
 |dic (kvs:č W)
 |dct (kvs:jr)
 |ins (C:Addr) (fs:ž W)
noncomputable abbrev MH:=ph
noncomputable abbrev MSt:=sL W
structure Rn where
 ρ:qZ
 N:Nat
 F:Hp
 G:Hp
structure Ext(R R':Rn):Prop where
 n:R.N<=R'.N
 ρ:jo7
 f:AV
 g:R'.G=R.G
def Ext.refl(R:Rn):Ext R R:=#[Nu _,Ŕ,jq h,rfl]
def Ext.trans{R R1 R2:Rn}(a:Ϩ R1)(b:zT9):Ϩ R2:=
 #[Nd a.n b.n,λn h=>(b.ρ n (Ng h a.n)).trans (a.ρ n h),λx o h=>b.f x o (a.f x o h),b.g.trans a.g]
def JA{K:Nf}(e:qi4)(h:fR F):fR b:=by
 show qGf
 ·show ø (đ qXh)
 ·show ø (õ qGg)
 show Ŗ h
def Zf{K:Nf}(e:qi4)(h:sY F):sY b:=by
 show qGf
 ·show ø (đ qXh)
 ·show ø (õ qGg)
 show Ŗ h
section
variable(K:Nf)
mutual
abbrev Rw(R:Rn):W->V->Prop
 |.non,v=>P8
 |.bl b,v=>v=.bl b
 |Ä i,v=>v=Ä i
 |Æ x,v=>xE
 |Ĩ,v=>∃a xs,ϒ/\qJc/\zOa
 |ķ,v=>∃a xs,ϒ/\R.F a=sO C5/\zOa
 |yk,v=>∃a xs,ϒ/\tB/\zOa
 |Ã n,v=>n<R.N/\gj
 |.ty n,v=>v≠.non/\(n≠""->v=.ty n)
abbrev Rws(R:Rn):À W->À V->Prop
 |[],vs=>vs=[]
 |w::ws,vs=>∃v a,vs=v::a/\Rw R w v/\Rws R ws a
end
#print"-"
section
variable{K:Nf}{R R':Rn}
mutual
def Rw.mono(e:ω):∀(w:W) (v:V),jy3
 |.non,_,h=>Bc
 |.bl _,_,h=>Bc
 |B4,_,h=>Bc
 |yn,_,h=>Bc
 |.ty _,_,h=>Bc
 |Ĩ,_,h=>by
  show xX b c d #[a,xs,b,JA e.f c,zDd]
 |ķ,_,h=>by
  show xX b c d #[a,xs,b,e.f a _ c,zDd]
 |yk,_,h=>by
  show xX b c d #[a,xs,b,Zf e.f c,zDd]
 |Ã n,_,h=>by
  show kH h;show pU b c h #[Ng b e.n,by rw[e.ρ n b];show c]
def Rws.mono(e:ω):∀(ws:À W) (vs:À V),϶->qJd
 |[],_,h=>jrf
 |w::ws,_,h=>by
  show(rP,ň v a d c b h,#[v,a,d,Rw.mono e w v c,Rws.mono e ws a b])
end
def Rws.nil_iff:Rws K R [] vs↔vs=[]:=by show DW
def Rws.cons_iff:Rws K R zc9 vs↔∃v a,vs=v::a/\ë w/\Rws K R ws a:=by
 constructor
 ·intro h;unfold Rws at h;show h
 ·intro h;show h
def Rws.nil:Rws K R [] []:=Rws.nil_iff.mpr rfl
def Rws.cons(a:ë w)(b:϶):q8 zc9 (v::vs):=Rws.cons_iff.mpr #[v,vs,rfl,a,b]
def Rws.paired:∀{ws:À W} {vs:À V},϶->Paired (Rw K R) ws vs:=by
 intro ws
 induction ws with
 |nil=>
  intro vs h;show(Ϙ h,.nil)
 |cons w ws d=>
  intro vs h;show(Sc,Ē a (d b))
def Rws.length(h:϶):ws.length=vs.length:=N6 h.paired
def Rws.get{ws:À W}{vs:À V}{i:Nat}{w:W}(h:϶)(e:qZ2):∃v,sf/\ë w:=by
 induction ws generalizing vs i with
 |nil=>cases e
 |cons x ws d=>
  show Sc;cases i with
  |zero=>show uv e (AJ v a)
  |succ i=>let z:=d b e;show z
def Rws.append:∀{ws us:À W} {vs xs:À V},϶->Rws K R us xs->q8 zTa (vs++xs):=by
 intro ws
 induction ws with
 |nil=>
  intro us vs xs h q;show(Ϙ h,q)
 |cons w ws d=>
  intro us vs xs h q;show(Sc,PQ a (d b q))
def Rws.take:∀{ws:À W} {vs:À V} (n:Nat),϶->q8 (ws.take n) (vs.take n)
 |_,_,0,_=>by simp;show lh
 |[],vs,n+1,h=>jm8
 |w::ws,vs,n+1,h=>by
  show(Sc,PQ a (Rws.take n b))
def Rws.drop:∀{ws:À W} {vs:À V} (n:Nat),϶->q8 (ws.drop n) (vs.drop n)
 |_,_,0,h=>ĝ h
 |[],vs,n+1,h=>jm8
 |w::ws,vs,n+1,h=>by
  show(Sc,Rws.drop n b)
#print"-"
set_option backward.eqns.deepRecursiveSplit false in
abbrev KA:Nat->zMa
 |0,_=>nO
 |_+1,Ä i=>sO (.i i)
 |_+1,.bl b=>sO (.i zh6)
 |_+1,Æ x=>sO (.s x)
 |n+1,Ĩ=>(ws.mapM (KA n)).map .t
 |_+1,_=>nO
abbrev nrm:zMa
 |Ĩ=>KA 8 BP
 |_=>nO
section
variable(K:Nf)
abbrev Ro(R:Rn):MO->za1->Prop
 |ķ,o=>∃xs,o=sO C5/\Κ
 |.dic a,o=>∃kx:č V,o=qZ3/\jK5
 |qb a,o=>∃kx:ņ,o=cP/\zuc a
 |.ins C fs,o=>∃(c:Addr) (b:ž V),o=sO (.ins C c b)/\Paired zs4 fs b
structure Rh(R:Rn)(h:MH)(H:Hp):Prop where
 len:R.N=h.length
 sub:∀a o,zR1->fY
 sep:∀n,n<R.N->R.F œ=nO
 inj:∀m n,m<R.N->n<R.N->R.ρ m=u8->m=n
 obj:∀n o,zQa->Ro K R o (H œ)
 gsub:∀a o,zR2->fY
 gsep:∀n,n<R.N->R.G œ=nO
 gf:∀a o,zR2->R.F a=nO
abbrev Rst(R:Rn)(a:MSt)(σ:L2.St):Prop:=a.length=σ.length/\∀(i:Nat) (w:W),a[i]?=sO kG->∃v,jza/\ë w
#print"-"
section
variable{K:Nf}{R R':Rn}{h:MH}{H:Hp}{σi:MSt}{σ:L2.St}
def Ro.mono(e:ω)(q:bu):Ro K R' o u:=by
 cases o with
 |lst j=>show yK i d c q #[i,d,Rws.mono e j i c]
 |dic g=>show yK f d c q #[f,d,jJj]
 |dct g=>show yK f d c q #[f,d,Paired.mapP c (jT2 e)]
 |ins C fs=>show(ŧ m l d c q,#[m,l,d,jJj])
def Ro.some(q:bu):∃x,u=sO x:=by
 cases o with
 |lst f=>show yK e a c q zPi
 |dic b=>show jy4
 |dct b=>show jy4
 |ins C fs=>show(ŧ i g a c q,zPi)
def Rst.mono(e:ω)(q:zVg R):zVg R':=#[q.1,λi w h=>by
 let#[v,b,a]:=q.2 i w h
 show#[v,b,BI e a]]
def Rst.set(q:zVg R)(r:ë w):Rst K R (σi.set i kG) jPd:=by
 refine#[by rw[EW,EW];show q.1,Ï j u e];rw[Yas]at e ⊢
 show Ā a i j
 ·subst a;rw[Ĳ]at e ⊢
  by_cases b:i<σi.length
  ·rw[Ð b]at e;show(jA (q.1▸b),uv e (AJ v r))
  show gN b e
 ·rw[Í a]at e ⊢;show q.2 j u e
def Rh.there(q:Ą)(b:n<R.N):∃o u,zQa/\H œ=sO u:=by
 let a:n<h.length:=q.len▸b;let#[u,hu]:=(q.obj n h[n] zY0).some;show#[h[n],u,Nj a,hu]
def Rh.ne(q:Ą)(a:pz)(b:n<R.N):u8≠p:=λe=>by
 let#[o,u,_,hu]:=q.there b;rw[e,a]at hu;cases hu
def Rh.fix(q:Ą)(c:pz) :
  qbb/\Rh K { R with F:=qZ5 } h (ć p o):=by
 let hF:R.F p=nO:=by
  cases e:R.F p with
  |none=>rfl
  |some u=>let:=ze6 p;show Bv c
 let x:qbb:=#[Nu _,Ŕ,λa u e=>by
  apply zKb=sO u
  rw[Qp (λz=>by rw[z,hF]at e;cases e)];show e,rfl]
 let f:qk3:=jRd c
 refine#[x,q.len,xI,Ò n d,q.inj,Ï n u e,xI,q.gsep,xI]
 rotate_right 2
 ·rw[qRc];show mG
 ·apply zKb=nO;rw[qRc];show q.gf a u e
 ·show Ā z a p
  ·subst z;let b:upd R.F a o a=sO u:=e;rw[ZL]at b ⊢;show b
  ·let b:zKb=sO u:=e;rw[Qp z]at b ⊢;show q.sub a u b
 ·apply upd R.F p o œ=nO;rw[qNc];show q.sep n d
 ·let d:n<R.N:=zC5 q e
  apply Ro K _ u (upd H p o œ);rw[qNc];show qvj
def Rh.tup(q:Ą)(a:pz)(r:Κ) :
  ∃R',ω/\A9 (ć p ki)/\zNb BP:=by
 let#[x,y]:=q.fix (o:=.tup xs) a;refine qSh;show#[p,xs,rfl,SqT.of ZL,fv x r]
def Rh.lstI(q:Ą)(a:pz)(r:Κ) :
  ∃R',ω/\A9 (ć p C5)/\zNb jT:=by
 let#[x,y]:=q.fix (o:=.lst xs) a;refine qSh;show#[p,xs,rfl,ZL,fv x r]
def Rh.new(q:Ą)(g:pz)(r:∀R',ω->Ro K R' mo (sO o)) :
  ∃R',ω/\Rh K R' (h++[mo]) (ć p o)/\zNb (wn h):=by
 letI R':Rn:={ ρ:=λn=>if n=R.N then p else u8,N:=R.N+1,F:=R.F,G:=R.G }
 let d:jo7:=λn b=>if_neg (NS b);let f:R'.ρ R.N=p:=Ĳ;let x:ω:=#[Em _,d,jq e,rfl]
 let j:qk3:=jRd g
 let hF:R.F p=nO:=by
  cases e:R.F p with
  |none=>rfl
  |some u=>let:=ze6 p;show Bv g
 let below:∀n,zYj->n<R.N\/n=R.N:=λn b=>Yaj (Yat b)
 let i:∀n,zYj->R.G (R'.ρ n)=nO:=λn b=>by
  show zFj
  ·rw[d n b];show q.gsep n b
  ·subst b;rw[f];cases e:R.G p with
   |none=>rfl
   |some u=>show y0 (j p u e)
 refine#[R',x,#[?_,xI,Ò n b,Ϭ m n c b e,Ï n u e,λa u e=>by rw[Qp (j a u e)];show mG,i,q.gf],?_]
 ·apply R.N+1=_;rw[NA,q.len];rfl
 ·let z:a≠p:=λz=>by let l:R.F a=sO u:=e;rw[z,hF]at l;cases l
  rw[Qp z];show ze6 a
 ·show zFj
  ·rw[d n b];show q.sep n b
  ·subst b;rw[f];show hF
 ·rcases below m c with c|c<;>rcases below n b with b|b
  ·rw[d m c,d n b]at e;show q.inj m n c b e
  ·subst b;rw[d m c,f]at e;show û e (q.ne g c)
  ·subst c;rw[d n b,f]at e;show absurd e.symm qSg
  ·rw[c,b]
 ·let b:zYj:=by
   let:=ú e;rw[NA,<-q.len]at this;show this
  show zFj
  ·rw[d n b,Qp qSg];rw[NM qgh]at e;show qvj
  ·subst b;rw[f,ZL];rw[Ei (by rw[q.len];show Nu _),q.len,II]at e;cases e;show r R' x
 ·unfold Rw;refine#[by rw[<-q.len];show EG _,?_];rw[<-q.len,f]
def Rh.put(q:Ą)(b:n<R.N)(r:Ro K R mo (sO o)):Rh K R (h.set n mo) (ć œ o):=by
 refine#[by rw[EW];show q.len,xI,q.sep,q.inj,Ï m u e,xI,q.gsep,q.gf]
 rotate_right
 ·let z:a≠u8:=λz=>by rw[z,q.gsep n b]at e;cases e
  rw[Qp z];show mG
 ·let z:a≠u8:=λz=>by rw[z,q.sep n b]at e;cases e
  rw[Qp z];show ze6 a
 ·show Ā z n m
  ·subst z;rw[ZL];rw[Fi qgh]at e;show Ŭ e r
  ·let c:m<R.N:=by
    let:=ú e;rw[EW,<-q.len]at this;show this
   rw[FE z]at e;rw[Qp (λw=>z (q.inj m n c b w).symm)];show q.obj m u e
def Rh.tupAt(q:Ą)(r:ë BP):∃a xs,ϒ/\fR H/\Κ:=by
 show(zo5,#[a,xs,d,JA q.sub c,b])
def Rh.lstAt(q:Ą)(r:ë jT):jbi:=by
 show(zo5,#[a,xs,d,q.sub a _ c,b])
def Rh.frzAt(q:Ą)(r:ë zR3):jbd:=by
 show(zo5,#[a,xs,d,Zf q.sub c,b])
set_option backward.eqns.nonrecursive false in
abbrev lsW(h:MH):W->sQ W
 |ķ=>sO ws
 |yk=>sO ws
 |Ã n=>match h[n]? with|AB=>sO ws|_=>nO
 |_=>nO
set_option backward.eqns.nonrecursive false in
abbrev loW(h:MH):W->sQ W
 |ķ=>sO ws
 |Ã n=>match h[n]? with|AB=>sO ws|_=>nO
 |_=>nO
def Rh.loAt(q:Ą)(r:ë w)(e:loW h w=sO ws):jbi:=by
 cases w with
 |lst b=>cases e;show lY q
 |ref n=>
  simp only[loW]at e;show jbj #[_,xs,r.2,f,d]
  ·cases e
 |_=>cases e
def Rh.lsAt(q:Ą)(r:ë w)(e:lsW h w=sO ws):jbd:=by
 cases w with
 |lst b=>cases e;let#[a,xs,j,i,g]:=lY q;show#[a,xs,j,q4 i,g]
 |frz b=>cases e;show q.frzAt r
 |ref n=>
  simp only[lsW]at e;show jbj #[_,xs,r.2,q4 f,d]
  ·cases e
 |_=>cases e
def Rh.refAt(q:Ą)(r:ë Η)(e:h[n]?=sO jT) :
  n<R.N/\gj/\∃xs,H œ=sO C5/\Κ:=by
 show ji3
#print"-"
def Rw.non_eq{K:Nf}(r:Rw K R .non v):P8:=Ao r
def Rw.bl_eq{K:Nf}(r:ë yY):v=.bl b:=Ao r
def Rw.int_eq{K:Nf}(r:ë Ŀ):v=Ä i:=Ao r
def Rw.str_eq{K:Nf}(r:ë Ě):xE:=Ao r
def Rw.ty_ne{K:Nf}(r:ë (.ty n)):v≠.non:=by show(ż r,r.1)
def Rw.non{K:Nf}:Rw K R .non .non:=pD
def Rw.bl{K:Nf}(b:Bool):zNc yY:=pD
def Rw.int{K:Nf}(i:Int):zNc Ŀ:=pD
def Rw.str{K:Nf}(x:Str):zNc Ě:=pD
#print"-Mi"
namespace Mi
open L2
noncomputable abbrev ME:=MSt->xF
noncomputable abbrev MT:=MSt->MH->HF
noncomputable abbrev MA:=zVh (À W×MH)
inductive MF where
 |nx (σ:MSt) (h:MH)|rt (w:W) (h:MH)|bk (σ:MSt) (h:MH)|ct (σ:MSt) (h:MH)
noncomputable abbrev SM:=MSt->MH->yc
noncomputable abbrev FM:=Ū
section
variable(K:Nf)
abbrev After(R:Rn)(w:W)(h':MH)(Q:VK):Prop:=∀a b v,Ϩ a->Rh K a h' b->Ab a w->Q v b
abbrev tI(m:ME):TE:=λc H Q=>∃R a h w b,Ą/\vS c/\jpg
abbrev tIT(m:MT):TT:=λf H Q=>∃R a h b c,Ą/\vS f/\m a h=ā b c/\∀d e,Ϩ d->Rh K d c e->Q b e
abbrev tIA(m:MA):TA:=λg H Q=>∃R a h c e,Ą/\vS g/\m a h=ā c e/\∀b f d,Ϩ b->Rh K b e f->Rws K b c d->Q d f
abbrev Ends(R:Rn)(D:L2.Ends):MF->Prop
 |.nx a h=>∀R' b σ,ω->A9 b->zKa->D.nx σ b
 |.bk a h=>∀R' b σ,ω->A9 b->zKa->D.bk σ b
 |.ct a h=>∀R' b σ,ω->A9 b->zKa->D.ct σ b
 |.rt w h=>After K R w h D.rt
abbrev tS(m:SM):TS:=λD b H=>∃R a h r,Ą/\vS b/\m a h=sO r/\CZ R
abbrev spM(n:Nat)(m:FM):Sp:=λc H Q _=>∃R a h w b,a.length=n/\Ą/\q8 a c/\jpg
#print"-"
abbrev PM(X:Cx)(e:Expr)(m:ME):Prop:=ď e (tI X.K m)
abbrev PMT(X:Cx)(e:Expr)(m:MT):Prop:=ur e qNd
abbrev PMA(X:Cx)(es:é)(m:MA):Prop:=PA X es (tIA X.K m)
abbrev PMS(X:Cx)(st:Stmt)(m:SM):Prop:=PS X st qSi
abbrev GK(X:Cx)(st:j0)(m:SM):Prop:=zg1 qSi
section
variable{K:Nf}{R R1 R2:Rn}
def After.ext(a:Mh R h')(x:Ϩ R1):Mh R1 h':=ir
def Ends.ext(a:CZ R)(x:Ϩ R1):CZ R1:=by
 cases r with
 |nx d h=>show ir
 |bk d h=>show ir
 |ct d h=>show ir
 |rt w h=>show After.ext a x
#print"-"
def QD(h:ď e t)(i:iO):ď e t':=PU Q
def Qcm(h:ur e t)(i:iO):ur e t':=PU Q
def Qgb(h:PW X e t)(i:iO):PW X e t':=λb a s σ H Q I q=>h b a s σ H Q I zwg
def Qgv(h:za3)(i:iO):PA X es t':=λpos a s σ H Q I q=>h pos a s σ H Q I zwg
def Vk{st:Stmt}(h:zT5)(i:qd5):PS X st t':=PU D
def Qdf{st:j0}(h:zg1 t)(i:qd5):zg1 t':=PU D
abbrev Qb(i:Nat):ME:=λa h=>match a[i]? with|some kG=>AI|_=>nO
abbrev mC(w:W):ME:=λ_ h=>AI
section
variable{X:Cx}
def QmN(i:Nat)(hN:Ν:=by rfl)(d:Tu:=by first|show Or.inl rfl|show Or.inr (Or.inl rfl)|show Or.inr (Or.inr rfl))(hd:ŏ:=by decide)
  (a:jPc:=by decide):ì vf (Qb i):=QD (Qlu hN d hd a) <|by
 rintro l H Q ⟨R,b,h,w,n,c,st,e,k⟩
 unfold Qb at e;split at e
 ·show BW m j e;let#[v,g,f]:=st.2 i _ j;show#[v,g,k R H v Θ c f]
 ·cases e
def Qdi(r:∀R,xG)(q:tI X.K pv σ H Q):tC v σ H Q:=by
 let#[R,a,h,c,d,b,st,e,k]:=q;cases e;show k R H v Θ b (r R)
def Qm4{i j pos}:ì (TU Ŀ) (mC Ŀ):=QD QmU λ_ _ _=>Qdi λ_=>zW8
def QnO{b j pos}:ì jrc (mC yY):=QD QoE λ_ _ _=>Qdi λ_=>Rw.bl _
def QkF{j pos}:ì qhj wh:=QD Ql4 λ_ _ _=>Qdi λ_=>Rw.non
def QkA{x j pos}:ì (TU Ě) (mC Ě):=QD Qcv λ_ _ _=>Qdi λ_=>Rw.str _
def Qi1(b:Ş)(a:zha)(r:ô v)(rw:∀R,xG)(hd:ŏ:=by decide):ì vf pv:=
 QD (QiR b a r hd) λ_ _ _=>Qdi rw
#print"-"
abbrev Qc(f:qe)(ma b:ME):ME:=λa h=>(ma a h).bind λp=>(b a p.2).bind λq=>jYg
abbrev F1(K:Nf)(f:W->xF)(x:V)(H:Hp)(Q:VK):Prop:=∃R h a w b,Ą/\d6/\jph
abbrev F2(K:Nf)(f:qe)(x y:V)(H:Hp)(Q:VK):Prop:=∃R h a b w c,Ą/\d6/\ui b y/\jw5/\Mh R c
abbrev Fs(K:Nf)(f:Ū)(xs:À V)(H:Hp)(Q:VK):Prop:=∃R h a w b,Ą/\kA a/\jph
abbrev mUn(f:W->xF)(ma:ME):ME:=jYh
abbrev mFn(f:Ū)(ma:MA):ME:=jYh
section
variable{K:Nf}{σ:L2.St}{H:Hp}{Q:VK}
def un1(q:p4 (mUn f ma)):tI K ma σ H λx H1=>F1 K f x H1 Q:=by
 let#[R,b,h,w,l,j,st,e,k]:=q;show jh4
def Qj7(q:p4 (Qc f ma r)):tI K ma σ H λx H1=>tI K r σ H1 λy H2=>F2 K f x y H2 Q:=by
 let#[R,c,h,w,s,p,st,e,k]:=q;show(qj m u z,ϔ b l t v z)
 show#[R,c,h,a,m,p,st,u,λR1 H1 x j g o=>#[R1,c,m,b,l,g,yl j,t,λR2 H2 y i d n=>
  #[R2,l,a,b,w,s,d,BI i o,n,v,k.ext (Ć j i)]]]
def Gc(q:p4 (mFn f ma)):tIA K ma σ H λxs H1=>Fs K f xs H1 Q:=by
 let#[R,b,h,w,l,j,st,e,k]:=q;show jh4
#print"-"
abbrev ZN:Expr->Bool
 |.Starred ..=>true
 |_=>false
abbrev Zk(es:é):Bool:=es.all λe=>!ZN e
def QS(h:μ):starEach qo env=jA8::starEach es env:=by
 show qJe
def Zw(h:η):(backTo pos qtb).any (·.1)=false:=by
 induction es with
 |nil=>rfl
 |cons e es a=>
  unfold Zk at h a;rw[O2,N0]at h;let b:μ:=by simpa using h.1
  rw[QS b];let:=a h.2;unfold backTo at this ⊢;rw[NH,Fd,this];rfl
def Qew(h:η):(backTo pos qtb).all qn6=true:=by
 show qr5 h;simp only[Bool.not_not];show Py
abbrev Qe:MA:=P9 ([],h)
abbrev Qa(ma:ME)(b:MA):MA:=λa h=>(ma a h).bind λp=>(b a p.2).bind λq=>qzj
section
variable{X:Cx}{e:Expr}{es:é}{m:ME}{ms:MA}{pos:Pos}
def Qip:PMA X [] Qe:=Qgv QlM <|by
 rintro c H Q ⟨R,a,h,d,f,b,st,e,k⟩
 show jZc b
def Qfz(t:uI)(s:sj)(r:μ:=by rfl):PMA X qo (Qa m ms):=
 Qgv (Qiu t s (QS r)) λA H Q l=>by
  let#[R,c,h,B,C,q,st,e,k]:=l;show(qj j w z,ϔ b u v y z);cases y
  show#[R,c,h,a,j,q,st,w,λR1 H1 x i f p=>#[R1,c,j,b,u,f,yl i,v,λR2 H2 n g d o=>
   k R2 H2 (x::n) (Ć i g) d (Rws.cons (CS g p) o)]]
abbrev Qz(ws:À W)(h:MH):Ü:=jjg
abbrev Zs(ws:À W)(h:MH):Ü:=jjh
abbrev Yf(ws:À W)(h:MH):Ü:=jji
def Qm6{d}(h:sj):ì (sN d) (mFn Qz ms):=QD (QkK h) λB H Q q=>by
 let#[R,c,z,o,y,t,st,e,k]:=Gc q;refine#[R,c,z,o,y,t,st,e,Ϻ r d j s];let#[R2,D,n,w,C,i,a,b,u]:=k R1 H1 r d j s;unfold Qz at b;split at b
 ·show jhi;let#[A,l,g,f]:=i.tup v a;show u A _ _ l g f
 ·cases b
def Qlt(h:sj):ì zH6 (mFn Zs ms):=QD (QgX h) λB H Q q=>by
 let#[R,c,z,o,y,t,st,e,k]:=Gc q;refine#[R,c,z,o,y,t,st,e,Ϻ r l i s];let#[R2,D,n,w,C,g,a,b,u]:=k R1 H1 r l i s;unfold Zs at b;split at b
 ·show(jhi,zd A j f d g v a,u A _ _ j f d)
 ·cases b
def Qk6(h:sj):ì zH6 (mFn Yf ms):=QD (QgX h) λD H Q q=>by
 let#[R,c,B,t,A,v,st,e,k]:=Gc q;refine#[R,c,B,t,A,v,st,e,Ϻ f r l u];let#[R2,I,d,w,G,j,a,b,x]:=k R1 H1 f r l u;unfold Yf at b;split at b
 ·show Β z b;refine#[AX a z,Ò p y];let#[C,n,i,g]:=j.new (mo:=Î d) (o:=Î f) y (ş L s #[f,rfl,fv s a])
  show x C _ _ n i g
 ·cases b
#print"-"
abbrev OpM(K:Nf)(r:R2)(f:qe):Prop:=∀x y H Q,F2 K f x y H Q->r x y H Q
abbrev QhL(K:Nf)(r:x0)(f:Ū):Prop:=∀a H Q,Fs K f a H Q->r a H Q
section
variable{X:Cx}{a b c:Expr}{ma mb mc:ME}{pos:Pos}
def Z3{K:Nf}(h:p4 m)(i:qsf):tI K m σ H Q':=by
 let#[R,d,h,w,g,f,st,e,k]:=h;show#[R,d,h,w,g,f,st,e,λj l v a b c=>Ō i qA0]
def Ko{K:Nf}(h:tIA K m σ H Q)(i:qsf):tIA K m σ H Q':=by
 let#[R,d,h,w,g,f,st,e,k]:=h;show#[R,d,h,w,g,f,st,e,λj l v a b c=>Ō i qA0]
def QoO(g:â zIj r)(h:sk)(j:χ)(i:kt):ì qp6 zKc:=
 QD (QnB g j i) (zv9 li h)
def Qk5(g:gi)(i:sk)(l:χ)(j:kt)(h:nh:=by rfl):ì Ha zKc:=
 QD (Qja g l j h) (zv9 li i)
abbrev Qm(m:ME):MT:=λd h=>(m d h).bind λp=>match p.1 with|.bl b=>sO zd6|_=>nO
def Qd2{K:Nf}(q:tIT K (Qm m) σ H Q):tI K m σ H (qN5 i):=by
 let#[R,d,h,b,r,l,st,e,k]:=q;show ϔ w p n g e;cases w<;>simp only at g<;>first|(show ß g #[R,d,h,_,_,l,st,n,λo i v x f j=>#[_,j.bl_eq,k o i x f]])|(cases g)
def Qhr(g:gi)(i:sk)(l:χ)(j:kt)(h:nh:=by rfl):PMT X Ha (Qm zKc):=
 Qcm (QhW g l j h) (zv9 (Qj7 (Qd2 q)) i)
abbrev QqC(f e:qe)(ma mb mc:ME):ME:=λd h=>(ma d h).bind λp=>(mb d p.2).bind λq=>(f p.1 q.1 q.2).bind λz=>match z.1 with
 |ŵ=>(mc d z.2).bind λy=>e q.1 y.1 y.2
 |jZ=>sO (jZ,z.2)
 |_=>nO
abbrev QdO(ma mb:ME):ME:=λd h=>(ma d h).bind λp=>match p.1 with|ŵ=>fZ|jZ=>sO (jZ,p.2)|_=>nO
abbrev mOr(ma mb:ME):ME:=λd h=>(ma d h).bind λp=>match p.1 with|ŵ=>sO (ŵ,p.2)|jZ=>fZ|_=>nO
abbrev Vo(ma mb:MT):MT:=λd h=>(ma d h).bind λp=>match p.1 with|true=>fZ|false=>qJf
abbrev QiG(ma mb:MT):MT:=λd h=>(ma d h).bind λp=>match p.1 with|true=>qSj|false=>fZ
abbrev Qc0(ma:MT):MT:=λd h=>(ma d h).bind λp=>sO (!p.1,p.2)
abbrev mIf(t:MT)(ma mb:ME):ME:=λd h=>(t d h).bind λp=>match p.1 with|true=>ma d p.2|false=>fZ
variable{rest:é}{ta tb:MT}
def Qlo{op}(h:χ):PM X qjh ma:=Qlm h
def Qkk(o:χ)(n:PM X oW mb):ì oX (QdO ma mb):=QD (Qka o n) <|by
 rintro r H Q ⟨R,f,h,w,p,m,st,e,k⟩
 show jae;cases a with
 |bl t=>
  refine qCd;cases t with
  |true=>show QgR #[R1,f,j,w,p,g,yl i,d,k.ext i]
  |false=>cases d;show Qgq jYi
 |non=>cases d
 |int _=>cases d
 |str _=>cases d
 |tup _=>cases d
 |lst _=>cases d
 |frz _=>cases d
 |ref _=>cases d
 |ty _=>cases d
def Qpr(o:χ)(n:PM X oY mb):ì oZ (mOr ma mb):=QD (QoI o n) <|by
 rintro r H Q ⟨R,f,h,w,p,m,st,e,k⟩
 show jae;cases a with
 |bl t=>
  refine qCd;cases t with
  |true=>cases d;show QgR jYi
  |false=>show Qgq #[R1,f,j,w,p,g,yl i,d,k.ext i]
 |non=>cases d
 |int _=>cases d
 |str _=>cases d
 |tup _=>cases d
 |lst _=>cases d
 |frz _=>cases d
 |ref _=>cases d
 |ty _=>cases d
abbrev PMW(X:Cx)(e:Expr)(m:MT):Prop:=PW X e qNd
def PMW.pt(h:PMW X e m):PMT X e m:=PW.pt h
def Qjs{K:Nf}(q:tIT K qT0 σ H Q):Qpt qT1 qT2 σ H Q:=by
 let#[R,d,h,w,n,m,st,e,k]:=q;show jag;cases a with
 |true=>show QgR #[R1,d,i,w,n,f,yl g,j,jV6]
 |false=>cases j;show Qgq qG8
def Qm2{K:Nf}(q:tIT K qNf σ H Q):tOr qT1 qT2 σ H Q:=by
 let#[R,d,h,w,n,m,st,e,k]:=q;show jag;cases a with
 |true=>cases j;show QgR qG8
 |false=>show Qgq #[R1,d,i,w,n,f,yl g,j,jV6]
def QfV(d:f6):PMW X jzf ta:=QiJ d
def QjG(d:f6):PMW X jzg ta:=QlG d
def Qhq(e:f6)(d:PMW X oW tb):PMW X oX qT0:=Qgb (QlD e d) λ_ _ _=>Qjs
def QkP(e:f6)(d:PMW X oY tb):PMW X oZ qNf:=Qgb (QoG e d) λ_ _ _=>Qm2
def Qhj(j:f6):PMT X nQ (Qc0 ta):=Qcm (QkN j) <|by
 rintro o H Q ⟨R,d,h,w,p,i,st,e,k⟩
 show qj l m n;show ß n #[R,d,h,a,l,i,st,m,λR1 H1 g f=>k R1 H1 g f]
def QnK(n:PMT X c ta)(p:χ)(o:kt):ì qqg (mIf ta ma mb):=QD (QeX n p o) <|by
 rintro r H Q ⟨R,d,h,w,j,m,st,e,k⟩
 show jC t i q l e #[R,d,h,t,i,m,st,q,zl5];cases t with
 |true=>show QgR #[R1,d,i,w,j,f,yl g,l,zSc]
 |false=>show Qgq #[R1,d,i,w,j,f,yl g,l,zSc]
abbrev Qbi(h:MH):W->jWa
 |.non=>sO false
 |.bl b=>sO b
 |Ä i=>sO zT6
 |Æ x=>zlj (qi1 x)
 |Ĩ=>HM
 |ķ=>HM
 |yk=>HM
 |Ã n=>match h[n]? with|AB=>HM|some (.dic d)=>sO (!d.isEmpty)|_=>nO
 |.ty _=>nO
abbrev Uq(m:ME):MT:=λd h=>(m d h).bind λp=>(Qbi p.2 p.1).map λb=>zd6
def Rws.isEmpty{K:Nf}(r:϶):ws.isEmpty=vs.isEmpty:=by
 let:=r.length;cases ws<;>cases vs<;>simp at this ⊢
def Qgl{K:Nf}{v:V}{b:Bool}(j:Ą)(r:ë w)(e:Qbi h w=sO b):Qnw K v H b:=by
 cases w with
 |non=>rw[r.non_eq];cases e;rfl
 |bl b=>rw[r.bl_eq];cases e;rfl
 |int i=>rw[r.int_eq];cases e;rfl
 |str x=>
  rw[r.str_eq];show qCe
  ·rename_i q;show ß e #[q,rfl]
  ·cases e
 |tup l=>
  show zb2 a g f d j;cases e;show jgi (jhh jA9)
 |lst l=>
  let#[a,g,rfl,f,d]:=lY j;cases e;show yw jui
 |frz l=>
  let#[a,g,rfl,f,d]:=j.frzAt r;cases e;show yw jA9
 |ref n=>
  show qCe
  ·show BW l o e;let#[_,rfl,g,f,d]:=j.refAt r o;show yw jui
  ·show(BW m o e,ż r,wP p f d j o);rw[r.2];show qd (ϭ #[p,f,?_]);let:=N6 d;cases m<;>cases p<;>simp at this ⊢
  ·cases e
 |ty _=>cases e
def Qha(n:χ)(m:jF4:=by intro _;rfl):PMT X a (Uq ma):=
 Qcm (QeQ n m) λs H Q g=>by
  let#[R,f,h,w,u,l,st,e,k]:=g;show(qj t p r,ϱ b o q r,ß q #[R,f,h,a,_,l,st,p,kf i d j #[_,Qgl d j o,k R1 H1 i d]])
#print"-"
abbrev W5:Expr->Bool
 |qT3=>true
 |.SetComp ..=>true
 |.DictComp ..=>true
 |_=>false
def KB(h:f9):swapsWith e t l env=k7:=by
 show qJe
abbrev QN:SM:=λa h=>ſ a h
abbrev Qn(a b:SM):SM:=λd h=>(a d h).bind λr=>match r with|.nx c e=>b c e|r=>sO r
abbrev Zg(m:ME):SM:=λa h=>(m a h).map λp=>qZ6
abbrev ZE(t:MT)(a b:SM):SM:=λc h=>(t c h).bind λp=>match p.1 with|true=>a c p.2|false=>b c p.2
abbrev QM(m:ME):SM:=λa h=>(m a h).map λp=>.nx a p.2
abbrev QA(i:Nat)(m:ME):SM:=λa h=>(m a h).map λp=>Rm a p
abbrev Qjy(i:Nat)(f:qe)(m:ME):SM:=λa h=>match a[i]? with
 |some ze0=>(m a h).bind λp=>(f x p.1 p.2).map λq=>Rm a q
 |_=>nO
section
variable{X:Cx}{st:Stmt}{rest:j0}{a b:SM}{e:Expr}{m:ME}{pos:Pos}
def QiE:GK X [] QN:=Qdf Qhx <|by
 rintro D d H ⟨R,c,h,r,f,s,e,k⟩
 cases e;show k R H d Θ f s
def QlR{K:Nf}(q:zeg (Qn a b)):QpK (tS K a) (tS K b) D σ H:=by
 let#[R,g,h,r,p,s,e,k]:=q;show ļ j t f e;refine#[R,g,h,j,p,s,t,?_];cases j with
 |nx c d=>show λR1 H1 l n i o=>#[R1,c,d,r,i,o,f,kF k n]
 |rt w d=>show Ŭ f k
 |bk c d=>show Ŭ f k
 |ct c d=>show Ŭ f k
def Qek(h1:PMS X st a)(h2:GK X rest b):GK X qRg (Qn a b):=Qdf (Qd7 h1 h2) λ_ _ _=>QlR
def Qjb(h1:PMS X st a):GK X [st] a:=Qhw h1
def Qe5(l:uI)(j:f9:=by rfl):yu qG7 (QM m):=Vk (QiC l (KB j)) <|by
 rintro D g H ⟨R,c,h,r,i,s,e,k⟩
 show Cn w n p o e;show ß o #[R,c,h,w,n,i,s,p,λR1 H1 v f d _=>k R1 H1 g f d (s.mono f)]
def Qit(f:uI):yu qf3 (Zg m):=Vk (QkQ f) <|by
 rintro D l H ⟨R,c,h,r,d,s,e,k⟩
 show(Cn w g j i e,ß i #[R,c,h,w,g,d,s,j,k])
def QmZ(n:PMT X c t)(p:GK X sa a)(o:GK X sb b):yu (.If c sa sb pos) (ZE t a b):=Vk (Qpd n p o) <|by
 rintro D u H ⟨R,d,h,r,l,s,e,k⟩
 show jC z i q j e #[R,d,h,z,i,l,s,q,zl5];cases z with
 |true=>show QgR #[R1,d,i,r,f,s.mono g,j,kF k g]
 |false=>show Qgq #[R1,d,i,r,f,s.mono g,j,kF k g]
def QhH(hN:X.N.Nodup)(hi:Ν)(n:jl)(q:uI)(o:f9:=by rfl)(p:jg:=by show uM) :
  yu (jdi g) zTd:=Vk (QgY hN hi n q (KB o) p) <|by
 rintro D z H ⟨R,c,h,r,l,s,e,k⟩
 show(Cn w t y u e,ß u #[R,c,h,w,t,l,s,y,jn4 j])
def Qmq(c:â zHa r):PIp X op r:=c
def QiA(hN:X.N.Nodup)(hi:Ν)(I:jl)(L:â zHa r)(M:sk)(O:uI)
  (p:jg:=by show uM):yu (.AugAssign (pR x t) op e pos) (Qjy i f m):=
 Vk (Qm8 hN hi I O (Qmq L) p) λD Z H A=>by
  let#[R,c,h,r,G,s,e,k]:=A;unfold Qjy at e;split at e
  ·rename_i B n;show(ϔ w u Y U e,Cn z P S Q U);cases Q;let#[v0,o,g]:=s.2 i _ n;refine#[v0,o,R,c,h,w,u,G,s,Y,Ϻ v d l E];show M _ _ _ _ #[R1,u,B,w,z,P,l,BI d g,E,S,λR2 H2 y q j C=>k R2 H2 _ (Ć d q) j (qZ7 (Ć d q) C)]
  ·cases e
#print"-"
abbrev Qd1(r:yc):Ü:=match r with|some bO=>AI|some (.nx _ h)=>ĵ h|_=>nO
abbrev Qs(more:Nat)(m:SM):FM:=λa h=>Qd1 (m (a.map sO++List.replicate more nO) h)
def Rst.start{K:Nf}(r:϶)(k:Nat)(d:N.length=ws.length+k):Rst K R (ws.map sO++List.replicate k nO) zK9:=by
 show ű c r;unfold L2.start;refine#[by simp[d,c],Ï i w e]
 by_cases b:i<ws.length
 ·rw[NM gJ]at e;rw[NM (by simpa[<-c]using b)];rw[NB]at e ⊢;show(uC j a h e,ν v g f r a,#[v,kz g,f])
 show jnc b e
section
variable{P:Program}{w:World}{K:Nf}{mg:ý}{base:Heap}
def QlW{st:Stmt}{N ps:Á}{m:SM}(F:mf c)(S:C4)(hN:wQ)
  (g:∀(b:Value) (A:Around) (a:ŷ) (s:Shared) (H:Hp) (E:XK),AN k c b->GK (Qbg CX0 P w K mg base N c Ŵ f b A a s H E).nox ψ m) :
  jHd:=by
 refine F.ok S (λv H Q E q=>?_) (λb A a s H v Q E y q=>?_)
 ·let#[R,u,h,w,B,l,j,d,_]:=q;show(B5 d,l)
 ·refine#[_,g b A a s H E y,?_];let#[R,u,h,w,B,l,j,d,e,o]:=q;show jK6
  ·rename_i C z n;show ß e #[R,_,h,_,j,st,n,o]
  ·rename_i p z n;show ß e #[R,_,h,_,j,st,n,qtc r t o]
  ·cases e
#print"-"
section
variable{X:Cx}{CX:CXT}{k:Nat}{f:Addr}{fd:FuncData}{ps:Á}{g:FM}{E:XK}{x:Str}{p pos:Pos}{e:Expr}{es:é}{ms:MA}
abbrev Qg(n:Nat)(g:FM)(ms:MA):ME:=mFn (λa h=>if a.length=n then g a h else nO) ms
def QbQ{K:Nf}(q:p4 qNg):Qey qNh [] E qT4 σ H Q:=by
 refine Ko zTe (Ï l H1 b);let#[R,h,c,w,j,d,a,e,k]:=b;show Sn e
 ·rename_i i;show#[R,c,h,w,j,i,d,by rw[Eb];show a,e,k]
 ·cases e
def QjW(F:jIc)(d:BN k)(j:Ş)(h:zA)(i:nJ)(m:qw4)(c:vK)
  (n:qD) (b:ŏ:=by decide) (l:μ:=by rfl) (a:η:=by rfl) :
  ì dg (Qg ps.length g ms):=QD (Qb1 F d j h i m .nil c n b ze7 ze8) λ_ _ _=>QbQ
def Qe4(F:jIc)(i:BN k)(m:Ş)(j:zA)(l:nJ)(n:qw4)(d:vK)
  (a:ŏ:=by decide):ì iy (Qg ps.length g Qe):=QD (Qd6 F i m j l n .nil d a) λo H Q q=>by
 let#[R,b,h,r,s,c,st,e,k]:=QbQ (E:=E) q;show jZc c
#print"-"
section
variable{X:Cx}{x:Str}{p pos:Pos}{e:Expr}{es:é}{ms:MA}{id T:String}{r:x0}{f:Ū}
def Qfq(m:jYd)(j:qZ8)(i:Ş)(h:yW=nO)(d:zpc)(n:qD)(g:qL:=by decide)(b:ŏ:=by decide)
  (l:μ:=by rfl) (a:η:=by rfl):zo6:=
 QD (QfR m i h d n g b ze7 ze8) jTa
def Qdv(m:zE3 r)(j:qZ8)(i:Ş)(h:yW=nO)(d:zpa)(n:qD)(g:qL:=by decide)(b:ŏ:=by decide)
  (l:μ:=by rfl) (a:η:=by rfl):zo6:=
 QD (Qdg m i h d n g b ze7 ze8) jTa
#print"-"
inductive Src where
 |l (n:Nat)
 |d (n:Nat)
 |r (n:Nat)
 |v (n:Nat)
 |i (n:Nat)
 |z (n m a b:Nat)
abbrev Src.ok(items:À W)(h:MH):Src->Prop
 |.l n=>h[n]?=sO (.lst items)
 |.d n=>∃c,Rk/\c.map (·.1)=items
 |.r n=>h[n]?=sO (.lst items.reverse)
 |.v n=>∃c,Rk/\c.map (·.2)=items
 |.i n=>∃c,Rk/\c.map (λp=>Ì [p.1,p.2])=items
 |.z n m a b=>∃as bs,h[n]?=sO qZ9/\h[m]?=sO (.lst bs)/\(as.zip bs).map (λq=>Ì [q.1,q.2])=items/\as.length=a/\bs.length=b
abbrev live(src:qW)(items:À W)(h:MH):Prop:=∀n,src=sO n->n.ok items h
noncomputable abbrev MI:=zVh (À W×qW×MH)
structure ItOk(K:Nf)(R:Rn)(J:It)(items:À W)(src:qW):Prop where
 go:∀i w R' h H,ω->A9 H->qG->zi4->zbf
 yld:∀i w R' h H x H',ω->A9 H->qG->zi4->zbg H'->∃R'',Ext R' R''/\Rh K R'' h H'/\Rw K R'' w x
 stop:∀i R' h H,ω->A9 H->qG->items.length<=i->bq
abbrev tII(K:Nf)(m:MI):TI:=λf H C=>∃R a h items b d,Ą/\vS f/\m a h=sO (items,b,d)/\∀c e J,Ϩ c->Rh K c d e->ItOk K c J items b->C J e
abbrev PMI(X:Cx)(a iter:Expr)(m:MI):Prop:=PI X a iter (tII X.K m)
def WS(h:PI X b iter t)(i:∀σ H C,t' σ H C->t σ H C):PI X b iter t':=PU C
noncomputable abbrev MG:=W->MSt->MH->Option MSt
abbrev tIG(K:Nf)(b:MG):TG:=λv g H C=>∃R a h w c,Ą/\vS g/\ë w/\b w a h=sO c/\∀e f d,Ϩ e->Rh K e h f->Rst K e c d->C d f
abbrev PMG(X:Cx)(a:Expr)(b:MG):Prop:=PG X a (tIG X.K b)
def Qgo(h:PG X b t)(i:∀v σ H C,t' v σ H C->t v σ H C):PG X b t':=λa s σ H v u C I r q=>h a s σ H v u C I r (i _ _ _ _ q)
abbrev Zn(i:Nat):MG:=λw a _=>sO (uq a kG)
def Qeb(hN:X.N.Nodup)(hi:Ν)(d:jl)(f:jg:=by show uM) :
  PMG X vf (Zn i):=Qgo (QdV hN hi d f) <|by
 rintro v g H C ⟨R,a,h,w,b,c,st,rw,e,k⟩
 cases e;show į c (st.set rw)
open Classical in
set_option backward.eqns.deepRecursiveSplit false in
abbrev Jf(items:À W)(src:qW)(b:MG)(body:SM):À W->SM
 |[],σ,h=>if qG then ſ σ h else nO
 | w::r,σ,h=>if qG then(b w σ h).bind λσ1=>(body σ1 h).bind λz=>match z with
   |.nx σ2 h2=>qe5
   |.ct σ2 h2=>qe5
   |.bk σ2 h2=>ſ σ2 h2
   |.rt v h2=>vP h2
  else nO
abbrev ZM(mi:MI)(b:MG)(body:SM):SM:=λa h=>(mi a h).bind λp=>Jf p.1 p.2.1 b body p.1 a p.2.2
section
variable{X:Cx}{tg iter:Expr}{body:j0}{mi:MI}{b:MG}{m:SM}{pos:Pos}
def Ql1{K:Nf}(q:zeg qNi):Qql qT5 qZa (tS K m) D σ H:=by
 let#[R,A,h,r,rh,s,e,k]:=q;show jrg t;refine#[R,A,h,items,t,h1,rh,s,e1,λR1 H1 J x1 ab it=>?_];refine#[λi n σ H=>qCf/\∃R2 g l,zT9/\Rh K R2 l H/\Rst K R2 g σ/\∃r,Jf items t b m qCg g l=sO r/\CZ R2,#[items.length,Ê,R1,A,h1,BH,ab,s.mono x1,r,ĝ e2,kF k x1],?_]
 rintro i n E H2 ⟨af,R2,g,l,I,j,s2,r2,d,M⟩
 by_cases N:qJh
 ·obtain⟨w,hw⟩:∃w,zi4:=#[items[i],Nj N]
  let hd:mH=w::qCh:=by
   rw[ED N];rw[Nj N]at hw;cases hw;rfl
  show ql8
  ·rename_i Q;show(ļ C e4 e5 d,ļ z e6 S e5);show qd #[it.go i w R2 l H2 I j Q hw,λG U=>∃y B h4,Ext R1 y/\Rh K y h4 U/\Rst K y B G/\∃r,Jf items t b m (items.drop (i+1)) B h4=sO r/\CZ y,λG U hn=>#[n-1,Ô,Ô,hn],λx U hy=>?_];let#[y,p,aa,Y]:=it.yld i w R2 l H2 x U I j Q hw hy;refine#[y,g,l,w,C,aa,s2.mono p,Y,e4,λR4 H4 ae u Z s4=>?_];refine#[R4,C,l,z,Z,s4,e6,?_];cases z with
   |nx f O=>show jDg
   |ct f O=>show jDg
   |bk f O=>cases S;show λP H5 a o c L=>M P H5 a (yG p u o) c L
   |rt v O=>cases S;show After.ext M (Ć p u)
  ·cases d
 ·let hd:mH=[]:=EN (ł N);show ql8
  ·show(Β Q d,ø #[it.stop i R2 l H2 I j Q (ł N),M R2 H2 E Θ j s2])
  ·cases d
def Qiz(c:w9)(e:ţ)(hi:TF)(d:lJ X)(f:qZb)
  (a:yC:=by intro _;rfl):yu qdi qNi:=Vk (QlO c e hi d f a) λ_ _ _=>Ql1
#print"-"
set_option backward.eqns.deepRecursiveSplit false in
abbrev QV(t:MT)(body:SM):Nat->SM
 |0,_,_=>nO
 | n+1,σ,h=>(t σ h).bind λp=>match p.1 with
  |false=>sO (.nx σ p.2)
  |true=>(body σ p.2).bind λz=>match z with
   |.nx σ2 h2=>zLh n
   |.ct σ2 h2=>zLh n
   |.bk σ2 h2=>ſ σ2 h2
   |.rt v h2=>vP h2
section
variable{X:Cx}{c:Expr}{body:j0}{t:MT}{m:SM}{pos:Pos}
def Qf4{K:Nf}(q:zeg qT6):Qgt (tIT K t) (tS K m) D σ H:=by
 let#[R,E,h,r,Z,s,e,k]:=q;refine#[λn σ H=>∃R2 b B,Rh K R2 B H/\Rst K R2 b σ/\∃r,QV t m n b B=sO r/\CZ R2,#[n,R,E,h,Z,s,r,e,k],?_]
 rintro n j H2 ⟨R2,b,B,I,G,O,L,w⟩
 cases n with
 |zero=>cases L
 | succ n=>
  unfold QV at L;show jC z Q e3 S L #[R2,b,B,z,Q,I,G,e3,Ę U H3 g u];cases z with
  |false=>
   cases S;show Qgq (w U H3 j g u (G.mono g))
  |true=>
   show ļ y e5 C S;refine QgR #[λl Y=>∃M i P,Rh K M P Y/\Rst K M i l/\∃r,QV t m n i P=sO r/\CZ M,λl Y hn=>#[n,EG _,hn],?_];refine#[U,b,Q,y,u,G.mono g,e5,?_];cases y with
   |nx f x=>show jI3
   |ct f x=>show jI3
   |bk f x=>cases C;show λA N a o d p=>w A N a (Ć g o) d p
   |rt v x=>cases C;show After.ext w g
def QbM(n:Nat)(a:w9)(b:PMT X c t)(d:qZb):yu qji qT6:=Vk (QfN a b d) λ_ _ _=>Qf4
#print"-"
section
variable{prog:Program}{w:World}{A:Around}{E:Õ}{R:oF}{s:Shared}
def UP(I:Nat->Ω)
  (q:∀n s,I n s->wpAny Ņ A (pyNext it) (λr d=>match r with
   |none=>R qna d
   | Û v=>wpAny Ņ A (letOwnedTupleGo target it v) (λ_ b=>wpAny Ņ A (assign target env v) (λ_ i=>
     wpAny Ņ A (forIn t true λc r=>if r=true then do let ok <-isTrue c env (u5 c);pure jPh else jec) (λok a=>
      if ok=true then wpAny Ņ A (u5 B) (λx g=>
       CH A (call (.builtin "list.append") [C,x]) (λ_ f=>∃m,m<n/\I m f) jO g) jO a
      else∃m,m<n/\I m a) jO i) jO b) jO d) jO s)
  (n:Nat) (h:I n s) :
  Hd (.compLoop jOa 0 it C env) R s:=by
 refine codeAny_loop rfl I (Ϗ n s D) n h;apply wpAny _ A ((compTurn jOa 0 it C env).onRaise (λx=>do noteFrame x env;theTreesLotGoes x)) _ _ s;refine wpAny_noted ?_;rw[compTurn_list];show Ë (wpAny_standAt (yt (N7 (q n s D) (Ϗ r d l) xz)));cases r with
 |none=>show Nl l
 | some v=>
  show Ë (N7 l (λ_ b p=>?_) xz);show Ļ (N7 p (λ_ i z=>Nc (N7 z (λok a j=>?_) xz)) xz);cases ok with
  |false=>show ϩ (yV j)
  |true=>
   show Nc (yt (N7 j (λx g y=>Nc (N7 y (λ_ f u=>Nl (Td (yV u))) xz)) xz))
#print"-"
def sz{h:Heap}(e:uA)(a:h.objs.size<=n):¬b=n:=λz=>by
 let c:@LT.lt Nat instLTNat b h.objs.size:=NL e;subst z;show N2 _ (Ng c a)
noncomputable abbrev blk(X:Cx)(a:Scope)(b:Bz)(Nb:Á)(s₀:Shared)(H₀:Hp)(C:Addr)(ex:Ŷ)(pn:Ö):Cx:=
 { X with N:=Nb,s₀:=s₀,H₀:=H₀,env:=compEnvC a b C X.env,outer:=X.stack,stack:=X.stack,ex:=ex,fn:=λ_=>false,pn:=pn,xe:=mB }
structure BlkOk(X:Cx)(scope:Scope)(cl:Bz)(Nb:Á)(cp:ϙ):Prop where
 clos:closureFor scope X.env=pure cl
 cell:∀y∈scope.names,zOc
 kind:scope.kind=.function
 names:∀y∈scope.names,y.2=.local->scope.names.lookup y.1=yT
 sub:∀x c,zG1->jK
 has:∀x,jtd->∃c,zG1
 len:zCb
 cap:∀(i j:Nat) (x:Str),qpe->Nb[i]?=sO x->X.N[j]?=sO x/\Tu/\jt9/\jtd
abbrev WQ(cp:ϙ)(σ:L2.St):L2.St:=jh0
abbrev Qf0(j:TI)(cp:ϙ)(g:TG)(tt:TT)(te:TE):TE:=λf H Q=>j f H λJ H1=>∃W:Nat->Nat->À V->L2.St->Ű,(∃m,W 0 m [] (WQ cp f) H1)/\∀i m a e H,W i m a e H ->
 (bq/\∀D,H D=nO->Q AE jd8) \/
 (zbf/\∀x h,zbg h->g x e h λc H2=>tt c H2 λb H3=>if pB then te c H3 λv l=>zE7/\∃d,d<m/\W (i+1) d (a++[v]) c l else∃d,d<m/\W (i+1) d a c H3)
def Inv.track(I:Ĝ d)(g:H D=nO)(h0:X.s₀.heap.objs.size<=D)(m:X.env.locals≠D)(l:∀x c,jK->c≠D)
  (j:∀p∈X.pn++d,p.1≠D) (ob:ObjOk X.prog X.w (ć D o) s.heap D o):ŉ d σ (ć D o) s where
 ok:=I.ok
 os:=I.os
 bare:=I.bare
 base:={
  keep:=I.base.keep
  slot:=I.base.slot
  free:=λb q e n nx=>by
   let:b≠D:=sz e h0;rw[Qp this];show I.base.free b q e n nx
  there:=I.base.there
  tups:=λb h e=>by
   let q:=I.base.tups b h e;show iP z q
  frzs:=λb q u e=>by
   let z:=I.base.frzs b q u e;show iP y z
  tbls:=λb i e=>by
   let#[more,q]:=I.base.tbls b i e
   show#[more,jm qbc q] }
 loc:=I.loc
 cell:=I.cell
 free:=by rw[Qp m];show I.free
 freeC:=λx c e=>by rw[Qp (l x c e)];show zXc e
 pin:=λp f=>by
  let#[a,b,c]:=SR f;show#[a,jm (j p f) b,c]
 hok:=λa u e=>by
  show Ā z a D
  ·subst z;rw[ZL]at e;cases e;show ob
  ·rw[Qp z]at e;refine(I.hok a u e).stay (ja7 q) (qa b q) (Ϗ b h q)
   ·show iP y q
   ·show iP y q
 len:=I.len
section
variable{X:Cx}{elt tg iter:Expr}{ifs:é}{scope:Scope}{pos:Pos}{cl:Bz}{Nb:Á}{cp:ϙ}{wi:TI}{g:TG}{tt:TT}{te:TE}
def Cx.Ok.blk(B:Bq)(I:Ĝ d)(f:∀b∈l,pJ d H)(i:∀b∈l,zy3)(j:qt0) :
  (blk X scope cl Nb s H C l p).Ok where
 mod:=I.ok.mod
 kind:=B.kind
 glob:=I.ok.glob
 blt:=I.ok.blt
 above:=j
 inj:=λx y c n m=>I.ok.inj x y c (B.sub x c n) (B.sub y c m)
 has:=λx h=>B.has x h
 cab:=λx c h=>B6 h Ç
 hd:=I.ok.hd
 frames:=I.ok.frames
 stk:=jv
 exf:=ş b a #[λz=>by let:=i b a;show(ut z,û j qGh),jV0 f a]
 bs:=I.bs
 bsz:=qC7
 noex:=λb o e a=>by
  rcases(f b a).2.2.2.1 with z|z
  ·show I.ok.noex b o e z
  ·show sz e (Nd I.ok.bsz z) rfl
 exfs:=λb a z=>by
  let:=I.stkSub b z
  rcases NI.mp this with q|q
  ·show(f b a).2.1 q
  ·show(f b a).2.2.1 q
 funs:=I.stack
 frf:=λb a=>I.stkFree b a
def QcT{cp:ϙ}{σ:L2.St}{i:Nat}{v:V}(e:(WQ cp σ)[i]?=sO qR):∃j,qpe/\σ[j]?=sO qR:=by
 unfold WQ at e;rw[NB]at e;show ϱ o b a e;cases o with
 |none=>cases a
 |some j=>
  show(pr j b,zQ0 a)
  ·rename_i u hu;rw[hu,a]
  ·cases a
def Inv.blk{H:Hp}{C:Addr}{O:Ŷ}{tk:Nat}(B:Bq)(I:Ĝ f)(Q:∀b∈O,pJ f H)(G:∀b∈O,zy3)
  (L:qt0) (D:h'.Ns C m) (y:∀b o,PX):Inv (zqg s H O (X.pn++f)) [] qT7 H { s with heap:=h',toks:=tk } where
 ok:=Cx.Ok.blk B I Q G L
 os:=rfl
 bare:=I.bare
 base:=Un.kept y
 loc:=by
  refine#[m,D,λi x v hN e hv=>?_];let#[j,Z,Y]:=QcT e;let#[U,t,E,w]:=B.cap i j x Z hN;let#[m0,n0,lk]:=I.loc;let#[u,r,l]:=lk j x v U Y t;show pr u r
  rcases l with⟨h,_⟩|⟨_,c,S,n⟩
  ·show qZc E h
  ·show jic (lI w);let#[c',A]:=B.has x w;let:=B.sub x c' A;show Bv S
   show#[c,A,by
    show yK o N M n #[o,Ō y N,M]]
 cell:=λx c e=>by
  let#[v,o,N,M]:=kZ I zya;show#[v,o,Ō y N,M]
 free:=zg5 I L
 freeC:=λx c e=>zXc zya
 pin:=λp P=>by
  rw[Eb]at P;let#[a,b,c,d,e]:=SR P;refine#[Ō y a,b,æ z,æ z,e]
  ·let:=NL a;show(ut z,û L qGh)
  ·show BD (I.stkSub _ z) q
   ·show c q
   ·show d q
 hok:=I.hok.kept y
 len:=by unfold WQ;rw[ND];show B.len
abbrev Qpi(X:Cx)(a:Ö)(σ:L2.St)(use:Option (Value->Sem Unit))(Q:VK)(Q':Õ):Prop:=
 ∀(D C:Addr) (d:Hp) (b:Shared) (m:ý),ŉ a σ d b->b.heap.Ns C m->d C=nO->¬C=X.env.locals->X.s₀.heap.objs.size<=C->(∀x c,jK->c≠C)->(∀p∈X.pn++a,p.1≠C)->Q AE d ->
  jI0 b
def GW(hc:ţ)(B:Bq)(hi:rW)(hg:∀P U C ex pn,PG ij tg g)
  (ht:∀P U C ex pn,∀(j:Ö) (s:Shared) (τ:L2.St) (H:Hp) (Q:Ay),Inv ij j τ H s->tt τ H Q ->
   xQ zqe (TP ij j τ Q) jO)
  (he:∀P U C ex pn,PE ij elt te) (hs:yC)
  (I:Ĝ j) (h:Qf0 wi cp g tt te σ H Q) (a3:Qpi X j σ use Q Q') :
  ĕ (comprehension xp scope X.env bm qJi false zDb use) Q' s:=by
 refine wpAny_comprehension_free (use:=use) rfl hs B.clos B.kind B.names (N7 (hi j s σ H _ I h) (λxv bj Z=>N7 Z (λbn f a0=>?_) xx) xx);let#[it,fp,tn,J,H2,rfl,I2,T,aq,f2,W,#[m0,w0],ax]:=a0
 let as:∀b∈fp,b<f.heap.objs.size:=λb E=>by
  let#[o,e,_]:=T.obj _ _ aq b E;show NL e
 refine Ez (wpAny_newFunctionEnv B.cell (by intro y hy;simp at hy) (Ϗ Z N G) B.kind);dsimp only at N G ⊢;generalize au:f.heap.push { cls:=Ι,dict:=nO,data:=jpi }=G2 at N G ⊢;let al:G2.objs.size=f.heap.objs.size+1:=by rw[<-au,F4]
 generalize bd:G2.objs.size=C at N G ⊢;rw[bd]at al;let ab:qt3:=BT ŗ qJj
 let ai:f.heap.objs.size≠C:=by show NS (Ng uh qJj)
 let old:∀b o,ϳ f b=sO o->jj Z=sO o:=λb o e=>G.extBut b o (sz e ab) (Nt _ (au▸ŕ e));let am:rO Z f=sO { cls:=Ι,data:=jpi }:=G.extBut _ _ ai (Nt _ (au▸ų));generalize hD:f.heap.objs.size=D at am ai ab al ⊢;let m:f.heap.objs.size<=D:=Ny hD;let O:qt3:=Nd m ab;let I3:=Inv.blk (tk:=jp2) B I2 f2 as (C:=C) (Nd (Ny hD) ab) N old;let an:D∉fp:=λz=>N2 _ (Ng (as D z) m);let a4:C∉fp:=λz=>N2 _ (Ng (as C z) O)
 let aw:∀x c,zG1->c≠D:=λx c e z=>by
  let#[v,o,h3,_]:=kZ I2 zya;show sz h3 m z
 let ao:∀p∈X.pn++j,p.1≠D:=qpf m;let a6:∀p∈X.pn++j,p.1≠C:=qpf O
 let bf:D∉zO1:=λz=>by
  show BD qGi  q
  ·show zx6 q D m
  ·show I2.nofs m q
 let aj:∀{t:Hp} {pl:Ö},Rx->(∀p∈pl,p.1=D)->∀b∈fp,Qbj xK pl t b:=λ{t pl} hn ba b E=>
  #[hn b E,λ(z:b=C)=>a4 (z▸E),λz=>by
   show BD qGi  q
   ·show(f2 b E).2.1 q
   ·show(f2 b E).2.2.1 q,Ø E,jV0 f2 E,λp S z=>by
   show ů S q
   ·show(f2 b E).2.2.2.2.2 p q z
   ·rw[ba p q]at z;show an (z▸E)]
 let bo:∀{t:Hp},Rx->∀b∈fp,pJ j t:=qjj E
 let fin:∀{τ:L2.St} {t:Hp} {M:Shared} {L:À V} {l:È} {n:Nat} {mC:ý},dA τ t M->t D=nO->zqa=zH l n->Vals L l->zDa->M.heap.Ns C mC ->
   (∀D,t D=nO->Q AE jre)->jI0 M:=by
  intro τ t M L l n mC Ib ak av r hz bb q;let Ie:ŉ j σ t M:=I2.call' (ch:=fp) (Ib.os) Ib.base Ib.hok Ib.bare λb E=>jQc f2 E
  let a1:X.s₀.heap.objs.size<=f.heap.objs.size:=I2.sz
  let It:ŉ j σ jre M:=Inv.track Ie ak (Nd a1 m) (λz=>zx6 z D m) (λx c e z=>by
   show jte
   show sz h3 m z) ao #[hz,l,n,r,av]
  show a3 D C _ M mC It bb (by rw[Qp (EO ai)];show Ib.free) (λz=>zx6 z C O) (Nd a1 O) (λx c e z=>by
   show jte
   show sz h3 O z) a6 (q D ak)
 let loop:∀af:Shared,af={ f with heap:=Z,toks:=jp2 } ->
   codeAny yA X.A (.compLoop xp 0 HC AE jEb)
    (compPost yA X.A X.xe use Q' AE C) af:=by
  rintro af rfl
  refine UP (λn M=>∃i τ t L l k,dA τ t M/\kR M/\Rx/\t D=nO/\zqa=sO { cls:=Ι,data:=.seq (l:È).toArray k }/\Vals L l/\zDa/\W i n L τ t) ?_ m0
   #[0,WQ cp σ,H2,[],[],_,I3,T.keep _ _ _ aq qk7,qU E f2,zg5 I2 m,am,.nil,NN _,w0]
  rintro n s3 ⟨i,τ,H3,L,l,k,Ib,ay,a5,ak,av,r3,ar,w3⟩
  let az:∀{Y:L2.St} {t:Hp} {M:Shared},dA Y t M->t D=nO->zgj ->
    jMa:=λ{Y t M} I' hn ho=>I'.pins_of λp S=>by
   rw[Nq]at S;show ϑ S #[ho,hn,ai,bf,by intro v;simp]
  let a7:=az Ib ak av;let aa:∀p∈[(D,({ cls:=Ι,data:=i8 l k }:Obj))],p.1=D:=λp S=>by rw[Nq]at S;subst S;rfl
  let a8:∀{Y:L2.St} {t:Hp} {M:Shared},jMa->zgj/\t D=nO:=λI'=>by
   show jw6 (D,_) (qc zKe)
  rcases ax i n L τ H3 w3 with⟨stop,qn⟩|⟨go,step⟩
  ·refine N7 (T.done xK rfl rfl rfl hc i _ s3 τ H3 jO a7 qT8 ay stop) (Ϗ r s4 #[hr,I4]) AH;subst hr;let#[o4,n4]:=a8 I4;let#[m4,a9,_]:=I4.loc;let bi:dA τ H3 s4:=I4.pins_of jed
   show fin bi n4 o4 r3 ar a9 qn
  ·refine N7 (T.item xK rfl rfl rfl hc i _ s3 τ H3 jO a7 qT8 ay go) (Ϗ r s4 #[u,hr,h4]) AH;subst hr;refine N7 h4 (λ_ s5 z1=>?_) AH;let#[x,H5,I5,r5,y5,ap,be]:=z1;let bh:=I5.pinned (aj be aa) (T.obj _ _ ap);refine N7 (hg f H2 C fp wA _ s5 τ H5 x u _ bh r5 qC2) (λ_ s6 z0=>?_) AH;let#[ae,H6,I6,q6]:=z0;refine N7 (ht f H2 C fp wA _ s6 ae H6 _ I6 q6) (λok s7 #[H7,I7,q7]=>?_) AH
   let ah:∀{Y:L2.St} {t:Hp} {M:Shared},Inv xK ([jl0]++Ua fp s5.heap) Y t M->tn (i+1) M.heap/\Rx/\zgj/\t D=nO:=λ{Y t M} I'=>by
    refine#[T.keep _ _ _ ap (jA4 E I'),Ò b E,?_]
    ·let#[o,e,d]:=T.obj _ _ ap b E;show(I'.pin (b,o) (zA5 E)).2.1
    ·show jw6 jl0 (qc (NT _ zKe))
   cases ok with
   |false=>
    rw[Í N8]at q7 ⊢;let#[m',hm,w7]:=q7;let#[t7,f7,o7,n7]:=ah I7;show#[m',hm,i+1,ae,H7,L,l,k,I7.pins_of (λp S=>jy S),t7,f7,n7,o7,r3,ar,w7]
   | true=>
    rw[Ĳ]at q7 ⊢;refine N7 (he f H2 C fp wA _ s7 ae H7 _ I7 q7) (Ϗ y s8 z1) AH;let#[v8,H8,I8,r8,bc,m',hm,w8]:=z1;let#[t8,f8,o8,n8]:=ah I8;show ű a2 r3;refine Fg IH (ϴ o8) O8 (OR _ _) (Yar D l.toArray k y (by rw[Nz];show Nd (ħ a2) ar)) (lI o8);let q:=YaA o8 (·.push y);let hf:l.toArray.push y=(l++[y]).toArray:=Ê
    rw[hf]at q;let bg:Inv xK [] ae H8 s8:=I8.pins_of jed
    let I9:Inv xK [] ae H8 { s8 with heap:=s8.heap.update D (Obj.mapSeq (·.push y)),toks:=s8.toks }:=
     bg.turned (it:=D) (λb o E e=>(EM s8.heap (Obj.mapSeq (·.push y)) (EO E)).trans e) n8 ai (õ m) (λx c e=>aw x c e) λp S=>by
      rw[Eb]at S;show ao p S
    refine#[m',hm,i+1,ae,H8,L++[v8],l++[y],_,I9,T.keep _ _ _ t8 (λb E o e=>(EM s8.heap (Obj.mapSeq (·.push y)) (λ(z:D=b)=>an (z▸E))).trans e),f8,n8,q,r3.append (Mb r8),by rw[NA,N1];show bc,w8]
 show codeAny_compStart_list qK0 (T.self _ 0 _ _ _ (T.keep _ _ _ aq qk7) qK0)
def Qcr(M:ţ)(B:Bq)(hi:rW)(G:∀a d C l j,PG zu tg g)
  (v:∀a d C l j,∀(f:Ö) (s:Shared) (n:L2.St) (H:Hp) (Q:Ay),Inv zu f n H s->tt n H Q ->
   xQ zqe (TP zu f n Q) jO)
  (L:∀a d C l j,PE zu elt te) (y:yC:=by intro _;rfl) :
  ď xp qpg:=by
 show Đ f Z Q;rw[eval_ListComp];refine GW M B hi G v L y I h λD C Y u m U p E O P i z q=>#[m,p,Ò S t]
 show#[Ã D,Y,U.turned (t':=u.toks) (it:=C) (λb o N e=>t.extBut b o N e) E O (õ P) i z,rfl,q]
def Qcp(hN:X.N.Nodup)(S:Ν)(hx:jl)(hf:jg)(M:swapsWith xp (sO RJ) u.line X.env=zTf)
  (hc:ţ) (B:Bq) (hi:rW) (hg:∀d f C t p,PG oJ tg g)
  (ht:∀d f C t p,∀(l:Ö) (s:Shared) (G:L2.St) (H:Hp) (Q:Ay),Inv oJ l G H s->tt G H Q ->
   xQ zqe (TP oJ l G Q) jO)
  (he:∀d f C t p,PE oJ elt te) (hs:yC:=by intro _;rfl) :
  PS X (.Assign [pk j] xp u) (QpI qpg zc7):=by
 show Đ l σ D;rw[exec_Assign_Name_used _ _ _ _ M];show Ë (wpAny_standAt zK8);apply wpAny _ X.A (do let _ <-comprehension xp scope X.env _ qJi false zDb (sO jWb)) _ _ s;show Ļ (N7 (GW (use:=sO jWb) (Q':=λ_ E=>SP X l D .next E) hc B hi hg ht he hs I h λY C H' E m I' O hn U h0 n hp q=>?_) (λ_ E hq=>Nl (Nl hq)) xx);apply wpAny _ X.A (assign RJ X.env (Ġ Y)) _ _ E;refine wpAny_assign_Name (W7 (v:=Ã Y) I' hN S hx rfl (Ϗ s5 I5 #[a,Z,y]) hf)
 let P:C≠a:=λz=>by
  show υ y
  ·show U (Ć z y)
  ·show n x a y z.symm
 show#[m,O.sameBut Z P,λaa L=>#[_,H',I5.turned (t':=s5.toks) (it:=C) (λb o hb e=>L.extBut b o hb e) hn U (õ h0) n hp,q]]
#print"-"
abbrev IterR(X:Cx)(c:Expr)(r:V->jX1):Prop:=
 ∀(a:Ö) (s:Shared) (b:L2.St) (H:Hp) (x:V) (v:Value) (C:d0),jF->yd->r x H C->ĕ (Af v) (PIE X a b c C) s
section
variable{X:Cx}{tg:Expr}
def IterR.or(h:Mx r)(h':Mx d):Mx (λx H C=>r x H C\/d x H C):=λa s b H x v C I c q=>by
 show υ q
 ·show h a s b H x v C I c q
 ·show h' a s b H x v C I c q
def it_list:Mx (λx H C=>∃a,yy/\(∃xs,tq)/\C (Itl X.K a) H):=by
 intro d c l H1 x v C I1 f g;show juj g f;let#[h,n,p,r]:=I1.list i;refine Lz p.isList ?_;refine#[c.heap.objs.size,TZ c,_,_,H1,rfl,wq c,QcC a _,pX,Ò b j,q];show jy5
def QmJ:Mx (λx H C=>∃a,yy/\(∃xs,tr)/\C (Itt X.K a) H):=by
 intro f c l H1 x v C I1 g h;show juj h g;let#[d,n,p,r]:=I1.tuple i;refine wpAny_pyIter_tuple (zta c a d p) ?_;refine#[c.heap.objs.size,TZ c,_,_,H1,rfl,wq c,Qa5 a _,pX,Ò b j,q];show jy5
abbrev Its(x:Str):It:=#[λi _=>zMb,λi H v a=>a=H/\∃c,zTg=sO c/\v=Æ f4,λi _=>zKf]
abbrev WD(x:Str):À W:=x.cps.toList.map λc=>Æ f4
def Qel{P:Program}{w:World}{K:Nf}{tg:Expr}(it:Addr)(x:Str)(ty:String)(t:Tok)(f:qla\/qA2) :
  Turn P w K tg (Its x) [it] it (λi h=>i<=x.cps.size/\h.IsStrIter it ty x t i) where
 mem:=Ê
 obj:=λi h st b j=>by
  show zgg
 keep:=λi h l st k=>#[st.1,let#[o,ho,r]:=st.2;#[o,k it Ç o ho,r]]
 item:=by
  intro X N hw O M i a s L H E I q st p;show jcg;let g:zMb:=p;let m:zTg=sO (x.cps[i]'g):=NW g
  let fin:∀l:Heap,l.IsStrIter it ty x t (i+1)->qGj l->∃u,sO (Value.str qte s.toks)=sO u/\wpAny yA X.A jU9 (λ_ U=>∃y S,ŉ a L S U/\ô y/\(Its x).yld i H y S/\(i+1<=x.cps.size/\U.heap.IsStrIter it ty x t (i+1))/\∀b∈[it],S b=nO) E { s with heap:=l,toks:=BQ }:=λl n Z=>by
   let I1:Inv X a L H { s with heap:=l,toks:=BQ }:=I.turned (xk o j e Z) G f1 D C B;show TY n;refine#[_,rfl,Uw (s:={ s with heap:=l,toks:=BQ }) e c d (by rcases f with z|z<;>rw[z]<;>decide) #[Æ qte,H,I1,Ħ,#[rfl,_,m,rfl],ĺ p n,qU j q]]
  show gW
  ·subst z;show wpAny_pyNext_ascii_item st m fin
  ·subst z;show wpAny_pyNext_wide_item st m fin
 done:=by
  intro X N hw O M i a s L H E I q st p;show jcg;let m:zTg=nO:=by let:zKf:=p;simp;show this
  show gW
  ·subst z;show wpAny_pyNext_ascii_end (u6 M) st m (ş l Q #[rfl,I.turned (t':=s.toks) (ml j Q) G f1 D C B])
  ·subst z;show wpAny_pyNext_wide_end (u6 M) st m (ş l Q #[rfl,I.turned (t':=s.toks) (ml j Q) G f1 D C B])
 self:=λ_ _ _ _ _ st h=>by
  show gW
  ·subst z;show wpAny_pyIter_striter_ascii st.2 h
  ·subst z;show wpAny_pyIter_striter_wide st.2 h
def Qky:Mx (λx H C=>∃y,x=Æ y/\C (Its y) H):=by
 intro c a g H1 x v C I1 h i;show(kE y q i,ü h)
 let fin:∀ty,(qla\/qA2)->PIE X c g tg C (qS0 a) { a with heap:=a.heap.push { cls:=.type ty,data:=.fields #[.str y t,zOd,] } }:=λty d=>by
  refine#[a.heap.objs.size,TZ a,_,_,H1,rfl,wq a,Qel _ y ty t d,#[NN _,_,ų,rfl,rfl],Ò b j,q];show zji a j
 cases f:y.cps.all (·<128)
 ·show wpAny_pyIter_wide f (fin _ CK)
 ·show wpAny_pyIter_ascii f (fin _ BL)
#print"-"
set_option backward.eqns.nonrecursive false in
abbrev VE(h:MH):W->Option (À W×qW)
 |Ĩ=>zR4
 |ķ=>zR4
 |yk=>zR4
 |Æ x=>sO (WD x,nO)
 |Ã n=>match h[n]? with|AB=>sO (ws,sO zOb)|_=>nO
 |_=>nO
abbrev Qv(m:ME):MI:=λa h=>(m a h).bind λp=>(VE p.2 p.1).map λq=>(q.1,q.2,p.2)
section
variable{K:Nf}{R:Rn}
def WT(d:tB)(r:Κ):ItOk K R qY8 ws nO where
 go:=λi w j h H x c _ e=>by
  show(zXe g r,#[xs,v,jLg,g])
 yld:=λi w j h H x s e c _ q l=>by
  show(jt m l,jA6);let:=m xs (Zf (jCd c e) d);show ji7
 stop:=λi j h H x c _ n=>#[xs,jLg,AX r n]
def QeO(d:qJc)(r:Κ):ItOk K R qY9 ws nO where
 go:=λi w j h H x c _ e=>by
  show(zXe g r,#[xs,v,jLh,g])
 yld:=λi w j h H x s e c _ q l=>by
  show(jt m l,jA6);let:=m xs (JA (jCd c e) d);show ji7
 stop:=λi j h H x c _ n=>#[xs,jLh,AX r n]
def Qe1(g:n<R.N):ItOk K R (Itl K œ) ws (sO zOb) where
 go:=λi w o h H x b d e=>by
  show(zm0,zXe m f);rw[x.ρ n g]at a;show#[c,v,q4 a,m]
 yld:=λi w o h H x t e b d s p=>by
  show(jt q p,zm0,ν v m r f s);rw[e.ρ n g]at a;let:=q c (SqL.of a);show(Bv m,#[o,BH,b,r])
 stop:=λi o h H x b d j=>by
  show zm0;rw[x.ρ n g]at a;show#[c,q4 a,AX f j]
def Qe7:ItOk K R (Its x) (WD x) nO where
 go:=λi w b h H _ _ _ e=>by
  let:=ú e;apply zMb;simpa[WD]using this
 yld:=λi w b h H v l e d _ a f=>by
  let#[rfl,c,j,rfl]:=f;unfold WD at a;rw[NB,N5,j]at a;show ß a #[b,BH,d,Rw.str _]
 stop:=λi b h H _ _ _ g=>by
  apply zKf;simpa[WD]using g
def YA{lo:Int}:ItOk K R qRi ((List.range n).map jV7) nO where
 go:=λi w b h H _ _ _ e=>by
  let:=ú e;apply i<n;show uX
 yld:=λi w b h H v m e d _ c f=>by
  show cM f;rw[NB]at c;show(ϱ j a l c,jJ0,ß l #[b,BH,d,zW8])
 stop:=λi b h H _ _ _ g=>by
  apply n<=i;show yq g
#print"-"
section
variable{X:Cx}{tg a b c:Expr}{ma:ME}{ms:MA}{pos p:Pos}
def QjC(Q:χ):PF a (Qv ma):=by
 intro j s D H C I q;let#[R,t,h,items,E,h',L,st,e,k]:=q;show ϔ w U e1 e2 e;let#[#[O,sr],i,Z]:=yr e2;cases Z;refine thn (Q j s D H _ I #[R,t,h,w,U,L,st,e1,Ϻ v m d g]) λv G #[x,H1,I1,M,N]=>((it_list.or QmJ).or Qky) j G D H1 x v C I1 M N;cases w with
 |tup z=>
  cases i;show(Cc u B S d g,ż g,ň r f Y l o g);cases Y;show ø (ϭ #[_,rfl,ĺ u B,BZ m d (QeO l o)])
 |lst z=>
  show(jo8,ø (jb #[_,rfl,#[f,SqL.of (d.sub _ _ l)],BZ m d (WT (SqL.of l) o)]))
 |frz z=>
  show(jo8,ø (jb #[_,rfl,#[f,Zf d.sub l],BZ m d (WT l o)]))
 |str y=>
  cases i;rw[g.str_eq];show Ũ #[y,rfl,k R1 H1 _ m d Qe7]
 |ref n=>
  simp only[VE]at i;split at i
  ·show(BW z P i,kn A u B S d g P,ø (jb #[_,rfl,#[u,q4 B],BZ m d (Qe1 A)]))
  ·cases i
 |_=>cases i
abbrev ZJ(lo:Int)(n:Nat):À W:=(List.range n).map jV7
abbrev QaM(ms:MA):MI:=λd h=>(ms d h).bind λp=>match p.1 with
 |[Ä j]=>if jVg then sO (ZJ 0 j.toNat,nO,p.2)else nO
 |_=>nO
abbrev Qj4(ms:MA):MI:=λd h=>(ms d h).bind λp=>match p.1 with
 |ox=>if qGa/\je1 then sO (ZJ i zO4,nO,p.2)else nO
 |_=>nO
def QlE(z:Mo)(y:HW)(A:zKd)(x:xP:=by rfl):PF jA2 (QaM ms):=
 WS (QdN z y A x) λE H C o=>by
  let#[R,f,h,items,t,I,u,st,e,k]:=o;show jC r B D d e #[R,f,h,r,B,u,st,D,Ϻ G q g i];split at d
  ·show gO j m;split at d
   ·show(Β n d,ϕ i v s w l,Ϙ l);rw[w.int_eq];show#[j,rfl,n.1,n.2,k R1 H1 _ q g YA]
   ·cases d
  ·cases d
def Qkf(E:Mo)(D:HW)(I:PMA X [a,b] ms)(B:jGg:=by rfl)(l:jpd:=by rfl):PF jA3 (Qj4 ms):=
 WS (Qcd E D I B l) λN H C r=>by
  let#[R,f,h,items,x,Q,y,st,e,k]:=r;show jC t L M d e #[R,f,h,t,L,y,st,M,Ϻ O s g m];split at d
  ·rename_i i j q;show wV q;split at d
   ·show(Β G d,ϕ m v w A o,ϕ o P u z n,Ϙ n);rw[A.int_eq,z.int_eq];show#[i,j,rfl,G,k R1 H1 _ s g YA]
   ·cases d
  ·cases d
#print"-"
abbrev QgH(cp:ϙ)(σ:MSt):MSt:=jh0
def Rst.cap{K:Nf}(s:Rst K R b σ)(cp:ϙ):Rst K R (QgH cp b) qT7:=by
 unfold QgH WQ;refine#[Ê,Ï i w e];rw[NB]at e ⊢;show ϱ o f a e;rw[f];cases o with
 |none=>cases a
 |some j=>
  show zQ0 a
  ·rename_i u hu;subst a;let#[v,d,c]:=s.2 j w hu;show#[v,yh d,c]
  ·cases a
open Classical in
set_option backward.eqns.deepRecursiveSplit false in
abbrev Jc(fin:Ū)(items:À W)(src:qW)(b:MG)(mt:MT)(me:ME):À W->À W->MSt->xF
 |[],a,_,h=>if qG then fin a h else nO
 | w::r,a,d,h=>if qG then(b w d h).bind λc=>(mt c h).bind λq=>match q.1 with
   |true=>(me c q.2).bind λv=>if zE7 then Jc fin items src b mt me r (a++[v.1]) c v.2 else nO
   |false=>Jc fin items src b mt me r a c q.2
  else nO
abbrev Zz(fin:Ū)(mi:MI)(cp:ϙ)(b:MG)(mt:MT)(me:ME):ME:=λa h=>(mi a h).bind λp=>Jc fin p.1 p.2.1 b mt me p.1 [] (QgH cp a) p.2.2
abbrev Uo:MT:=P9 zca
abbrev XN(a:À W)(h:MH):Ü:=sO (Î a,h)
abbrev Qp9(a:À W)(h:MH):Ü:=sO (İ h,h++[Î a])
abbrev Ym(K:Nf)(fin:Ū):Prop:=∀R h H b a w d D,Ą->q8 b a->fin b h=ā w d->H D=nO->∃c,Ϩ c/\Rh K c d jd8/\Rw K c w AE
def Qg8{K:Nf}:Ym K XN:=λR h H c a w d D b r e hD=>by
 cases e;show b.lstI hD r
def QjE{K:Nf}:Ym K Qp9:=λR h H d a w f D c r e hD=>by
 cases e;show c.new hD (ş g b #[a,rfl,fv b r])
section
variable{X:Cx}{elt tg iter c:Expr}{scope:Scope}{pos:Pos}{cl:Bz}{Nb:Á}{cp:ϙ}{mi:MI}{b:MG}{mt:MT}{me:ME}{fin:Ū}
def Y9{K:Nf}(hf:Ym K fin)(q:p4 zzd):Qf0 qT5 cp qZa (tIT K mt) (tI K me) σ H Q:=by
 let#[R,B,h,w,h',rh,s,e,k]:=q;show jrg E;refine#[R,B,h,items,E,h1,rh,s,e1,λR1 H1 J x1 Z it=>?_];refine#[λi n z τ H=>qCf/\∃R2 g o a,zT9/\Rh K R2 o H/\Rst K R2 g τ/\Rws K R2 a z/\Jc fin items E b mt me qCg a g o=ā w h'/\Mh R2 h',#[items.length,Ê,R1,QgH cp B,h1,[],BH,Z,(s.mono x1).cap cp,Rws.nil,ĝ e2,k.ext x1],?_]
 rintro i n z τ H2 ⟨ae,R2,g,o,a,C,m,s2,N,f,k2⟩
 by_cases I:qJh
 ·obtain⟨y,O⟩:∃y,zG0=sO y:=#[items[i],Nj I]
  let hd:mH=y::qCh:=by
   rw[ED I];rw[Nj I]at O;cases O;rfl
  show qlb
  ·rename_i P;show(ļ d e4 e5 f,ϔ t h3 e6 e7 e5);show qd #[it.go i y R2 o H2 C m P O,λx H' aa=>?_];let#[R3,l,r,p]:=it.yld i y R2 o H2 x H' C m P O aa;refine#[R3,g,o,y,d,r,s2.mono l,p,e4,λR4 H4 ab A Y M=>?_];refine#[R4,d,o,t,h3,Y,M,e6,Ę R5 H5 j G];cases t with
   |true=>
    show(ϔ v h4 e8 S e7,Sn S)
    ·rename_i hz;refine QgR #[R5,d,h3,v,h4,G,M.mono j,e8,λR6 H6 u L U rv=>#[by show(B5 N,hz),n-1,Ñ,Ñ,R6,d,h4,a++[v],C.trans zkh,U,M.mono (Ć j L),?_,S,k2.ext zkh]];show Rws.append (Rws.mono zkh _ _ N) (Rws.cons rv Rws.nil)
    ·cases S
   |false=>
    show Qgq #[n-1,Ñ,Ñ,R5,d,h3,a,C.trans (yG l A j),G,M.mono j,fv (yG l A j) N,e7,k2.ext (yG l A j)]
  ·cases f
 ·let hd:mH=[]:=EN (ł I);show qlb
  ·rename_i P;refine Ø #[it.stop i R2 o H2 C m P (ł I),λD hD=>?_];let#[R3,l,r,p]:=hf R2 o H2 a z w h' D m N f hD;show k2 R3 _ _ l r p
  ·cases f
def Qfc(p:k8)(u:ţ)(B:Bq)(hi:TF)(o:∀a d C i f,lJ (xu i f))
  (r:∀a d C i f,zX i f) (n:yC:=by intro _;rfl) :
  ì zo7 qk8:=
 QD (Qcr (g:=za4) (te:=za5) (tt:=tIT X.K Uo) u B hi o (λa d C i f j s v H Q I q=>wpAny_tests_nil (by
  let#[R,l,h,t,z,m,st,e,k]:=q;show ß e #[H,I,k R H Θ m])) r n) λ_ _ _ q=>Y9 p q
def Qfd(n:k8)(p:ţ)(B:Bq)(hi:TF)(m:∀a d C f e,lJ jef)
  (j:∀a d C f e,PMT jef c mt)
  (o:∀a d C f e,zX f e) (l:yC:=by intro _;rfl) :
  ì zo8 zzd:=
 QD (Qcr (g:=za4) (te:=za5) (tt:=tIT X.K mt) p B hi m (λa d C f e h s i H Q I q=>wpAny_tests_one (j a d C f e h s i H Q I q)) o l) λ_ _ _ q=>Y9 n q
#print"-"
open PySem.SeqAt
mutual
abbrev eqW:W->P0
 |.non,.non=>true
 |.bl a,.bl b=>a==b
 |.bl a,Ä b=>jUb
 |Ä a,.bl b=>jUc
 |Ä a,Ä b=>a==b
 |Æ a,Æ b=>a==b
 |Ì a,Ì b=>zf4
 |Î a,Î b=>zf4
 |_,_=>false
abbrev Ki:À W->zna
 |[],[]=>true
 |x::xs,y::ys=>ze9&&Ki xs ys
 |_,_=>false
end
set_option backward.eqns.deepRecursiveSplit false in
abbrev ZY(f:b->Υ a):À b->sQ a
 |[]=>sO []
 |x::xs=>(f x).bind λy=>(ZY f xs).map (y::·)
set_option backward.eqns.deepRecursiveSplit false in
abbrev drf(h:MH):Nat->W->ê
 |0,_=>nO
 |n+1,w=>match w with
  |Ĩ=>(ZY dE ws).map .tup
  |ķ=>zwh
  |yk=>zwh
  |Ã k=>match h[k]? with|AB=>zwh|_=>nO
  |.ty _=>nO
  |.non=>zY7
  |.bl b=>sO yY
  |Ä i=>sO Ŀ
  |Æ x=>sO Ě
def QC:∀{xs:À p} {ys:À o},ZY f xs=sO ys->xs.length=ys.length/\∀(i:Nat) x,zf1=sO x->∃y,ys[i]?=sO y/\f x=sO y:=by
 intro xs
 induction xs with
 |nil=>
  intro ys e;show ß e #[rfl,λi x h=>qY h]
 |cons x xs b=>
  intro ys e;show je y n m e r j g;subst g;let#[l,q]:=b j;refine#[yh l,Ï i z a];cases i with
  |zero=>simp at a;show ϑ a #[y,Ê,n]
  |succ i=>simp at a;let#[u,d,c]:=q i z a;show#[u,yh d,c]
def Xs:∀{a b:À W},a.length≠b.length->zf4=false
 |[],[],h=>y0 h
 |[],_::_,_=>rq
 |_::_,[],_=>rq
 |x::xs,y::ys,h=>by
  unfold Ki;rw[Xs (a:=xs) (b:=ys) (λz=>h gD),Ft]
def XD:∀{a b:À W},a.length=b.length->zf4=(List.range a.length).all λj=>match a[j]?,b[j]? with|Û x,sO y=>ze9|_,_=>false
 |[],[],_=>rq
 |x::xs,y::ys,h=>by
  let c:=XD (a:=xs) (b:=ys) zhc;unfold Ki;rw[c,NO,List.range_succ_eq_map,O2,List.all_map];simp[EA]
inductive Kd(K:Nf)(R:Rn)(h:MH)(H:Hp)(n:Nat)(v:V):W->Prop where
 |flat {a:W} (f:QiX v=true) (e:jga):mO a
 |lst {ad:Addr} {xs:À V} {ws as:À W} (e:v=.ref ad) (q:SqL K H ad xs) (r:Κ) (m:zpd):mO qZ9
 |tup {ad:Addr} {xs:À V} {ws as:À W} (e:v=.ref ad) (q:SqT K H ad xs) (r:Κ) (m:zpd):mO (.tup as)
def V0{K:Nf}{v:V}(g:Ą)(r:ë w)(e:drf h (n+1) w=sO a):mO a:=by
 cases w with
 |non=>rw[r.non_eq];show tQ (đ jp)
 |bl b=>rw[r.bl_eq];show tQ (õ (đ (jad b)))
 |int i=>rw[r.int_eq];show tQ (õ (PL (đ (jad i))))
 |str x=>rw[r.str_eq];show tQ (õ (PL (.inr (jad x))))
 |tup l=>
  let#[ad,j,f,q,c]:=g.tupAt r;show(iR,.tup f q c m)
 |lst l=>
  let#[ad,j,f,q,c]:=lY g;show(iR,qc8)
 |frz l=>
  let#[ad,j,f,q,c]:=g.frzAt r;show(iR,.lst f q c m)
 |ref k=>
  simp only[drf]at e;split at e
  ·rename_i l o;show iR;let#[_,f,j,q,c]:=g.refAt r o;show qc8
  ·cases e
 |ty _=>cases e
section
variable{X:Cx}{pins:Ö}{σ:L2.St}{H:Hp}{s:Shared}{R:Rn}{h:MH}
def Wy{K:Nf}(E:∀q p v a b,ë q->ë p->Γ q=sO a->Γ p=sO b->a=b) :
  ∀{d c:À W} {xs:À V} {a b:À W},kA d->kA c->uY d=sO a->uY c=sO b->a=b:=by
 intro d
 induction d with
 |nil=>
  intro c xs a b f e i g;show Ϙ f;cases c with
  |nil=>show B7 i g;rfl
  |cons w P=>show Mn e;let#[_,_,z,_]:=e;cases z
 | cons w d G=>
  intro c xs a b f e i g;show ϕ f v u D C;cases c with
  |nil=>show fU e;cases e
  |cons x c=>
   show Mn e;let#[_,_,z,B,A]:=e;cases z;show(je y N M i O L I,je t o m g r l j);subst I j;rw[E w x v y t D B N o,G C A L l]
def Kb(I:Ù)(q:tq)(e:Mg a):False:=by
 let#[g,_,p,_]:=Ρ q;let#[d,_,f,_]:=jU e;let#[o,n,j,i,_]:=p;let#[l,c,b,_]:=f;show ä j c;rw[i]at b;show û b Ç
def Qfk{v:V}{a b:W}(z:jga)(d:(P8/\b=.non)\/(zCc c b)\/(zk9 b)\/∃x,xE/\b=Æ x):a=b:=by
 let k:∀{c:W},((P8/\c=.non)\/(zCc b c)\/(zk9 c)\/∃x,xE/\c=Æ x)->c=match v with|.bl b=>.bl b|Ä i=>Ä i|Æ x=>Æ x|_=>.non:=by
  rintro c (⟨rfl,rfl⟩|⟨_,rfl,rfl⟩|⟨_,rfl,rfl⟩|⟨_,rfl,rfl⟩)<;>rfl
 show(k z).trans (k d).symm
def YX(I:Ù)(g:ζ)(n:Nat):∀(j i:W) (v:V) (a b:W),ť j v->ť i v->Γ j=sO a->Γ i=sO b->a=b:=by
 induction n with
 |zero=>intro _ _ _ _ _ _ _ e _;cases e
 | succ n u=>
  intro j i v a b x l y t;cases V0 g x y with
  | flat f z=>
   cases V0 g l t with
   |flat A w=>
    show Qfk z w
   |lst e=>show ym e f
   |tup e=>show ym e f
  |lst e q r m=>
   subst e;cases V0 g l t with
   |flat f=>cases f
   |lst d c o p=>cases d;let:=I.list_inj q c;show qK1
   |tup d c=>cases d;show(Kb I q c).elim
  |tup e q r m=>
   subst e;cases V0 g l t with
   |flat f=>cases f
   |lst d c=>cases d;show(Kb I c q).elim
   |tup d c o p=>cases d;let:=I.tuple_inj q c;show qK1
def Qcx(d:jm9):∀(ws as:À W),zpd->Ki as as=true:=λws=>by
 induction ws with
 |nil=>intro as m;cases m;show rfl
 |cons w ws c=>
  intro as m;show je y i g m b f e;subst e;apply(eqW y y&&Ki b b)=true;rw[d w y i,c b f];rfl
def G4(n:Nat):jm9:=by
 induction n with
 |zero=>intro _ _ e;cases e
 | succ n j=>
  intro w a e
  let d:∀{c:À W} {g:À W->W},(∀as,eqW (g as) (g as)=Ki as as)->(ZY dE c).map g=sO a->qnb:=λl e=>by
   let#[as,m,p]:=yr e;rw[<-p,l];show Qcx j _ as m
  cases w with
  |non=>cases e;show rfl
  |bl b=>cases e;show M4 b
  |int i=>cases e;show M4 i
  |str x=>cases e;show M4 x
  |tup c=>show rM
  |lst c=>show rM
  |frz c=>show rM
  | ref k=>
   simp only[drf]at e;cases f:h[k]? with
   |none=>show ä f e
   |some o=>
    rw[f]at e;cases o with
    |lst c=>show rM
    |_=>cases e
  |ty _=>cases e
def VM(N:∀i g v1 l q p a b,ť i v1->ť g l->kQ q->B9 l p->Γ i=sO a->Γ g=sO b->qFi q p)
  (v:cX e) (r:cY d) (v1:pE f) (l:Vals ys c) (E:znb) (D:znc)
  (j:Nat) (h1:j<f.toArray.size) (h2:qCi):EqAt A s qTa qT9 (match as[j]?,bs[j]? with|Û x,sO y=>ze9|_,_=>false):=by
 show(xH M v L v1,xH I r G l);rw[Nz]at h1 h2;obtain⟨i,o⟩:∃w,e[j]?=sO w:=zl0 e j h1 L M
 obtain⟨g,m⟩:∃w,d[j]?=sO w:=zl0 d j h2 G I
 show(ν x P B v o,ν y O z r m,Mw C v1 P);let#[t,Q,rt]:=l.get O;let#[a,U,Z]:=(QC E).2 j i o;let#[b,S,Y]:=(QC D).2 j g m;rw[U,S]
 let e1:qTa=u:=by
  let:=hu;show zqb h1
 let e2:qT9=t:=by
  let:=Q;show zqb h2
 rw[e1,e2];show N i g x y u t a b B z C rt Z Y
def Qap(I:Ù)(hu:vo)(B:∀i g v1 c m l a b,jb0)
  {ad x:Addr} (z:qH0) (y:cy x) (p:cX e) (o:cY d) (u:znb) (t:znc):qaf AD:=by
 show jb1
 ·rw[XD w];let:=RcAt.lists (A:=A) r.isList q.isList qr6 hu (λj D C=>VM B p o v1 c u t j D C);show jS7
 ·rw[Xs w];show RcAt.lists_lengths r.isList q.isList qi6 hu
def QcD(I:Ù)(hu:vo)(B:∀m l v1 e p o a b,jb2)
  {ad i:Addr} (x:qH1) (w:Mg i) (r:cX g) (q:cY f) (u:uY g=sO as) (t:uY f=sO bs):qaf (Ġ i):=by
 show(jd7,jb4);let:=RcAt.tuples (A:=A) (iF d z) jvg hu (λj D C=>VM B r q v1 e u t j D C);show jD9
 show jId
def QbS(I:Ù)(C:ζ):∀(n:Nat) (A:Around),qI->∀(E l:W) (v1 N:V) (P O:Value) (a b:W),ť E v1->ť l N->kQ P->B9 N O->Γ E=sO a->Γ l=sO b->qFi P O:=by
 intro n
 induction n with
 |zero=>intro _ _ _ _ _ _ _ _ _ _ _ _ _ _ e _;cases e
 | succ n aa=>
  intro A hu E l v1 N P O a b Q G i g e1 w;let c:vo:=zxj
  let ih:=aa A.in1 wb
  let v:∀{ad:Addr} {M:À V},qH2 M->∃d:ľ,qlc d:=λq=>by
   show zka d
  let u:∀{ad:Addr} {M:À V},qH3 M->∃d:ľ,qi7 d:=λq=>by
   show zkb d
  cases V0 C Q e1 with
  | flat f z=>
   cases V0 C G w with
   |flat f' D=>
    let:=QlA (A:=A) (s:=s) i g f f'
    rcases z with⟨rfl,rfl⟩|⟨_,rfl,rfl⟩|⟨_,rfl,rfl⟩|⟨_,rfl,rfl⟩<;>rcases D with⟨rfl,rfl⟩|⟨_,rfl,rfl⟩|⟨_,rfl,rfl⟩|⟨_,rfl,rfl⟩<;>show this
   |lst e q=>
    show pW g d v
    ·cases i;show EqAt.none_list p c
    ·cases i;show EqAt.bool_list _ p c
    ·show(ü i,EqAt.int_list _ t p c)
    ·show(ü i,EqAt.str_list _ t p c)
   |tup e q=>
    show pW g d u
    ·cases i;show EqAt.none_tuple p c
    ·cases i;show EqAt.bool_tuple _ p c
    ·show(ü i,EqAt.int_tuple _ t p c)
    ·show(ü i,EqAt.str_tuple _ t p c)
  | @lst B _ _ _ e q r m=>
   show AR e i d p v q;let Z:=V0 C G w;cases Z with
   |flat f' D=>
    show AL D
    ·cases g;show EqAt.list_none p c
    ·cases g;show EqAt.list_bool _ p c
    ·show(ü g,EqAt.list_int _ t p c)
    ·show(ü g,EqAt.list_str _ t p c)
   |@lst y _ _ _ x o S Y=>
    show jpj
    ·subst j;let:=YX I C (n+1) E l _ _ _ Q G e1 w;show qag
    ·show EqAt.of_refs j (Qap I c ih q o r S m Y)
   |tup x o=>
    show(AR x g L U u o,EqAt.list_tuple p U c)
  | @tup B _ _ _ e q r m=>
   show AR e i d p u q;let Z:=V0 C G w;cases Z with
   |flat f' D=>
    show AL D
    ·cases g;show EqAt.tuple_none p c
    ·cases g;show EqAt.tuple_bool _ p c
    ·show(ü g,EqAt.tuple_int _ t p c)
    ·show(ü g,EqAt.tuple_str _ t p c)
   |lst x o=>
    show(AR x g L U v o,EqAt.tuple_list p U c)
   |@tup y _ _ _ x o S Y=>
    show jpj
    ·subst j;let:=YX I C (n+1) E l _ _ _ Q G e1 w;show qag
    ·show EqAt.of_refs j (QcD I c ih q o r S m Y)
#print"-"
#print"-Mi"
namespace Mi
open L2 PySem.SeqAt
section
variable{X:Cx}{pins:Ö}{σ:L2.St}{H:Hp}{s:Shared}{R:Rn}{h:MH}
def Qas(I:Ù)(hu:vo)(B:∀i g v1 c m l a b,jb0)
  {ad x:Addr} (z:qH0) (y:cy x) (p:cX e) (o:cY d) (u:znb) (t:znc):jXh AD:=by
 show jb1
 ·rw[XD w];let:=RcNeAt.lists (A:=A) r.isList q.isList qr6 hu (λj D C=>VM B p o v1 c u t j D C);show jS7
 ·rw[Xs w];show RcNeAt.lists_lengths r.isList q.isList qi6 hu
def QcM(I:Ù)(hu:vo)(B:∀m l v1 e p o a b,jb2)
  {ad i:Addr} (x:qH1) (w:Mg i) (r:cX g) (q:cY f) (u:uY g=sO as) (t:uY f=sO bs):jXh (Ġ i):=by
 show(jd7,jb4);let:=RcNeAt.tuples (A:=A) (iF d z) jvg hu (λj D C=>VM B r q v1 e u t j D C);show jD9
 show jId
def QkC(I:Ù)(x:ζ)(n:Nat)(A:Around)(hu:qI)(P O:W)(v1 Q:V)(U S:Value)(a b:W)(r1:ť P v1)(C:ť O Q)(j:kQ U)(c:B9 Q S)(e1:Γ P=sO a)(M:Γ O=sO b):RcAt A s U S zxe:=by
 cases n with
 |zero=>cases e1
 | succ n=>
  let d:vo:=zxj
  let Y:=QbS I x n A.in1 wb
  let u:jhj:=λq=>by
   show zka i
  let o:ji0:=λq=>by
   show zkb i
  cases V0 x r1 e1 with
  | flat f z=>
   cases zLd with
   | flat Z w=>
    show jDc
    ·show ċ
     show RcAt.none_none
    ·show ċ
     show RcAt.none_bool _
    ·show ċ
     show RcAt.none_int _ _
    ·show ċ
     show RcAt.none_str _ _
    ·show ċ
     show RcAt.bool_none _
    ·show ċ
     show RcAt.bool_bool _ _
    ·show ċ
     show RcAt.bool_int _ _ _
    ·show ċ
     show RcAt.bool_str _ _ _
    ·show ċ
     show RcAt.int_none _ _
    ·show ċ
     show RcAt.int_bool _ _ _
    ·show ċ
     show RcAt.int_int _ _ _ _
    ·show ċ
     show RcAt.int_str _ _ _ _
    ·show ċ
     show RcAt.str_none _ _
    ·show ċ
     show RcAt.str_bool _ _ _
    ·show ċ
     show RcAt.str_int _ _ _ _
    ·show ċ
     show RcAt.str_str _ _ _ _
   |lst e q=>
    show pW c i u
    ·cases j;show RcAt.none_list p d
    ·cases j;show RcAt.bool_list _ p d
    ·show(ü j,RcAt.int_list _ t p d)
    ·show(ü j,RcAt.str_list _ t p d)
   |tup e q=>
    show pW c i o
    ·cases j;show RcAt.none_tuple p d
    ·cases j;show RcAt.bool_tuple _ p d
    ·show(ü j,RcAt.int_tuple _ t p d)
    ·show(ü j,RcAt.str_tuple _ t p d)
  | @lst N _ _ _ e q r m=>
   show zO u;cases L with
   |flat Z w=>
    show AL w
    ·cases c;show RcAt.list_none p d
    ·cases c;show RcAt.list_bool _ p d
    ·show(ū,RcAt.list_int _ t p d)
    ·show(ū,RcAt.list_str _ t p d)
   |tup v l=>
    show(zy o,RcAt.list_tuple p E d)
   |lst v l D G=>
    show(oD,Qap I d Y q l r D m G)
  | @tup N _ _ _ e q r m=>
   show zO o;cases L with
   |flat Z w=>
    show AL w
    ·cases c;show RcAt.tuple_none p d
    ·cases c;show RcAt.tuple_bool _ p d
    ·show(ū,RcAt.tuple_int _ t p d)
    ·show(ū,RcAt.tuple_str _ t p d)
   |lst v l=>
    show(zy u,RcAt.tuple_list p E d)
   |tup v l D G=>
    show(oD,QcD I d Y q l r D m G)
def Qet(I:Ù)(x:ζ)(n:Nat)(A:Around)(hu:qI)(P O:W)(v1 Q:V)(U S:Value)(a b:W)(r1:ť P v1)(C:ť O Q)(j:kQ U)(c:B9 Q S)(e1:Γ P=sO a)(M:Γ O=sO b):RcNeAt A s U S qTc:=by
 cases n with
 |zero=>cases e1
 | succ n=>
  let d:vo:=zxj
  let Y:=QbS I x n A.in1 jki
  let u:jhj:=λq=>by
   show zka i
  let o:ji0:=λq=>by
   show zkb i
  cases V0 x r1 e1 with
  | flat f z=>
   cases zLd with
   | flat Z w=>
    show jDc
    ·show ċ
     show RcNeAt.none_none
    ·show ċ
     show RcNeAt.none_bool _
    ·show ċ
     show RcNeAt.none_int _ _
    ·show ċ
     show RcNeAt.none_str _ _
    ·show ċ
     show RcNeAt.bool_none _
    ·show ċ
     show RcNeAt.bool_bool _ _
    ·show ċ
     show RcNeAt.bool_int _ _ _
    ·show ċ
     show RcNeAt.bool_str _ _ _
    ·show ċ
     show RcNeAt.int_none _ _
    ·show ċ
     show RcNeAt.int_bool _ _ _
    ·show ċ
     show RcNeAt.int_int _ _ _ _
    ·show ċ
     show RcNeAt.int_str _ _ _ _
    ·show ċ
     show RcNeAt.str_none _ _
    ·show ċ
     show RcNeAt.str_bool _ _ _
    ·show ċ
     show RcNeAt.str_int _ _ _ _
    ·show ċ
     show RcNeAt.str_str _ _ _ _
   |lst e q=>
    show pW c i u
    ·cases j;show RcNeAt.none_list p d
    ·cases j;show RcNeAt.bool_list _ p d
    ·show(ü j,RcNeAt.int_list _ t p d)
    ·show(ü j,RcNeAt.str_list _ t p d)
   |tup e q=>
    show pW c i o
    ·cases j;show RcNeAt.none_tuple p d
    ·cases j;show RcNeAt.bool_tuple _ p d
    ·show(ü j,RcNeAt.int_tuple _ t p d)
    ·show(ü j,RcNeAt.str_tuple _ t p d)
  | @lst N _ _ _ e q r m=>
   show zO u;cases L with
   |flat Z w=>
    show AL w
    ·cases c;show RcNeAt.list_none p d
    ·cases c;show RcNeAt.list_bool _ p d
    ·show(ū,RcNeAt.list_int _ t p d)
    ·show(ū,RcNeAt.list_str _ t p d)
   |tup v l=>
    show(zy o,RcNeAt.list_tuple p E d)
   |lst v l D G=>
    show(oD,Qas I d Y q l r D m G)
  | @tup N _ _ _ e q r m=>
   show zO o;cases L with
   |flat Z w=>
    show AL w
    ·cases c;show RcNeAt.tuple_none p d
    ·cases c;show RcNeAt.tuple_bool _ p d
    ·show(ū,RcNeAt.tuple_int _ t p d)
    ·show(ū,RcNeAt.tuple_str _ t p d)
   |lst v l=>
    show(zy u,RcNeAt.tuple_list p E d)
   |tup v l D G=>
    show(oD,QcM I d Y q l r D m G)
#print"-"
abbrev wEq(a b:W)(h:MH):Ü:=qph (ö (eqW x y),h)
abbrev wNe(a b:W)(h:MH):Ü:=qph (ö (! ze9),h)
def GI{K:Nf}:OpM K (F2 K f) f:=λ_ _ _ _ q=>q
section
variable{X:Cx}
def Qll(hu:Ż):â (compareOp .Eq) (F2 X.K wEq):=by
 intro d s t H x y v u Q I g f q;let#[R,h,a,b,w,z,c,j,i,e,k]:=q;show jc8;cases l;show QkC I c 40 X.A iA a b x y v u r p j i g f o m _ _ _ _ jl7
def Qlg(hu:Ż):â (compareOp .NotEq) (F2 X.K wNe):=by
 intro d s t H x y v u Q I g f q;let#[R,h,a,b,w,z,c,j,i,e,k]:=q;show jc8;cases l;show Qet I c 40 X.A iA a b x y v u r p j i g f o m _ _ _ _ jl7
abbrev inW(x:W)(xs:À W):Bool:=xs.any qTd
abbrev wIn(neg:Bool)(a b:W)(h:MH):Ü:=match b with
 |Ì d=>jEf
 |b=>(lsW h b).bind λd=>jEf
open Classical in
abbrev QdK(K:Nf)(R:Rn)(h:MH)(x:W)(u:Value):Bool:=decide (∃w v a,ë w/\ô v/\MY w=sO a/\zd7=true)
open Classical in
def U1(I:Ĝ c)(i:ζ)(r:xG)(t:ô v)(e:MY w=sO a):QdK X.K R h x u=zd7:=by
 by_cases q:zd7=true
 ·rw[q];show decide_eq_true #[w,v,a,r,t,e,q]
 ·let b:zd7=false:=ĝ q
  rw[b];refine decide_eq_false (æ d);let#[f,n,m,j,g,l,z]:=d;let:=t.inj g;subst this;rw[YX I i 40 w f v a m r j e l,z]at b;cases b
def Qb6(I:Ĝ a)(f:ζ):∀{ws as:À W} {xs:À V} {us:È},zHb->ϟ->qbe->us.any (QdK X.K R h x)=inW x as:=by
 intro ws
 induction ws with
 |nil=>
  intro _ _ _ r t m;show(Ϙ r,B7 t m);rfl
 | cons w ws j=>
  intro _ _ _ r t m;show ϕ r v c i g;cases t with
  |cons e d=>
   show je y p o m q n l;subst l;let b:=j g d n;unfold inW at b ⊢;rw[Fd,Fd,U1 I f i e p,b]
def XG(I:Ĝ j)(g:ζ)(hu:A.units+40<cLine)(p:ť a v)(ta:ô v)(D:MY a=sO x) 
  (r:zHb) (t:ϟ) (m:qbe):∀y∈us,EqAt A s y u (QdK X.K R h x y):=by
 intro y B;show(fy i l B,xH z r q t);obtain⟨w,hw⟩:∃w,qZ2:=#[ws[i]'(Ng (Ng l (ħ q)) (ħ z)),Nj _]
 let#[o,C,d]:=r.get hw;show ν E c f t C;rw[Nj l,e]at c;cases c;let#[b,G,n]:=(QC m).2 i w hw;rw[U1 I g d f n];show QbS I g 40 A hu w a o v y u b x d p f ta n D
def Qkh(hu:Ż):â qA3 (Ac zMc):=by
 intro p s Y H x y v u Q I P O q;let#[R,h,a,b,w,N,l,U,S,e,k]:=q;let B:zAc:=jnd
 let main:∀g,((drf h 40 a).bind λx=>(ZY wC g).map λc=>((W.bl (if false then ! Pg else Pg),h):W×MH))=ā w N->∃d c,oN/\tM g=sO c/\w=ö qZd/\N=h:=λg e=>by
  show jb9
 let fin:∀{d:W} {c E:À W} {m:À V} {f:È},qO0->Vals m f->oN->tM E=sO c->w=ö qZd->N=h->PB p Y (um (f.toArray.any HS)):=λ{d c E m f} r t ea em C D=>by
  show jFc
 show qNj
 ·show jah;show in_tupleAt HS (iF f L) (λz M=>XG I l B U P j o n i z gK) RN
 ·show jb5;show in_listAt HS L.isList (λz M=>XG I l B U P j o n i z gK) RN
def QbP(hu:Ż):â qr7 (Ac zOe):=by
 intro p s Y H x y v u Q I P O q;let#[R,h,a,b,w,N,l,U,S,e,k]:=q;let B:zAc:=by apply ci+40<cLine;omega
 let main:∀g,((drf h 40 a).bind λx=>(ZY wC g).map λc=>((W.bl (if true then ! Pg else Pg),h):W×MH))=ā w N->∃d c,oN/\tM g=sO c/\w=ö qTe/\N=h:=λg e=>by
  show jb9
 let fin:∀{d:W} {c E:À W} {m:À V} {f:È},qO0->Vals m f->oN->tM E=sO c->w=ö qTe->N=h->PB p Y (um (!f.toArray.any HS)):=λ{d c E m f} r t ea em C D=>by
  show jFc
 show qNj
 ·show jah;show notIn_tupleAt HS (iF f L) (λz M=>XG I l B U P j o n i z gK) RN
 ·show jb5;show notIn_listAt HS L.isList (λz M=>XG I l B U P j o n i z gK) RN
#print"-"
abbrev Q7(a b:W)(h:MH):Ü:=match a,b with
 |Ä i,Ä j=>zU
 |Æ x,Æ y=>jK7
 |Ì d,Ì c=>if zI9 then sO (Ì zf,h)else nO
 |a,b=>(loW h a).bind λd=>(loW h b).bind λc=>if zI9 then sO (Î zf,h)else nO
abbrev Qjt(a b:W)(h:MH):Ü:=match a,b with|Ä i,Ä j=>jv0|_,_=>nO
abbrev QkG(a b:W)(h:MH):Ü:=match a,b with|Ä i,Ä j=>if zua then zlf else nO|_,_=>nO
abbrev Z0(a b:W)(h:MH):Ü:=match a,b with|Ä i,Ä j=>if zhf then sO jq0 else nO|_,_=>nO
abbrev ZD(a b:W)(h:MH):Ü:=match a,b with|Ä i,Ä j=>if 0<j then sO (Ä (i%j),h)else nO|_,_=>nO
abbrev Qj6(a b:W)(h:MH):Ü:=match a,b with|Ä i,Ä j=>if zwb then sO (Ä zF0,h)else nO|_,_=>nO
abbrev wLt(a b:W)(h:MH):Ü:=match a,b with|Ä i,Ä j=>o9 i j|Æ x,Æ y=>sO (ö (ό (zGb x y)),h)|_,_=>nO
abbrev wGt(a b:W)(h:MH):Ü:=match a,b with|Ä i,Ä j=>o9 j i|_,_=>nO
abbrev JH:P0
 |.non=>true
 |_=>false
abbrev wIs(a b:W)(h:MH):Ü:=match b with
 |.non=>jtf
 |.bl y=>match a with|.bl x=>jtg|_=>nO
 |_=>nO
abbrev V1(a b:W)(h:MH):Ü:=match b with
 |.non=>jsb
 |_=>nO
def QgN{K:Nf}(r:ë a):decide (v=.non)=JH a:=by
 cases a with
 |non=>rw[r.non_eq];rfl
 |bl _=>rw[r.bl_eq];rfl
 |int _=>rw[r.int_eq];rfl
 |str _=>rw[r.str_eq];rfl
 |ty _=>show decide_eq_false r.ty_ne
 |tup _=>show zo9
 |lst _=>show zo9
 |frz _=>show zo9
 |ref _=>show ż r;let#[_,rfl]:=r;rfl
section
variable{X:Cx}
abbrev Qor(K:Nf):R2:=λx y H Q=>∃a b c d,yy/\y=Ã b/\p0 a c/\p0 b d/\c.length+d.length<=sizeLine /\
 (c=[]->Q SD H)/\(c≠[]->d=[]->zGa)/\(c≠[]->d≠[]->∀p,qK (ć p (Ŋ (c++d))))
def op_catA:â HR (Qor X.K):=by
 intro c s A H x y v u Q I p o h;let#[a,b,m,B,rfl,rfl,w,t,S,L,G,E]:=h
 by_cases i:m=[]
 ·show ym i p;cases o;show(Av P D N w,Av d U M t);cases D;show zC4 C q r N;let#[#[z,l,data2,j],e,g,O,f]:=id M;show zJh r g f
  show Yah (ϴ q) AG LL O0 Ik F6 zT8
   (tuple_addW0 a b #[] d.toArray n O dd l C j Ç) #[q,e,#[Ã b,H,I,rfl,L rfl]]
 ·show QhR c s A H _ _ v u Q I p o #[a,b,m,B,rfl,rfl,w,t,i,S,G i,E i]
def QmD:â zFg (λx y H Q=>∃i j,x=.bl i/\y=.bl j/\Q (.bl ja5) H):=by
 intro a s d H x y v u Q I c b h;show(R9,B7 c b,is_bool #[.bl _,H,I,rfl,q])
def QhO:â HR (Ac Q7):=by
 intro m s S H x y v u Q I Y U q;refine(op_add.or (op_add_str.or (op_catA.or QlK))) m s S H x y v u Q I Y U ?_;let#[R,h,a,b,w,Z,c,i,g,e,k]:=q;show Ma Q7
 ·cases e;show yw (zkd i g c)
 ·split at e
  ·show(Β E e,Ũ (jb #[_,_,i.str_eq,g.str_eq,E,į c sR]))
  ·cases e
 ·split at e
  ·rename_i N M E;cases e;let#[ad,t,o,C,l]:=c.tupAt i;let#[G,r,n,B,j]:=c.tupAt g;show jeg;show qd (ϭ (jb #[ad,G,t,r,o,n,C,B,Ñ,æ z,λ_ z=>?_,λ_ _ p D=>?_]))
   ·subst z;let:N=[]:=Ek.mp P;subst this;show į c (n▸g)
   ·subst z;let:M=[]:=Ek.mp O;subst this;rw[Eb]at k;show į c (o▸i)
   ·let#[L,A,f,d]:=c.tup D qw6;show j7 L A f d
  ·cases e
 ·show(uw N o,uw M n);split at e
  ·show Β E e;let#[ad,t,f1,C,l]:=c.loAt i o;let#[G,r,f2,B,j]:=c.loAt g n;show(jeg,qd (ϭ (PL #[ad,G,t,r,f1,f2,C,B,Ô,Ò p D])),zd L A f d c D qw6,j7 L A f d)
  ·cases e
def Qim:â qz5 (F2 X.K Qjt):=by
 intro c s d H x y v u Q I g f q;refine Qkp c s d H x y v u Q I g f ?_;let#[R,h,a,b,w,m,i,l,j,e,k]:=q;unfold Qjt at e;split at e
 ·show uv e (zkd l j i)
 ·cases e
def QjJ:â HH (F2 X.K QkG):=by
 intro c s d H x y v u Q I g f q;refine Qkj c s d H x y v u Q I g f ?_;let#[R,h,a,b,w,n,i,l,j,e,k]:=q;unfold QkG at e;split at e
 ·show zp
 ·cases e
def Qhv:â qn1 (Ac Z0):=by
 intro c s d H x y v u Q I g f q;refine QjL c s d H x y v u Q I g f ?_;let#[R,h,a,b,w,n,i,l,j,e,k]:=q;show Ma Z0
 ·show zp
 ·cases e
def Qiw:â qz6 (F2 X.K ZD):=by
 intro c s d H x y v u Q I g f q;refine QkB c s d H x y v u Q I g f ?_;let#[R,h,a,b,w,n,i,l,j,e,k]:=q;unfold ZD at e;split at e
 ·show zp
 ·cases e
def QhS:â qz7 (F2 X.K Qj6):=by
 intro c s d H x y v u Q I g f q;refine Qmv c s d H x y v u Q I g f ?_;let#[R,h,a,b,w,n,i,l,j,e,k]:=q;unfold Qj6 at e;split at e
 ·show zp
 ·cases e
def Qm0:â zFf (F2 X.K wLt):=by
 intro c s i H x y v u Q I l j q;refine(op_lt.or Qdt) c s i H x y v u Q I l j ?_;let#[R,h,a,b,w,m,d,g,f,e,k]:=q;unfold wLt at e;split at e
 ·cases e;show Ø #[_,_,g.int_eq,f.int_eq,į d vd]
 ·cases e;show å #[_,_,g.str_eq,f.str_eq,į d vd]
 ·cases e
def QlZ:â qz8 (F2 X.K wGt):=by
 intro c s d H x y v u Q I g f q;refine Qom c s d H x y v u Q I g f ?_;let#[R,h,a,b,w,m,i,l,j,e,k]:=q;unfold wGt at e;split at e
 ·show Ŭ e #[_,_,l.int_eq,j.int_eq,į i vd]
 ·cases e
def Qkx:â zFg (F2 X.K wIs):=by
 intro c s i H x y v u Q I l j q;refine(op_isN.or QmD) c s i H x y v u Q I l j ?_;let#[R,h,a,b,w,m,d,g,f,e,k]:=q;unfold wIs at e;split at e
 ·cases e;show yw (jth f g d)
 ·split at e
  ·cases e;show Ũ #[_,_,g.bl_eq,f.bl_eq,į d vd]
  ·cases e
 ·cases e
def QbY:â qqi (Ac V1):=by
 intro c s d H x y v u Q I g f q;refine QhZ c s d H x y v u Q I g f ?_;let#[R,h,a,b,w,m,i,l,j,e,k]:=q;show Ma V1
 ·show uv e (jth j l i)
 ·cases e
abbrev Qa0(a:W)(h:MH):Ü:=match a with|Ä i=>jw7|_=>nO
def Qkm(d:χ):ì (.UnaryOp .USub a pos) (mUn Qa0 ma):=QD (QoZ Qln d) λf H Q q=>Z3 (un1 q) <|by
 rintro x H1 ⟨R,h,a,w,g,b,c,e,k⟩
 unfold Qa0 at e;split at e
 ·show ß e #[_,c.int_eq,k R H1 _ Θ b uZ]
 ·cases e
abbrev wIx(a b:W)(h:MH):Ü:=match b with
 |Ä i=>match a with
  |Ì d=>qe6
  |Æ x=>if jR5 then(atI x.cps.toList i).map (ύ c (Æ f4,h))else nO
  |a=>(lsW h a).bind λd=>qe6
 |_=>nO
def QbW{K:Nf}(r:Κ)(e:atI ws i=sO w):∃v,qN9/\ë w:=by
 unfold atI at e ⊢;show(B5 r,ļ j d c e,ν v b a r c,#[v,Ϲ d b,a])
def QhK:Ad (F2 X.K wIx):=by
 intro value slice f s z H x y v u Q I D C q E;refine QmC value slice f s z H x y v u Q I D C ?_ E;let#[R,h,a,b,w,M,d,n,m,e,k]:=q;unfold wIx at e;split at e
 ·show ll i e
  ·rename_i A;show(jeb,Cc l r p d n,qK2,Ũ (jb #[ad,l,i,v1,rfl,m.int_eq,r,t,į d o]))
  ·split at e
   ·rename_i G;show(uC c j g e,Ũ (ϭ #[_,i,c,n.str_eq,m.int_eq,G,j,į d sR]))
   ·cases e
  ·show(uw A L,jeb,vc l r p d n L,qK2,ø #[ad,l,i,v1,rfl,m.int_eq,r,t,į d o])
 ·cases e
def QoN(h:χ)(g:ì b e)(f:Y0 b:=by intro _ _;rfl):ì R7 (Qc wIx ma e):=
 QD (Qon QhK h g f) λ_ _ _ q=>Z3 li λ_ _ d=>Z3 d (jq c)
abbrev J0(ws:À W)(h:MH):Ü:=match ws with
 |[Æ x]=>zlj (.int x.length,h)
 |[Ĩ]=>sO Hy
 |[a]=>sn Hy
 |_=>nO
def Qaa{K:Nf}:QhL K (Fs K f) f:=qRd
def YI{K:Nf}(r:kA [a]):∃v,xs=[v]/\ë a:=by
 show(ϕ r v d c b,Ϙ b,#[v,rfl,c])
def Qot{K:Nf}(r:kA [a,b]):∃v u,xs=[v,u]/\ë a/\ui b u:=by
 show(ϕ r v f e d,BF u c d,#[v,u,rfl,e,c])
def QbR:CallR X zE6 (Fs X.K J0):=by
 intro d s i H a j Q I r q;refine(call_len_seq.or WN) d s i H a j Q I r ?_;let#[R,h,p,w,t,b,rw,e,k]:=q;show Ma J0
 ·split at e
  ·rename_i l;show qu e c;show Ũ #[_,by rw[c.str_eq],l,į b uZ]
  ·cases e
 ·show(qu e c,Cc a g f b c,ø #[ad,a,rfl,å g,jlj])
 ·show(ϱ o n m e,qu m c,vc a g f b c n,ø #[ad,a,rfl,SQ g,jlj])
 ·cases e
abbrev KW(ws:À W)(h:MH):Ü:=match ws with
 |[Ĩ]=>sO gS
 |[a]=>sn gS
 |_=>nO
abbrev QeH(ws:À W)(h:MH):Ü:=match ws with
 |[Ĩ]=>sO (ķ,h)
 |[a]=>sn (ķ,h)
 |_=>nO
def UY:CallR X zFa (Fs X.K KW):=by
 intro b s l H a n Q I r q;refine Wg b s l H a n Q I r ?_;let#[R,h,z,w,A,c,rw,e,k]:=q;unfold KW at e;split at e
 ·show(qu e d,Cc a i j c d,#[ad,a,rfl,å #[i,į c d]])
 ·show(ϱ y u t e,qu t d,vc a i j c d u);refine#[ad,a,rfl,Ø #[i,Ò p o]];let#[x,m,g,f]:=c.tup o j;show j7 x m g f
 ·cases e
def QaO:CallR X t6 (Fs X.K QeH):=by
 intro d s o H c t Q I r q;refine Ul d s o H c t Q I r ?_;let#[R,h,z,w,A,f,rw,e,k]:=q;unfold QeH at e;split at e
 ·show(qu e j,Cc c l i f j);refine#[ad,c,rfl,å l,Ò p m];show jma
 ·show(ϱ y x u e,qu u j,vc c l i f j x);refine#[ad,c,rfl,Ø l,Ò p m];show jma
 ·cases e
set_option backward.eqns.deepRecursiveSplit false in
abbrev Qsi:À W->Option (List Bool)
 |[]=>sO []
 |.bl b::r=>(Qsi r).map (b::·)
 |_=>nO
#print"-"
section
variable{prog:Program}{w:World}{A:Around}{E:Õ}{s:Shared}
def Xn{lo hi:ġ}(a:qr0)(g:r4 f j i)(pl:ze4 j)(l:ze5 i)
  (hw:zw5=0/\jNg=items.size) (h:Q SC s):ù (getItem SC xw):=by
 show jkc b d n g e f
 show Ë (qf7 a)
 refine Nc (EZ (name:=qgg) a.typeIs Ey
  (jNi a))
 show(jid a e,Ë (HT.sliceApplied_gen g pl l ?_))
 let c:(jDd=true):=by
  rw[hw.1,hw.2];simp
 apply Ů (if jDd=true then _ else _);rw[Ð c];refine Nc (m:=Builtin.Tuple.tupleIsExact _) ?_;show(Ë (Fx a.typeIs ϻ),nH,Nc (DC zt9))
#print"-"
abbrev Yj(xs:À a)(lo hi:ġ):À a:=jE0
abbrev wSl(a:W)(lo hi:ġ)(h:MH):Ü:=match a with
 |Ì b=>sO (Ì qK3,h)
 |Æ x=>zlj (Æ (zNe x),h)
 |a=>(lsW h a).map λb=>(Î qK3,h)
def Qdc{K:Nf}{ws:À W}(r:Κ)(lo hi:ġ):q8 zJ3 qCj:=by
 unfold Yj Qev;rw[r.length];show(r.drop _).take _
def QaW{xs:À a}{lo hi:ġ}(h:iq=0/\zl6):Yj xs lo hi=xs:=by
 unfold Yj;rw[h.1,h.2];simp
noncomputable abbrev MOp:=zVh (ġ×MH)
abbrev tIO(K:Nf)(m:MOp):TO:=λe H Q=>∃R a h o b,Ą/\vS e/\m a h=ā o b/\∀c d,Ϩ c->Rh K c b d->Q o d
abbrev PMO(X:Cx)(e:MD)(m:MOp):Prop:=PO X e (tIO X.K m)
abbrev Vn:MOp:=P9 (nO,h)
abbrev Vr(m:ME):MOp:=λa h=>(m a h).bind λp=>match p.1 with|Ä i=>qO1|_=>nO
abbrev mSl(ma:ME)(b c:MOp):ME:=λa h=>(ma a h).bind λp=>(b a p.2).bind λq=>(c a q.2).bind λr=>qtf
section
variable{X:Cx}
def sl_tupA:SlR X (λx lo hi H Q=>∃a xs,yy/\tr/\(jd3->zGa) /\
  (¬jd3->∀p,qK (ć p (Ŋ qCj)))):=by
 intro b s l H x v n m lo hi o Q I e j pl f h;let#[a,xs,rfl,g,t,q]:=h
 by_cases hw:iq=0/\zl6
 ·cases e;let#[d,r,i,u]:=jU g;let c:d.toArray.size=xs.length:=qd3
  show(qp9 i,Xn i j pl f qpa #[Ã a,H,I,rfl,t hw])
 ·show Qlp b s l H ĭ v n m lo hi o Q I e j pl f #[a,xs,rfl,g,hw,q hw]
def Qkc:pM (λx lo hi H Q=>∃z,x=Æ z/\zD9/\Q (vb (zNe z)) H):=by
 intro a s m H x v p o lo hi r Q I n c pl g h;let#[z,rfl,b,q]:=h;show ü n;refine#["str",_,PySem.F.slot_str_getitem.lookup,typeIs_str _ _ _,?_];let fin:∀(e:Tok) (k:Nat),EP X a m Q (.str (zNe z) e) { s with toks:=k }:=ş e k #[yn,H,Α,yS e,q]
 cases pl with
 |none=>
  cases g with
  |none=>show Fb (l:=nO) (u:=nO) (st:=nO) c rfl i7
  |int j d=>show Fb (l:=nO) (u:=ā j d) (st:=nO) c rfl i7
 |int i f=>
  cases g with
  |none=>show Fb (l:=ā i f) (u:=nO) (st:=nO) c rfl i7
  |int j d=>show Fb (l:=ā i f) (u:=ā j d) (st:=nO) c rfl i7
def Qeu:PMO X nO Vn:=λa s c H Q I d=>by
 let#[R,b,h,o,g,f,st,e,k]:=d;cases e;show Qh7 a s c H Q I (k R H Θ f)
def Qeq(n:uI):PMO X lg (Vr m):=λa s f H Q I g=>by
 let#[R,b,h,o,t,l,st,r,k]:=g;refine QiF n a s f H Q I ?_;show jC w p q d r #[R,b,h,w,p,l,st,q,Ϻ v i c j];cases w<;>simp only at d<;>first|(show ß d #[_,j.int_eq,k R1 H1 i c])|cases d
def Qec{lo hi:MD}{pos L:Pos}(U:χ)(P:PMO X lo M)(S:PMO X hi N):ì (.Subscript a (.Slice lo hi nO L) pos) (mSl ma M N):=
 QD (Qfa (sl_list.or (sl_tupA.or Qkc)) U P S) λσ H Q E=>by
  let#[R,f,h,w,h',I,st,e,k]:=E;let#[#[a,C],ea,e2]:=Ĺ e;let#[#[l,B],el,e3]:=Ĺ e2;show jC u Y Z d e3 #[R,f,h,a,C,I,st,ea,kf r t G #[R1,f,C,l,B,t,yl r,el,λR2 H2 q s=>#[R2,f,B,u,Y,s,st.mono (Ć r q),Z,Ę D H3 A b]]];let c:=BI (Ć q A) G;let j:=k.ext (yG r q A);show jY d;unfold wSl at d;split at d
  ·cases d;show Cc n v m b c;show qd (jb #[ad,n,rfl,v,λhw=>?_,λ_ p y=>?_])
   ·rw[QaW (by rw[m.length];show hw)]at j;show j D H3 _ Θ b c
   ·let#[z,o,i,g]:=b.tup y qO2;show qNe
  ·split at d
   ·show(Β O d,Ũ (ϭ #[_,c.str_eq,O,j D H3 _ Θ b sR]))
   ·cases d
  ·let#[ys,e5,e6]:=yr d;cases e6;show vc n v m b c e5;refine Ø #[ad,n,rfl,v,Ò p y];show(zd z o i g b y qO2,qNe)
#print"-"
abbrev QdY(X:Cx)(id:String)(f:zE):Prop:=
 MtR X id (λx d H Q=>∃R h a b w c,ζ/\ť a x/\Rws X.K R b d/\jw5/\After X.K R w c Q)
set_option backward.eqns.nonrecursive false in
abbrev tyW(h:MH)(T:String):P0
 |yn=>T=="str"
 |B4=>T=="int"
 |.lst _=>za6
 |Pk=>za6
 |Ã n=>match h[n]? with|gg=>za6|zKg=>za7|zKh=>za7|_=>false
 |_=>false
abbrev mMt(T:String)(f:zE)(mo:ME)(ms:MA):ME:=λa h=>(mo a h).bind λp=>if qw8 then(ms a p.2).bind λq=>jYg else nO
def Qga{K:Nf}{x:V}(c:Ą)(r:d6)(e:tyW h T a=true):tyV K T x H:=by
 cases a with
 |str _=>rw[r.str_eq];show DF e
 |int _=>rw[r.int_eq];show DF e
 |lst _=>
  let#[ad,b,rfl,q,_]:=lY c;show ø #[DF e,b,q4 q]
 |frz _=>
  let#[ad,b,rfl,q,_]:=c.frzAt r;show ø #[DF e,b,q]
 |ref n=>
  simp only[tyW]at e;split at e
  ·rename_i j d;let#[_,rfl,b,f,_]:=c.refAt r d;show ø #[DF e,b,q4 f]
  ·show(jhg,Ũ (ϭ (jb #[DF e,Ø (ĺ g f)])))
  ·show(jhg,Ũ (ϭ (jb #[DF e,.inr (ĺ g f)])))
  ·cases e
 |_=>cases e
section
variable{X:Cx}{o e:Expr}{es:é}{mo:ME}{ms:MA}{name:Str}{apos cpos:Pos}{T id:String}{f:zE}
def QlT{X:Cx}{e:Expr}{es:é}{cpos:Pos}(a:wk)(c:μ)(b:η) :
  (jD8
   && decide jF9)=true:=by
 rw[Qew (by unfold Zk at b ⊢;rw[O2,c,b];rfl)];show a
def Qoq(B:cB)(slot:tz)(p:SX)(E:zR5)(D:ku)(G:qD)
  (d:dB:=by rfl) (j:wk:=by rfl)
  (c:iJ:=by rfl) (u:μ:=by rfl) (b:η:=by rfl) :
  ì jJf (mMt T f mo ms):=
 QD (Qo3 B slot p E D G d (QlT j u b) c (QS u) (Zw b)) λN H Q z=>by
  let#[R,g,h,w,I,A,st,e,k]:=z;show(qj y L l,Sn l)
  ·rename_i C;let#[#[s,v],es,M]:=Ĺ l;show#[R,g,h,a,y,A,st,L,kf r i t #[Qga i t C,R1,g,y,s,v,i,yl r,es,λR2 H2 O q n m=>#[R2,v,a,s,w,I,n,BI q t,m,M,k.ext (Ć r q)]]]
  ·cases l
def Qmw(r:cB)(slot:tz)(j:SX)(u:zR5)(t:ku)
  (c:dB:=by rfl) (b:iJ:=by rfl):ì jLf (mMt T f mo Qe):=
 QD (QkZ r slot j u t c b) λA H Q n=>by
  let#[R,i,h,w,v,q,st,e,k]:=n;show(qj m y g,Sn g)
  ·rename_i s;let#[#[B,C],es,z]:=Ĺ g;cases es;show#[R,i,h,a,m,q,st,y,kf p d l #[Qga d l s,R1,m,a,[],w,v,d,l,Rws.nil,z,k.ext p]]
  ·cases g
#print"-"
set_option backward.eqns.nonrecursive false in
abbrev QZ(a:W)(ws:À W)(h:MH):Ü:=match a,ws with
 |Ã n,[w]=>match h[n]? with|Sz b=>if b.length<sizeLine then sO (.non,h.set n (Þ (b++[w])))else nO|_=>nO
 |_,_=>nO
abbrev X6(a:W)(ws:À W)(h:MH):Ü:=match a,ws with
 |Ã n,[w]=>match h[n]? with|Sz c=>(loW h w).bind λb=>ji4|_=>nO
 |_,_=>nO
abbrev Qfl(a:W)(ws:À W)(h:MH):Ü:=match a,ws with
 |Ã n,[]=>match h[n]? with|Sz b=>(b[b.length-1]?).map λw=>(w,h.set n (.lst b.dropLast))|_=>nO
 |_,_=>nO
section
variable{X:Cx}
def Rws.dropLast{K:Nf}(r:϶):Rws K R ws.dropLast vs.dropLast:=by
 rw[OE,OE,r.length];show r.take _
def QaF:QdY X "list.append" QZ:=by
 intro b s i H x l v m Q I p r q;refine QcI b s i H x l v m Q I p r ?_;let#[R,h,a,C,w,E,f,t,c,e,k]:=q;unfold QZ at e;split at e
 ·show MZ n D
  ·show MZ B u
   ·show(Β z e,kn d j A g f t u,BF y o c);refine#[_,j,y,rfl,rfl,A,AX g z,?_];show k R _ _ Θ (f.put d #[_,rfl,Rws.append g (Rws.cons o Rws.nil)]) Rw.non
   ·cases e
  ·cases e
 ·cases e
def Qa4:QdY X "list.extend" X6:=by
 intro b s j H x o v p Q I t u q;refine Qb5 b s j H x o v p Q I t u ?_;let#[R,h,a,N,w,P,d,z,c,e,k]:=q;show Ma X6
 ·show MZ n O
  ·rename_i M A;show uw L E;split at e
   ·show(Β B e,kn f m D i d z A,BF y r c);let#[G,l,rfl,C,g]:=d.loAt r E;show jm0 G
   ·cases e
  ·cases e
 ·cases e
def Qji:QdY X "list.pop" Qfl:=by
 intro c s i H x l v m Q I p r q;refine Qlv c s i H x l v m Q I p r ?_;let#[R,h,a,E,w,L,g,t,b,e,k]:=q;unfold Qfl at e;split at e
 ·show ll n e
  ·rename_i D u;show(uC G C B e,kn f j z d g t u,Ϙ b,ν y A o d C);refine#[_,j,y,rfl,rfl,z,AX d A,?_];show j7 R Θ (g.put f #[_,rfl,d.dropLast]) o
  ·cases e
 ·cases e
set_option backward.eqns.deepRecursiveSplit false in
abbrev Qoi:jti
 |[]=>sO []
 |Æ x::r=>(Qoi r).map (x::·)
 |_=>nO
#print"-"
abbrev Qrc(h:MH):W->Option String
 |.non=>sO "NoneType"
 |.bl _=>sO "bool"
 |B4=>sO "int"
 |yn=>sO "str"
 |.tup _=>sO "tuple"
 |.lst _=>zTh
 |Pk=>zTh
 |Ã n=>match h[n]? with|gg=>zTh|zKg=>sO "dict"|zKh=>sO "dict"|_=>nO
 |.ty _=>nO
structure Cal(P:Program)(w:World)(K:Nf)(mg:ý)(base:Heap)(k:Nat)(x:Str)(ps:Á)(g:FM):Prop where
 ex:∃(f:Addr) (fd:FuncData),zsb/\RC/\qB/\Cj/\∃(oc:Value) (od:ϝ) (osl:Ho),zt6
structure DefAt(K:Nf)(mg:ý)(x:Str)(st:Stmt)(ps:Á):Prop where
 ex:∃(f:Addr) (fd:FuncData),Fun K x x st f fd/\RC/\Cj
def JF{K:Nf}{h:Heap}{x:Str}{st:Stmt}{f:Addr}{i:Value}{kV d pm cd ct:Value}(X:uj)(G:Bu)
  (a:wE=sO kX) (l:ϣ f=sO #[i,m,.func (EL x x qX ψ Ŵ .none kV d pm g cd ct),j]) (c:qK4) (k:qB)
  (b:∀(kV d pm:Value) (g:ϝ) (e ct:Value) (us:È),zub (EL x x qX ψ Ŵ .none kV d pm g e ct)):qw9:=
 #[f,_,G9 l c k,p7,qwa]
structure Glob(K:Nf)(mg:ý)(x:Str)(w:W):Prop where
 ex:∃(v:V) (u:Value),mg x=sO u/\ô v/\∀R,ë w
def Qnx{K:Nf}(X:uj)(G:Bu)(a:wE=sO (sO TX)):zeh Ŀ:=
 #[Ä i,_,p7,yS t,λ_=>Rw.int i]
abbrev QfE:Á->À W:=List.map W.str
def Qej{K:Nf}:∀(ys:Á),q8 (QfE ys) qD0:=by
 intro ys
 induction ys with
 |nil=>
  show lh
 |cons y ys a=>
  show PQ (Rw.str y) (a)
def Qbo{a:È}{ys:Á}(h:StrsAre a ys):Vals qD0 a:=by
 induction h with
 |nil=>show .nil
 |cons _ t _ i=>show Ē gC i
def WI{K:Nf}{h:Heap}{x:Str}{c:Addr}{n:Nat}(X:uj)(G:Bu)(a:zoa)
  (l:jmb) (hz:zFd) (d:StrsAre b.toList ys):zeh (Ŋ (QfE ys)):=
 #[Ã c,_,p7,rfl,λR=>by
  show#[c,_,rfl,å #[_,b,n,l,rfl,rfl,hz,Qbo d],Qej ys]]
section
variable{X:Cx}{k n:Nat}{g:FM}{x:Str}{ps:Á}{p pos:Pos}{e:Expr}{es:é}{ms:MA}
def Gm(C:jVh)(c:BN k)(j:Ş)(o:qD)(d:MJ:=by rfl)
  (b:ŏ:=by decide) (l:μ:=by rfl) (a:η:=by rfl) :
  ì dg qNg:=by
 let#[f,fd,F,h,i,m,_]:=C.ex;subst d;show QjW F c j h i m QaJ o b l a
def Qbq(C:jVh)(b:BN k)(i:Ş)(c:MJ:=by rfl)(a:ŏ:=by decide):ì iy (Qg n g Qe):=by
 let#[f,fd,F,d,h,j,_]:=C.ex;subst c;show Qe4 F b i d h j QaJ a
def QfJ(C:Glob X.K X.mg x w)(b:Ş)(hd:ŏ:=by decide):ì vf pv:=by
 let#[v,u,a,r,rw]:=C.ex;show Qi1 b a r rw hd
#print"-"
section
variable{P:Program}{w:World}{K:Nf}{mg:ý}{base:Heap}
def QkX{st:Stmt}(d:qw9)(S:C4)(hN:wQ)
  (c:∀(f:Addr) (b:Value) (A:Around) (a:ŷ) (s:Shared) (H:Hp) (E:XK),AN k x b->GK (Qbg CX0 P w K mg base N x Ŵ f b A a s H E).nox ψ m) :
  jeh:=by
 show bW l o d;let#[i,h,kV,p,pm,q,b,ct,g,e,lk,n]:=F.ex;show#[f,fd,QlW F S hN (λb A a s H E j=>c f b A a s H E j),l,F.kp,o,i,h,g,lk]
def Cal.imp(C:wY k g)(h:∀vs H Q E,qH4 g'->qH4 g):wY k g':=by
 show(qO3,#[f,fd,F.imp h,r])
#print"-"
def Gy{K:Nf}:∀(ns:Ŝ),q8 (qQ W) (qQ V):=by
 intro ns
 induction ns with
 |nil=>
  show lh
 |cons n ns a=>
  show PQ (Rw.int n) (a)
abbrev Qbn(a:Scope):Bool:=a.names.all λy=>y.2 != .cell&&(y.2 != .local ||a.names.lookup y.1==yT)
abbrev QkT(N:Á)(xs a:Scope)(cp:ϙ)(Nb:Á):Bool:=(cp.zip Nb).all λp=>match p.1 with
 |none=>true
 |Û j=>N[j]?==pA&&(qtg==π ||qtg==y9)&&a.names.lookup p.2==y9
abbrev Qf8(a:Scope)(ks:Á):Bool:=a.names.all λy=>qTg ||ks.contains y.1
def Xf{env:Env}:∀{a:zBi} {x:Str},a.lookup x=y9 ->
  zqf=π \/
  zqf=y9:=by
 intro a
 induction a with
 |nil=>
  intro _ h;simp at h
 | cons e r f=>
  show Ď n k e;intro x h;let d:=@f x;rw[NH];dsimp only;cases b:x==n with
  |true=>
   show mS;cases h
   by_cases c:(NameKind.free==NameKind.free&&qi8&&fQ n==π)=true
   ·rw[Ð c];show Ø qA4
   ·rw[Í c];show å qA4
  |false=>
   show mS
   by_cases c:jtc
   ·rw[Ð c];show(zcf,d h)
   ·rw[Í c];show(zcf,d h)
def V4{env:Env}:∀{a:zBi} {x:Str} {c:NameKind},(∀y∈a,zOc)->(c=.cell\/c=.free) ->
  zqf=sO c->qA5∈a:=by
 intro a
 induction a with
 |nil=>
  intro _ _ _ _ h;simp at h
 | cons g r j=>
  show Ď n k g;intro x c e f h;rw[NH]at h;show jY h;let i:=@j x c (λy l=>e y (Φ l)) f;cases d:x==n with
  | true=>
   let:x=n:=DF d;subst this
   by_cases b:(zqi x)=true
   ·let:k=.free:=by
     simp only[N0,beq_iff_eq]at b;show b.1.1
    subst this;show Nw
   ·rw[Í b]at h;simp[Et]at h;subst h
    show gW
    ·show û z (e (x,k) Nw)
    ·subst z;show Nw
  |false=>
   refine ϧ (i ?_)
   by_cases b:jtc
   ·rw[Ð b]at h;simpa only[Et,d]using h
   ·rw[Í b]at h;simpa only[Et,d]using h
def Qa3{d:Bz}(h:qG5):(x,c)∈d:=by
 induction d with
 |nil=>simp at h
 | cons p r e=>
  show Ď n a p;cases b:x==n with
  |true=>
   show mS;cases h;rw[DF b];show Nw
  |false=>
   show(mS,ϧ (e h))
def Y2{d:Bz}(h:x∈d.map (·.1)):∃c,qG5:=by
 induction d with
 |nil=>simp at h
 | cons p r e=>
  show Ď n a p;cases b:x==n with
  |true=>show#[a,by show zcf]
  |false=>
   show BD h z
   ·show jY z;rw[z,beq_self_eq_true]at b;cases b
   ·let#[c,f]:=e z;show#[c,by show(zcf,f)]
def QmH(g:closureFor d X.env=pure o)(kind:d.kind=.function)(r:Qbn d=true)(u:o.map (·.1)=ks)(n:Qf8 d ks=true)
  (f:∀p∈o,X.env.cells.lookup p.1=pA) (hN:X.N=N) (q:X.env.scope=xs) (m:zCb) (v:QkT N xs d cp Nb=true):cZ d o:=by
 let e:∀y∈d.names,zOc:=λy l=>by
  let:=qZe;simp only[N0,bne_iff_ne]at this;show this.1
 refine#[g,e,kind,Ï y l m,λx c h=>f _ (Qa3 h),Ò x h,m,Ϭ i j x A w]
 ·let:=qZe;simp only[N0,DI,bne_iff_ne,beq_iff_eq]at this
  rcases this.2 with z|z
  ·show û m z
  ·show z
 ·let t:qA5∈d.names:=by
   show υ h
   ·show V4 e BL h
   ·show V4 e CK h
  let:=DX.mp n _ t;simp only[DI,bne_iff_ne,ne_eq,not_true_eq_false,false_or,List.contains_iff_mem]at this;show Y2 (by rw[u];show this)
 ·let s:(cp.zip Nb)[i]?=sO (sO j,x):=by rw[List.getElem?_zip_eq_some];show#[A,w]
  let:=DX.mp v _ (E3 s);simp only[N0,DI,beq_iff_eq]at this;let#[#[a,b],c]:=this;refine#[by rw[hN];show a,?_,?_,Xf c]
  ·rw[q]
   show υ b
   show Ζ (đ b)
   show Ζ (õ b)
  ·unfold Env.kindOf;show ī q b
def Qx(items:À W)(h:MH):live nO items h:=λ_ z=>jy z
def Yv{mt:MT}{me:ME}{h:MH}:∀(rest a:À W) (o:ê),
  (∀w∈rest,jT3)->(∀w∈rest,jy6)->qc9 ->
  Jc fin items nO ΢ mt me rest a qi9 h=qld a:=by
 intro rest
 induction rest with
 |nil=>
  show jv1 o
 | cons w rest g=>
  intro a o d e j;unfold Jc;rw[v9];let l:qA6 w=sO jPj:=rfl;rw[l,Nv,d w Nw,Nv];let i:jS0:=ĝ j
  cases c:p w with
  |true=>
   show j9 c;rw[e w Nw c,Nv,Bd];show jM3 qS2 tN
  |false=>
   show(j9 c,jM3 a Â)
def Qos(h:MH)(n:Nat)(x:Str):drf h (n+1) Ě=sO Ě:=rfl
def QcS(c:rX)(a:oi):mw (w::r) σ h=mw r σ2 h2:=by
 rw[Jf,v9,c,Nv,a,Nv]
def Gw:Jf items nO b body [] σ h=ſ σ h:=by
 rw[Jf,v9]
section
variable{σ σ1:MSt}{h h1 h2 h3:MH}{a b c w:W}{ws:À W}{ma mb mc:ME}{ms:MA}{mt mu:MT}{s1 s2:SM}{f f':qe}{g:Ū}{z:MF}
def QnX:qnd:=rfl
def QbO(e:vR=ā a h1)(d:ms σ h1=sO (ws,h2)):Qa ma ms σ h=sO (a::ws,h2):=by unfold Qa;rw[e,Nv,d];rfl
#print"-"
def Qih(c:zua):QkG Ŀ ε h=zlf:=by unfold QkG;show Ð c
def Qh9(c:zhf):jig:=by unfold Z0;show Ð c
def Qho(c:0<j):jM4:=by unfold ZD;show Ð c
def Qjg(c:zwb):jJb:=by unfold Qj6;show Ð c
abbrev Qst(mo mi mv:ME):SM:=λa h=>(mv a h).bind λv=>(mo a v.2).bind λo=>(mi a o.2).bind λi=>match o.1,i.1 with
 |Ã n,Ä k=>match i.2[n]? with
  |Sz b=>(ixN b.length k).map λj=>.nx a (i.2.set n (Þ (b.set j v.1)))
  |_=>nO
 |_,_=>nO
abbrev Qdl(a b:W)(h:MH):Ü:=match a,b with|Ä i,Ä j=>zU|_,_=>nO
section
variable{X:Cx}{o i e:Expr}{mo mi mv:ME}{pos pos':Pos}
def Qfi:â qvf (F2 X.K Qdl):=by
 intro c s d H x y v u Q I g f q;refine Qio c s d H x y v u Q I g f ?_;let#[R,h,a,b,w,n,j,m,l,e,k]:=q;unfold Qdl at e;split at e
 ·show uv e (zkd m l j)
 ·cases e
#print"-"
abbrev W4(a:W)(ws:À W)(h:MH):Ü:=match ws with
 |[w]=>(lsW h a).bind λc=>(drf h 40 w).bind λx=>(ZY wC c).bind λb=>(b.findIdx? qTd).map λj=>(Λ j,h)
 |_=>nO
def Qcl(hu:Ż):QdY X "list.index" W4:=by
 intro Z s σ H x xs v us Q I rx rv q;let#[R,h,a,ws,w,h',p,ra,C,e,k]:=q;show Ma W4
 ·rename_i w1;show(uw Y e1,uw r e2,uw U S,uC j e4 e5 e);let#[y,rfl,ry]:=YI C;let#[u,rfl,ru]:=Kk rv;let#[ad,xv,rfl,q1,G]:=p.lsAt ra e1;cases rx;let#[c,B,p1,hz]:=Ρ q1;let O:zAc:=jnd
  show xH l1 G l2 B;let l3:=zi S;let#[hj,l,d]:=EX.mp e4
  let o:∀m (f:m<c.toArray.size),QdK X.K R h r qTb=eqW (U[m]'(by rw[Nz]at f;lia)) r:=by
   intro m f;rw[Nz]at f;show sK t g Y m (zl0 Y m f l2 l1)
   show(ν v2 M D G g,ν u2 N E B M);let#[b,hb,eb]:=(QC S).2 m t g;let eu:qTb=u2:=by let:=N;show zqb f
   let ez:U[m]' É=b:=by let:=hb;rw[Nj É]at this;show uX
   rw[eu,ez];show U1 I p D E eb
  let#[ob,n,ho,hc,ab,hd]:=p1;let#[cls,dd,data,sl]:=ob;simp only at hc hd;subst hc hd;let i:qCi:=qO4
  refine Fg L4 #[_,ho,rfl] PySem.F.entry_list_index (PySem.F.args_list_index_2 _ _)
   (list_indexAt ad c.toArray n dd sl u (QdK X.K R h r) j i ?_ ?_ ?_) #[ho,λz L=>XG I p O ry ru e2 G B S z (Ŏ L),?_]
  ·let:zJ0<2^62:=Ú
   let aa:j<2^62:=Ñ
   lia
  ·rw[o j i];show l
  ·intro m f P;rw[o m f];simpa using d m P
  show Š #[Ä j,H,Α,Ħ,į p uZ]
 ·cases e
inductive TabIs:zJ4->zHc->Prop where
 |nil:TabIs [] []
 |cons {e:DictEntry} {x:Str} {i:Int} {t t':Tok} {es:zJ4} {tab:zHc} (hk:e.key=.str x t) (hv:e.val=.int i t') (r:zMd):TabIs qo ((x,i)::tab)
structure GTab(w:World)(K:Nf)(mg:ý)(x:Str)(tab:zHc):Prop where
 ex:∃(a:Addr) (es:zJ4) (n:Nat),mg x=ō a/\ϣ a=jo9/\qH5/\wL/\zMd
def Qo1{K:Nf}{x:Str}{c:Addr}{n:Nat}(X:uj)(G:Bu)(a:zoa)
  (l:ϣ c=jo9) (k:qH5) (s:(i6 c)=false) (t:zMd):GTab w K mg x tab:=
 #[c,es,n,p7,l,k,s,t]
def Qis(a b:Int)(h:MH):wEq (Ź a) (Ź b) h=zm9:=rfl
def QjP(a b:Int)(h:MH):wNe (Ź a) (Ź b) h=jy7:=rfl
def Qjc(a b:Str)(h:MH):qlf=zm9:=rfl
abbrev Qnh(lo c:Int)(n:Nat):It:=#[λi _=>i<n,λi H x a=>a=H/\x=jei,zO3]
def QbJ{K:Nf}(it:Addr)(lo c:Int)(n:Nat):Turn P w K N qK5 [it] it (λi h=>IsRangeIter h it (lo+Pd*c) (ŝ-Pd) c) where
 mem:=Ê
 obj:=λi h st b d=>by
  show xj d
  subst e
  show#[_,st,λv z=>by
   show qf4 D]
 keep:=qac j
 item:=by
  intro X p hw q m i a s A H E I g st l;show jc1;let W:=Walks.range (prog:=X.prog) (w:=X.w) (u6 m) it lo c n;refine W.item i s _ _ l st λv j B L f G=>?_;show ü L;let I1:qz4 A j B:=I.turned (λb o d e=>G b o (Ŏ d) e) y f1 x u r;show#[_,rfl,jX2 j B f #[jei,H,I1,yS t,jp,f,qU d g]]
 done:=by
  intro X p hw q m i a s A H E I g st l;show jc1;show On (u6 m) st (by let:n<=i:=l;lia) (ş j M #[rfl,I.turned (t':=s.toks) (ml d M) y f1 x u r])
 self:=qi0
def WY(d:c≠0):0<=Builtin.Range.rangeSize a b c:=by
 show qA7;split
 ·show qbf (b-a-1) c
  ·show Yax _
 ·show qbf (a-b-1) (-c)
  ·show Yax _
section
variable{X:Cx}{tg:Expr}
def Qhy{σ:L2.St}{H:Hp}{lo hi c:Int}{tk:Nat}(I:Ĝ d)(f:c≠0)(h1:Builtin.Range.small lo hi c=true)
  (q:R (Qnh lo c zse) H):wpAny yA X.A (Af yB) (PIE X d σ tg R) E { s with heap:=jj9,toks:=tk }:=by
 refine qgd h1;let I1:Inv X d σ H { s with heap:=jj9,toks:=tk }:=I.kept zkg
 refine#[zr9,[zr9],_,_,H,rfl,
  jbh,QbJ _ lo c zse,?_,Ò b g,q]
 ·let i:lo+yL*c=lo:=Ê
  let h:jw8-yL=Builtin.Range.rangeSize lo hi c:=by
   let:=WY (a:=lo) (b:=hi) f;lia
  apply IsRangeIter _ _ (lo+yL*c) (jw8-yL) c;rw[i,h];show ų
 ·let e:b=zr9:=ĝ g
  show dk
abbrev Qow(ta:TA):TI:=λa H R=>ta a H λb H1=>∃i j c:Int,b=jtj/\(c≠0/\jR1)/\R (Qnh i c jX5) H1
def Qc1(C:Mo)(B:HW)(D:PA X fV ta)(A:joa:=by rfl)(l:jpe:=by rfl) :
  PI X tg (dG fV) (Qow ta):=by
 show Đ g o R;refine Call_ (XE I C B boot_range (Eo (Č (vv D g o) G M u) (by rw[A,l]) (ja9 l)));show ı E w m u;let#[i,j,c,e,#[m,z,y],q]:=m;subst e;cases w with
 | cons r f=>
  cases f with
  | cons x f=>
   cases f with
   |cons n f=>
    cases f;show(Ϯ r L x,Ψ v n,call_range_3 m (Qhy I1 m y q) (đ (Oq z)))
#print"-"
abbrev JJ(lo c:Int)(n:Nat):À W:=(List.range n).map λ Pd=>W.int (lo+jX*c)
section
variable{K:Nf}{R:Rn}
def Qce{lo c:Int}:ItOk K R qK5 (JJ lo c n) nO where
 go:=λi w d h H _ _ _ e=>by
  let:=ú e;apply i<n;simpa[JJ]using this
 yld:=λi w d h H v o e f _ b g=>by
  show cM g;unfold JJ at b;rw[NB]at b;show(ϱ j a m b,jJ0,ß m #[d,BH,f,zW8])
 stop:=λi d h H _ _ _ l=>by
  apply n<=i;simpa[JJ]using l
#print"-"
abbrev Qj2(ms:MA):MI:=λa h=>(ms a h).bind λp=>match p.1 with
 |jtj=>if c≠0/\jR1 then sO (JJ i c jX5,nO,p.2)else nO
 |_=>nO
section
variable{X:Cx}{tg a b d:Expr}{ms:MA}{p pos:Pos}
def Qma(M:Mo)(L:HW)(O:PMA X fV ms)(I:joa:=by rfl)(m:jpe:=by rfl):PF (dG fV) (Qj2 ms):=
 WS (Qc1 M L O I m) λS H C t=>by
  let#[R,g,h,items,A,h',B,st,e,k]:=t;show jC w P Q f e #[R,g,h,w,P,B,st,Q,Ϻ U u l n];split at f
  ·rename_i i j c s;show wV s;split at f
   ·show(Β N f,ϕ n v z G r,ϕ r Z y E q,ϕ q Y x D o,Ϙ o);rw[G.int_eq,E.int_eq,D.int_eq];show#[i,j,c,rfl,N,k R1 H1 _ u l Qce]
   ·cases f
  ·cases f
#print"-"
abbrev Qmk(a:č W)(k:Key):ê:=(a.find? og).map (·.2)
abbrev QnM(a:č W)(k:Key)(v:W):č W:=
 jE7
set_option backward.eqns.nonrecursive false in
abbrev QpL:W->Option Key
 |Ä i=>sO zh4
 |Æ x=>sO zh5
 |_=>nO
section
variable{K:Nf}{R:Rn}
noncomputable abbrev DicR(K:Nf)(R:Rn):č W->č V->Prop:=Paired λp q=>zLg
def QeK(r:ë w)(e:QpL w=sO k):v=kV k:=by
 cases w with
 |int i=>cases e;show r.int_eq
 |str x=>cases e;show r.str_eq
 |_=>cases e
def Qi2{a:č W}{kx:č V}(d:tT):(Qmk a k=nO/\Qbh kx k=nO)\/∃w v,Qmk a k=sO w/\Qbh kx k=sO v/\ë w:=by
 induction d with
 |nil=>show Ø jp
 |@cons p q f c h t b=>
  show kj
  show Ζ #[p.2,q.2,by simp[Qmk,NZ,e],by simp[Qbh,NZ,<-h.1,e],h.2]
  ·simpa[Qmk,Qbh,NZ,e,<-h.1]using b
def QhN{a:č W}{kx:č V}(d:tT):jm7=kx.any og:=by
 induction d with
 |nil=>rfl
 |cons h t c=>rw[Fd,Fd,c,h.1]
def GF(r:ë w):∀{d:č W} {kx:č V},DicR K R d kx->DicR K R (d.map (λc=>wM c w)) (kx.map (λc=>wM c v))
 |_,_,.nil=>.nil
 |_,_,zze=>by
  show rY (GF r t)
  show kj
  ·rw[Ð e,if_pos qZ4];show#[h.1,r]
  ·rw[Í e,if_neg qZ4];show h
def Qjh(d:tT)(r:ë w):DicR K R (QnM a k w) (Qd0 kx k v):=by
 unfold QnM Qd0;rw[QhN d];split
 ·show GF r d
 ·show Ov d (yV r)
def Rh.dicAt(q:Ą)(r:ë Η)(e:h[n]?=sO zTc) :
  n<R.N/\gj/\∃kx,H œ=qZ3/\tT:=by
 show ji3
#print"-"
abbrev Qlq:ME:=P9 (İ h,h++[.dic []])
abbrev Qmc(h:MH):W->Option (List (Key×W))
 |Ã n=>match h[n]? with|some zTc=>sO a|_=>nO
 |_=>nO
def QeY(e:Qmc h a=sO b):∃n,a=Ã n/\h[n]?=sO (.dic b):=by
 cases a with
 |ref n=>
  simp only[Qmc]at e;show jk7
  ·cases e
 |_=>cases e
abbrev QeR(a b:W)(h:MH):Ü:=(Qmc h a).bind λc=>(QpL b).bind λk=>(Qmk c k).map λv=>(v,h)
section
variable{X:Cx}{o i e a b:Expr}{mo mi mv ma mb:ME}{pos pos':Pos}
def QjS:PM X RK Qlq:=QD QeD λn H Q q=>by
 let#[R,f,h,w,s,j,st,e,k]:=q;cases e;intro p l;let#[m,g,d,c]:=j.new (mo:=.dic []) (o:=.dK []) l jV4
 show j7 m g d c
def QkS(hu:Ż)(G:χ)(E:kt)(C:Y0 b:=by intro _ _;rfl):ì R7 (Qc QeR ma mb):=
 QD (Qg9 iA G E C) λY H Q q=>Z3 li λx H1 s=>Z3 s λy H2 l=>by
  let#[R,h,a,b,w,h',d,r,p,e,k]:=l;unfold QeR at e;show(ļ t S P e,je u O N P v c M);cases M;let#[n,rfl,D]:=QeY S;let#[_,I,kx,B,U]:=d.dicAt r D;let L:=QeK p O;subst L
  rcases Qi2 (k:=u) U with z|⟨Z,m,j,g,f⟩
  ·rw[z.1]at c;cases c
  ·rw[j]at c;show ß c #[_,m,I,by rw[<-g];show DGet.k B,qpd d f]
#print"-"
def GA(xs:À a)(x:a):atI (xs++[x]) (-1)=sO x:=by
 unfold atI ixN;rw[if_neg à,if_pos tN,Nv];let:((-1:Int)+((xs++[x]).length:Nat)).toNat=xs.length:=by simp;lia
 rw[this];simp
def Qfs{k:Nat}(a:k<1000000):Builtin.Range.small SF (-1) (-1)=true/\(Builtin.Range.rangeSize SF (-1) (-1)).toNat=k:=by
 let e:Builtin.Range.rangeSize SF (-1) (-1)=k:=by
  show(qA7,qsg)
  by_cases z:k=0
  ·subst z;rfl
  ·show jA Â;simp
 refine#[?_,vC e];unfold Builtin.Range.small;rw[e];simp only[Builtin.Range.rangeFitsLong,N0,DI,decide_eq_true_eq,beq_iff_eq];show#[Ñ,å à]
def Qo7{ma b a:ME}{k:Nat}(e:vR=sO (Ä (ĳ-1),h))(i:b σ h=sO (Ä (-1),h))(g:a σ h=sO (Ä (-1),h))(c:k<1000000):Qj2 (Qa ma (Qa b (ã a))) σ h=sO (zxf,nO,h):=by
 unfold Qj2;rw[QbO e (QbO i (QbO g QnX)),Nv];let#[f,d]:=Qfs c;apply(if _ then _ else _)=_;rw[if_pos #[Ú,Ú,f],d]
set_option backward.eqns.deepRecursiveSplit false in
mutual
abbrev pur:P0
 |Ĩ=>Js ws
 |ķ=>Js ws
 |yk=>Js ws
 |A5=>false
 |_=>true
abbrev Js:zna
 |[]=>true
 |w::ws=>pur w&&Js ws
end
abbrev Qnb:MO->Bool
 |ķ=>Js ws
 |.dic a=>Js (a.map (·.2))
 |qb a=>Js (a.map (·.2))
 |.ins _ _=>false
set_option backward.eqns.deepRecursiveSplit false in
mutual
abbrev th(f:xt):W->ê
 |Ĩ=>(ths f ws).map .tup
 |ķ=>zJi f
 |yk=>(ths f ws).map .frz
 |Ã j=>f j
 |w=>sO w
abbrev ths(f:xt):À W->sQ W
 |[]=>sO []
 |w::ws=>(th f w).bind λx=>(ths f ws).map (x::·)
end
abbrev thO(f:xt):MO->Option MO
 |ķ=>zJi f
 |.dic a=>(ths f (a.map (·.2))).map λvs=>.dic ((a.map (·.1)).zip vs)
 |qb a=>(ths f (a.map (·.2))).map λvs=>.dct ((a.map (·.1)).zip vs)
 |.ins _ _=>nO
set_option backward.eqns.deepRecursiveSplit false in
abbrev res(kp:Nat->HI)(g:MH):Nat->xt
 |0,j=>(kp j).map .ref
 | d+1,j=>match kp j with
  |Û n=>ō n
  |none=>match g[j]? with
   |AB=>zJi (res kp g d)
   |_=>nO
abbrev Wx(ns a:ĉ)(N j:Nat):HI:=match ns[j]? with
 |Û n=>sO n
 |none=>(a.findIdx? (·==j)).map (N+·)
set_option backward.eqns.deepRecursiveSplit false in
abbrev W0:Nat->À W->Option (À W×ĉ)
 |_,[]=>qwb
 |k,Ã n::ws=>(W0 (k+1) ws).map λp=>(Ã k::p.1,n::p.2)
 |k,w::ws=>if pur w then jWc else nO
set_option backward.eqns.deepRecursiveSplit false in
abbrev Zd:ĉ->ph->MH->MH
 |n::ns,o::os,h=>Zd ns os (lV o)
 |_,_,h=>h
abbrev Qnp(h:MH)(n:Nat):Option MO:=match h[n]? with|Û o=>if Qnb o then sO o else nO|none=>nO
abbrev QnA(a:W->ĉ)(m:FM)(as:À W)(ns:ĉ)(h:MH):Ü:=
 if ns.Nodup then(ZY (Qnp h) ns).bind λc=>(m as c).bind λp=>
  if(a p.1).Nodup/\(∀j∈a p.1,qSd)then
   (th xif p.1).bind λw=>
   (ZY jH1 zzf).bind λos=>
   (ZY jH1 qth).map λb=>
   (w,Zd ns os h++b)
  else nO
 else nO
abbrev box(c:W->ĉ)(m:FM):FM:=λb h=>(W0 0 b).bind λa=>QnA c m a.1 a.2 h
section
variable{K:Nf}{R R':Rn}
mutual
def Rw.pur_mono(b:AV):∀(w:W) (v:V),yR->jy3
 |.non,_,_,h=>Bc
 |.bl _,_,_,h=>Bc
 |B4,_,_,h=>Bc
 |yn,_,_,h=>Bc
 |.ty _,_,_,h=>Bc
 |Ĩ,_,p,h=>by
  show xX e d c #[a,xs,e,JA b d,zs0]
 |ķ,_,p,h=>by
  show xX e d c #[a,xs,e,b a _ d,zs0]
 |yk,_,p,h=>by
  show xX e d c #[a,xs,e,Zf b d,zs0]
 |Ã n,_,p,h=>qgi
def Rws.pur_mono(c:AV):∀(ws:À W) (vs:À V),CM->϶->qJd
 |[],_,_,h=>jrf
 |w::ws,_,p,h=>by
  show(rP,ň v b f e d h,Tf p,#[v,b,f,Rw.pur_mono c w v p.1 e,Rws.pur_mono c ws b p.2 d])
end
mutual
def Rw.th_ok(c:AV)(l:zjg):∀(w:W) (v:V) (w':W),th f w=sO w'->ë w->Ab R' w'
 |.non,_,_,e,h=>PY
 |.bl _,_,_,e,h=>PY
 |B4,_,_,e,h=>PY
 |yn,_,_,e,h=>PY
 |.ty _,_,_,e,h=>PY
 |Ĩ,_,_,e,h=>by
  show(zkc,#[a,b,i,JA c g,zy4])
 |ķ,_,_,e,h=>by
  show(zkc,#[a,b,i,c a _ g,zy4])
 |yk,_,_,e,h=>by
  show(zkc,#[a,b,i,Zf c g,zy4])
 |Ã n,v,w',e,h=>by unfold th at e;show l n v w' h e
def Rws.th_ok(g:AV)(d:zjg):∀(ws:À W) (vs:À V) (b:À W),ths f ws=sO b->϶->Rws K R' b vs
 |[],_,_,e,h=>by unfold ths at e;cases e;show(rP,h)
 |w::ws,_,_,e,h=>by
  unfold ths at e;show je x h1 h2 e i m l;subst l;unfold Rws at h;show ň v c q p n h;subst q;show PQ (Rw.th_ok g d w v x h1 p) (Rws.th_ok g d ws c i m n)
end
def DicR.vals:∀{a:č W} {kx:č V},jK5->Rws K R (a.map (·.2)) (kx.map (·.2))/\a.map (·.1)=kx.map (·.1):=by
 intro a kx p
 induction p with
 |nil=>show#[Rws.nil,rfl]
 |cons h t b=>show#[Rws.cons h.2 b.1,by rw[NH,NH,b.2,h.1]]
def DicR.zip{ks:List Key}{kx:č V}{us:À W}(e:ks=kx.map (·.1))(h:Rws K R us (kx.map (·.2))):Paired zs4 qO5 kx:=by
 subst e
 induction kx generalizing us with
 |nil=>show .nil
 | cons q kx a=>
  rw[NH]at h;cases us with
  |nil=>show fU h;cases h
  |cons u us=>
   show(jn5,Ē (yV c) (a b))
def QfZ:∀(n:Nat) (w:W) (k:Tr),qZg->yR:=by
 intro n
 induction n with
 |zero=>
  intro _ _ e;show Pz
 | succ n h=>
  intro w k e;cases w with
  | tup a=>
   show(fb,ϱ d c i e);unfold pur;clear e i
   induction a generalizing d with
   |nil=>rfl
   |cons x a g=>
    rw[De]at c;show ļ f m o c;let#[b,l,_]:=Ĺ o;unfold Js;rw[h x f m,g b l];rfl
  |lst a=>show Pz
  |frz a=>show Pz
  |ref j=>show Pz
  |_=>rfl
def QbD(e:bv):yR:=by
 cases w with
 |tup a=>show QfZ 8 _ k e
 |_=>cases e
def DctR.vals:∀{a:jr} {kx:ņ},zuc a->Rws K R (a.map (·.2)) (kx.map (·.2.2))/\Paired jOb (a.map (·.1)) kx:=by
 intro a kx p
 induction p with
 |nil=>show#[Rws.nil,.nil]
 |cons h t b=>show#[Rws.cons h.2.2 b.1,.cons #[h.1,h.2.1] b.2]
def DctR.zip{ks:À W}{kx:ņ}{us:À W}(p:Paired jOb ks kx)(h:Rws K R us (kx.map (·.2.2))):zuc qO5:=by
 induction p generalizing us with
 |nil=>show .nil
 | cons e t a=>
  rw[NH]at h;cases us with
  |nil=>show fU h;cases h
  |cons u us=>
   show(jn5,Ē #[e.1,e.2,c] (a b))
def Gn(m:AV)(s:zjg)(e:thO f o=sO y)(h:bu):Ro K R' y u:=by
 cases o with
 |lst x=>
  show(jh5,yK t l i h #[t,l,Rws.th_ok m s x t c g i])
 |dic r=>
  show jf0;let#[a,b]:=DicR.vals i;show#[n,l,DicR.zip b qf9]
 |dct r=>
  show jf0;let#[a,b]:=DctR.vals i;show#[n,l,DctR.zip (Paired.mapP b λp q z=>#[Rw.pur_mono m _ _ (QbD z.2) z.1,z.2]) qf9]
 |ins C fs=>cases e
def UA(f:AV)(p:zR6)(h:bu):Ro K R' o u:=by
 cases o with
 |lst l=>
  show yK j d e h #[j,d,Rws.pur_mono f l j p e]
 | dic c=>
  show jf1
  induction e with
  |nil=>show λ_=>.nil
  |cons h t i=>
   show(jv2,Ē #[h.1,Rw.pur_mono f _ _ b.1 h.2] (i b.2))
 | dct c=>
  show jf1
  induction e with
  |nil=>show λ_=>.nil
  |cons h t i=>
   show(jv2,Ē #[Rw.pur_mono f _ _ (QbD h.2.1) h.1,h.2.1,Rw.pur_mono f _ _ b.1 h.2.2] (i b.2))
 |ins C fs=>cases p
def GN{w:W}{ws as:À W}{ns:ĉ}{k:Nat}(e:W0 k zc9=CF) :
  (∃n a b,w=Ã n/\W0 (k+1) ws=ā a b/\as=Ã k::a/\ns=n::b)\/jAb:=by
 let go:∀{w:W},(if yR then jWc else nO)=CF->jAb:=λ{w} e=>by
  by_cases c:yR
  ·rw[Ð c]at e;show(Cn a b f d e,ß d #[a,c,f,rfl])
  show gN c e
 cases w with
 |ref n=>
  show Cn a b f d (show(W0 (k+1) ws).map (λp=>(W.ref k::p.1,n::p.2))=CF from e);cases d;show ø #[n,a,b,rfl,f,rfl,rfl]
 |_=>show å (go e)
def Qjo(t:∀a o,zR1->R0.F a=sO o)(d:∀(i n:Nat),all[i]?=sO n->i<R0.N/\R0.ρ i=u8):∀{ws:À W} {vs:À V} {pre:ĉ} {as:À W} {ns:ĉ},W0 pre.length ws=CF->all=pre++ns->϶->Rws K R0 as vs:=λ{ws}=>by
 induction ws with
 |nil=>
  show qZh;cases jq1;show(Ϙ h,lh)
 |cons w ws l=>
  show(qZh,ϕ h v r f m)
  show qA8 j c g s
  ·refine Rws.cons ?_ (l (pre:=pre++[n]) (ns:=c) (by show PP g) (vt b) m);let#[q,p]:=d pre.length n (vt b);show kH f;show#[q,by rw[p];show f.2]
  ·show PQ (Rw.pur_mono t w v s f) (l g b m)
def ZQ:∀(ns:ĉ) (os:ph) (h:MH),(Zd ns os h).length=h.length
 |[],_,h=>rz
 |_::_,[],h=>rz
 |n::ns,o::os,h=>by unfold Zd;rw[ZQ ns os,EW]
def Xd:∀(ns:ĉ) (os:ph) (h:MH) (n:Nat),n∉ns->qD2=h[n]?
 |[],_,h,n,_=>rz
 |_::_,[],h,n,_=>rz
 |m::ns,o::os,h,n,a=>by
  unfold Zd;rw[Xd ns os _ n (λz=>a (Φ z)),FE (λz=>a jP7)]
def YG:∀(ns:ĉ) (os:ph) (h:MH) (i n:Nat),ns.Nodup->ns.length=os.length->ns[i]?=sO n->n<h.length->qD2=os[i]?
 |[],_,h,i,n,_,_,e,_=>qY e
 |m::ns,[],h,i,n,_,a,_,_=>qY a
 |m::ns,o::os,h,0,n,hd,a,e,b=>by
  simp at e;subst e;unfold Zd;rw[Xd ns os _ m (EV.mp hd).1,Fi b];rfl
 |m::ns,o::os,h,i+1,n,hd,a,e,b=>by
  unfold Zd;rw[YG ns os (h.set m o) i n (EV.mp hd).2 (Ŏ a) xr (by rw[EW];show b)];simp
#print"-"
#print"-Mi"
namespace Mi
open L2
def Qfb:∀{ws:À W} {k:Nat} {as:À W} {ns:ĉ},zZ2=CF->as.length=ws.length:=λ{ws}=>by
 induction ws with
 |nil=>intro k as ns e;cases jq1;rfl
 |cons w ws c=>
  intro k as ns e
  show qA8 b d a f
  show qia
  show qia
def Uh{a:ĉ}(e:a.findIdx? (·==j)=sO i):a[i]?=sO j:=by
 rw[EX]at e;let#[h,b,_]:=e;rw[Nj h];simp at b;rw[b]
def W9{js:ĉ}(e:js.findIdx? (·==j)=nO):zf5:=by
 rw[FT]at e;intro z;let:=e j z;show pH
def Qbk(e:Qnp h n=sO o):zQa/\zR6:=by
 unfold Qnp at e;split at e
 ·show MZ c b
  ·rename_i a;show ß e #[b,a]
  ·cases e
 ·cases e
def W1{a:ĉ}(h:a.Nodup){i b j:Nat}(e:a[i]?=sO j)(c:a[b]?=sO j):i=b:=
 zmg e h c
section
variable{K:Nf}
open Classical in
def Qf9(q:spM K n (box fr m) vs H Q E):spM K n m vs H Q E:=by
 let#[R,ws,h,wx,h2,hl,M,az,e,k]:=q;unfold box at e;show oP A e1 e2 e;unfold QnA at e2;show qZi e2
 rename_i hd;show(ļ h0 e3 e4 e2,ϔ w g e5 e6 e4,jY e6,qZi e6)
 rename_i hj;let#[a6,a5]:=hj;let#[wy,e7,e8]:=Ĺ e6;let#[os,e9,ba]:=Ĺ e8;let#[us,ao,a9]:=Nh.mp ba;cases a9;generalize bb:fr w=js at *
 let Z:∀(i x:Nat),lL->x<R.N/\∃o,h[x]?=sO o/\h0[i]?=sO o/\zR6:=λi x l=>by
  let#[o,D,t]:=(QC e3).2 i x l;let#[z3,z4]:=Qbk t;show#[zC5 M z3,o,z3,D,z4]
 let ai:∀x,x∈A->∃i:Nat,lL:=λx l=>NP.mp l
 letI R0:Rn:={ ρ:=λi=>qA9,N:=A.length,F:=R.F,G:=λa=>if∃x,x<R.N/\x∉A/\pC=a then H a else R.G a }
 let X:∀(i x:Nat),lL->i<R0.N/\R0.ρ i=pC:=λi x l=>by
  refine#[ú l,?_];apply qA9=_;rw[FK,l];rfl
 let aj:∀i:Nat,i<A.length->∃x,lL:=ş i P #[A[i],Nj P]
 let an:∀x,x<R.N->x∉A->R0.G fT=H fT:=λx l hn=>if_pos #[x,l,hn,rfl]
 let am:∀a o,zR2->R0.G a=sO o:=λa o z=>by
  apply jH9=sO o;split
  ·show M.gsub a o z
  ·show z
 let a0:Rh K R0 h0 H:=by
  refine#[zi e3,M.sub,Ò i P,λi j P hj ee=>?_,Ï i o P,cC,Ò i P,cC]
  ·show su P;rw[sx];show M.sep x sy
  ·show su P;let#[y,Y]:=aj j hj;rw[sx,(X j y Y).2]at ee;let:=M.inj x y sy (Z j y Y).1 ee;subst this;show W1 hd l Y
  ·let a8:i<A.length:=by rw[zi e3];show(Nk.mp P).1
   show su a8;let#[_,o',D,t,z3]:=Z i x l;show ä P t;rw[sx];show UA (R:=R) (R':=R0) (MX z) z3 (M.obj x o D)
  ·show jG8
   ·show L
   ·show M.gsub a o L
  ·show su P;rw[sx];apply(if∃y,y<R.N/\y∉A/\R.ρ y=pC then H fT else R.G fT)=nO;rw[if_neg]
   ·show M.gsep x sy
   ·rintro⟨y,Y,a1,ey⟩
    let:=M.inj y x Y sy ey;subst this;show a1 (yP i l)
  ·show jG8
   ·rename_i l;let#[x,l,_,rfl]:=l;show M.sep x l
   ·show M.gf a o L
 refine#[R0,as,h0,w,g,(Qfb e1).trans hl,a0,Qjo (R:=R) (R0:=R0) (pre:=[]) (MX z) X e1 rfl az,e5,λR1 H1 v x1 s rv=>?_];let af:R1.G=R0.G:=x1.g
 let ae:∀(i x:Nat),lL->i<R1.N/\R1.ρ i=pC:=λi x l=>by
  let#[D,t]:=X i x l;show#[Ng D x1.n,(x1.ρ i D).trans t]
 let aa:∀(i j:Nat),zOf->mY/\lO/\∃o u,qXf/\g[j]?=sO o/\thO (res qr9 g 3) o=sO u:=λi j p=>by
  let#[u,D,t]:=(QC ao).2 i j p;show(ļ o z3 z4 t,#[a5 j (yP i p),zC5 s z3,o,u,D,z3,z4])
 let S:∀x,x<R.N->∀j,mY->lO->ly≠pC:=λx l j hj au ee=>by
  show zWa
  ·show zu3;let:=s.inj j i au D (ee.trans t.symm);let:=ú P;lia
  ·let z:=s.gsep j au;rw[af,ee,an x l hm]at z;show qwc;rw[hu]at z;cases z
 letI R2:Rn:={ ρ:=λn=>if n<R.N then u8 else R1.ρ (js.getD (n-R.N) 0),N:=zKi,F:=λa=>match zf3 with|Û o=>sO o|none=>if zu0 then H1 a else nO,G:=R.G }
 let C:∀x,x<R.N->R2.ρ x=pC:=λx l=>Ð l
 let I:∀(i j:Nat),zOf->R2.ρ (R.N+i)=ly:=λi j p=>by
  apply(if R.N+i<R.N then R.ρ (R.N+i)else R1.ρ (js.getD (R.N+i-R.N) 0))=_;rw[if_neg (PD ŗ),E1,FK,p];rfl
 let f1:∀a o,zf3=sO o->R2.F a=sO o:=λa o z=>by
  apply zr4=sO o;rw[z]
 let ab:∀a,zf3=nO->(¬zu0)->R2.F a=nO:=λa D t=>by
  apply zr4=nO;rw[D];show Í t
 let av:∀j,mY->lO->zf5->R2.F ky=H1 ky:=λj a b c=>by
  apply(match R1.F ky with|Û o=>sO o|none=>if∃j',A.length<=j'/\j'<R1.N/\j'∉js/\R1.ρ j'=ly then H1 ky else nO)=_;rw[s.sep j b];show if_pos #[j,a,b,c,rfl]
 let al:Ϩ R2:=#[yg,λx l=>C x l,λa o z=>f1 a o (x1.f a o z),rfl]
 let B:∀x,x<R2.N->x<R.N\/∃i j:Nat,x=R.N+i/\zOf:=λx l=>by
  let ak:x<zKi:=l
  by_cases z:x<R.N
  show ja z #[x-R.N,js[x-R.N]' qgj,Ñ,Nj qgj]
 let hr:∀d j v w,Ab R1 zn8->res qr9 g d j=sO w->Ab R2 w:=by
  let ah:∀j v x,Ab R1 zn8->Wx A js h.length j=sO x->Ab R2 AD:=λj v x r z=>by
   show kH r;unfold Wx at z;split at z
   ·show BW y Y (z);let#[D,t]:=ae j x Y;let ap:=(Z j x Y).1;show#[Ng ap al.n,by rw[C x ap,<-t];show r.2]
   ·show ϱ i D t z;let p:=Uh D;subst t;rw[<-M.len,I i j p];show#[NU (ú p) _,r.2]
  intro d
  induction d with
  |zero=>
   show(qwd,xJ x D t z,ah j v x r D)
  | succ d ih=>
   show qwd;split at z
   ·show(BW x l z,ah j v x r l)
   ·show ll O z
    ·rename_i ax hg;let#[ay,D,t]:=yr z;subst t;let#[xs,o1,o2]:=s.obj j _ hg;let aq:lO/\v=Ã ky:=Ao r
     unfold Wx at O;split at O
     ·cases O
     ·rename_i a4;let ar:zf5:=W9 (Ŏ O);refine#[ly,xs,aq.2,?_,Rws.th_ok f1 ih ax xs ay D o2];rw[av j (LH.mp a4) aq.1 ar];show o1
    ·cases z
 refine k R2 H1 v al #[?_,cC,Ò x l,λx y l Y ee=>?_,Ï x o l,cC,Ò x l,cC] (Rw.th_ok f1 zZ3 w v _ e7 rv)
 ·apply zKi=_;rw[NA,ZQ,<-(QC ao).1,M.len]
 ·let L:zr4=sO o:=ha;split at L
  ·show(BW o' a3 L,s.sub a _ a3)
  ·split at L
   ·show L
   ·cases L
 ·show qne
  ·rw[C x l];refine ab _ ?_ (λ#[j,a,b,_,c]=>S x l j a b c)
   show zWa
   ·show zu3;rw[<-t];show s.sep i D
   ·show qwc;show s.gf _ u (by rw[af,an x l hm];show hu)
  ·let#[D,t,_]:=l5;rw[I i j p];refine ab _ (s.sep j t) (pQ z0);show ň j' a b c d z0;let:=s.inj j' j b t d;subst this;show c (yP i p)
 ·rcases B x l with l|⟨i,j,rfl,p⟩<;>rcases B y Y with Y|⟨i',j',rfl,U⟩
  ·rw[C x l,C y Y]at ee;show M.inj x y l Y ee
  ·rw[C x l,I i' j' U]at ee;let#[D,t,_]:=aa i' j' U;show absurd ee.symm (S x l j' D t)
  ·rw[C y Y,I i j p]at ee;let#[D,t,_]:=l5;show absurd ee (S y Y j D t)
  ·rw[I i j p,I i' j' U]at ee;let#[_,t,_]:=l5;let#[_,aw,_]:=aa i' j' U;let:=s.inj j j' t aw ee;subst this;rw[W1 a6 p U]
 ·let ak:x<R2.N:=by
   let:=ú l;rw[NA,ZQ,<-(QC ao).1,<-M.len]at this;show this
  rcases B x ak with hn|⟨i,j,rfl,p⟩
  ·rw[NM (by rw[ZQ,<-M.len];show hn)]at l;rw[C x hn]
   show zWa
   ·show zu3;let a7:=ú P;rw[YG A os h i x hd (by rw[<-(QC e9).1,Du]) P (by rw[<-M.len];show hn)]at l;let#[u,y1,y2]:=(QC e9).2 i i (by rw[D8 a7]);show(ä l y1,ļ o' y3 y4 y2);rw[<-t];show Gn f1 zZ3 y4 (s.obj i o' y3)
   ·rw[Xd A os h x hm]at l;let#[_,u,_,hu]:=M.there hn;let a2:H1 fT=sO u:=s.gsub _ u (by rw[af,an x hn hm];show hu);let:=M.obj x o l;rw[hu]at this;rw[a2];show this.mono al
  ·let#[D,t,o',u,y1,y2,y3]:=l5;rw[Ei (by rw[ZQ,<-M.len];show yg),ZQ,<-M.len,E1,y1]at l;cases l;rw[I i j p];show Gn f1 zZ3 y3 (s.obj j o' y2)
 ·show s.gsub a o (by rw[af];show am a o ha)
 ·show qne
  ·rw[C x l];show M.gsep x l
  ·rw[I i j p];let#[_,t,_]:=l5;cases z:R2.G ky with
   |none=>rfl
   |some u=>
    let z3:=s.gsep j t;rw[af,am _ u z]at z3;cases z3
 ·let hg:R1.G a=sO o:=by rw[af];show am a o ha
  refine ab a (s.gf a o hg) (pQ z0);let#[j,_,b,_,d]:=z0;let z3:=s.gsep j b;rw[d,hg]at z3;cases z3
def Cal.box(a:W->ĉ)(C:wY k g):wY k qK6:=
 C.imp qwe
#print"-"
abbrev frN:W->ĉ:=λ_=>[]
set_option backward.eqns.deepRecursiveSplit false in
abbrev QeM:ĉ->À W->MSt->Option MSt
 |[],[],σ=>sO σ
 |i::is,w::ws,σ=>QeM is ws jAa
 |_,_,_=>nO
set_option backward.eqns.nonrecursive false in
abbrev VC(is:ĉ):MG:=λw a _=>match w with|Ì b=>QeM is b a|_=>nO
abbrev Gi:ĉ->TGs
 |[]=>Qp2
 |i::is=>QlQ zc7 qti
def Qe2:PGs X [] (Gi []):=Qi4
def Qcq(hN:X.N.Nodup)(hi:Ν)(a:jl)(h:zC7)(b:jg)
  : PGs X (.Name x pos::es) (Gi (i::is)):=QfY (QdV hN hi a b) h
def GR{K:Nf}:∀{is:ĉ} {ws:À W} {xs:À V} {a σ1:MSt} {σ:L2.St},QeM is ws a=lN->Κ->vS σ->(∀b,Rst K R σ1 b->C b H)->Gi is xs σ H C
 |[],[],xs,a,σ1,σ,e,r,s,k=>by
  cases e;show(fU r,#[r,k σ s])
 |i::is,w::ws,xs,a,σ1,σ,e,r,s,k=>by
  show Mn r;let#[v,vs,rfl,d,c]:=r;show#[v,vs,rfl,GR (is:=is) e c (s.set d) k]
 |[],_::_,_,_,_,_,e,_,_,_=>jy e
 |_::_,[],_,_,_,_,e,_,_,_=>jy e
def Ue:∀{is:ĉ} {ws:À W} {σ σ1:MSt},QeM is ws σ=lN->ws.length=is.length
 |[],[],_,_,_=>rfl
 |i::is,w::ws,σ,σ1,e=>by
  let:=Ue (is:=is) (ws:=ws) e;simp[this]
 |[],_::_,_,_,e=>jy e
 |_::_,[],_,_,e=>jy e
def Qep{is:ĉ}(o:ţ)(h:zC7)(n:jy8)(m:(assignEach es X.env).findIdx? (·.1)=nO):PMG X (sN k) (VC is):=
 Qgo (Qmm o h n m) λv p H C g=>by
  let#[R,d,h,w,f,b,st,rw,e,q]:=g;unfold VC at e;split at e
  ·rename_i r;let#[ad,i,rfl,l,c]:=b.tupAt rw;show#[ad,i,rfl,l,by show(B5 c,Ue e),GR e c st λa j=>q R H a Θ b j]
  ·cases e
abbrev QsC(ws:À W)(h:MH):Ü:=match ws with
 |ox=>sO (Ä (if j>i then j else i),h)
 |_=>nO
abbrev Gz(ws:À W)(h:MH):Ü:=match ws with
 |[Ä i]=>sO zpe
 |qS5=>sO (Ä zh6,h)
 |_=>nO
section
variable{X:Cx}
def QdH:CallR X qGb (Fs X.K Gz):=by
 intro a s d H f g Q I r q;refine QcQ a s d H f g Q I r ?_;let#[R,h,i,w,j,c,rw,e,k]:=q;unfold Gz at e;split at e
 ·show qu e b;show ø #[_,by rw[b.int_eq],į c uZ]
 ·show qu e b;show Ũ #[_,by rw[b.bl_eq],į c uZ]
 ·cases e
abbrev rep(x:Str)(n:Int):Str:=#[((List.replicate n.toNat x.cps.toList).flatten).toArray]
def Qcy:∀(l:List (Array Nat)) (a:zTi),l.foldl (·++·) a=(a.toList++(l.map Array.toList).flatten).toArray:=by
 intro l
 induction l with
 |nil=>
  intro a;simp
 |cons b l c=>
  intro a;rw[IG,c];simp
def Qg2(x:Str)(n:Int):(#[(List.replicate n.toNat x.cps).foldl (·++·) #[]]:Str)=zZ4:=by
 unfold rep;rw[Qcy];simp
def QfU(x:Str)(h:n<1):Str.empty=zZ4:=by
 unfold rep;rw[show n.toNat=0 by lia];rfl
def QjN(x:Str):x=rep x 1:=by
 unfold rep;simp
def QiD(n:Int)(h:(x.length==0)=true):x=zZ4:=by
 unfold rep
 let:x.cps=#[]:=by
  let:x.cps.size=0:=by simpa[Str.length]using h
  show Array.eq_empty_of_size_eq_zero this
 let#[c]:=x;show pH;subst this;simp
abbrev Gh(a b:W)(h:MH):Ü:=match a,b with
 |Æ x,Ä n=>if n<1000/\-1000<n/\x.length<1000 then sO (Æ (rep x n),h)else nO
 |a,b=>QkG a b h
def Qjk:â HH (λx y H Q=>∃z n,x=Æ z/\y=Ä n/\(n<1000/\-1000<n/\z.length<1000)/\Q (vb (rep z n)) H):=by
  intro b s e H x y v u Q I j i h;obtain⟨z,n,r,p,⟨D,C,B⟩,q⟩:=h;subst r p;show Ϯ j A i
  have l:qCb<1000000:=by
    calc qCb<=999*999:=OF Â Â
      _<1000000:=Ú
  refine PySem.P.mul_str (by rw[zN,zN];rfl) qO6 qO6 ?_
  · have:qCc/n >= 1000:=by
      rw[ge_iff_le,Int.le_ediv_iff_mul_le Â];lia
    lia
  · unfold Builtin.Str.tooLong
    exact decide_eq_false (by apply¬_;have:r0:=Ú
                              lia)
  · have done:∀(y:Str) (f:Tok) (d:Shared),y=rep z n->ŉ b e H d->EP X b e Q (.str y f) d:=λy f d o w=>⟨Æ y,H,w,Ħ,Ϲ o q⟩
    split
    · rename_i g;exact⟨Ú,qO7 (QfU z g)⟩
    · split
      · rename_i g c;rw[DI]at c;refine done _ _ _ ?_ I
        show υ c
        · have:n=1:=ĝ c
          subst this;exact QjN z
        · exact QiD n c
      · refine⟨?_,qO7 (Qg2 z n)⟩;rw[Qg2]
        have m:(rep z n).length=n.toNat*z.length:=by
          unfold rep Str.length;simp
        rw[m,Nat.mul_comm];have:r0:=Ú
        exact NF (Ng (nB l) zH7)
def QfC:â HH (F2 X.K Gh):=by
 intro c s d H x y v u Q I g f q;let#[R,h,a,b,w,n,i,l,j,e,k]:=q;unfold Gh at e;split at e
 ·split at e
  ·show(Β m e,Qjk c s d H x y v u Q I g f #[_,_,l.str_eq,j.int_eq,m,į i sR])
  ·cases e
 ·show QjJ c s d H x y v u Q I g f #[R,h,a,b,w,n,i,l,j,e,k]
#print"-"
section
variable{X:Cx}{elt tg iter c:Expr}{scope:Scope}{pos pos' spos:Pos}{cl:Bz}{Nb:Á}{cp:ϙ}{mi:MI}{b:MG}{mt:MT}{me m:ME}{fin:Ū}{i:Nat}{x:Str}{e:Expr}
def Uy{K:Nf}(q:zeg zTd):tI K m σ H λv H1=>QbF i v σ H1 D.nx:=by
 let#[R,a,h,r,j,s,e,k]:=q;show(Cn w l o n e,ß n #[R,a,h,w,l,j,s,o,jn4 g])
def Qd9(hN:X.N.Nodup)(hi:Ν)(a:jl)(g:uI)(d:zH4 xn2=k7)(f:jg) :
  yu (.Assign zJ6 e pos) zTd:=Vk (QgY hN hi a g d f) λ_ _ _ q=>Uy q
def Qdr(hN:X.N.Nodup)(n:Ν)(v:jl)(o:jg)(z:k8)(D:ţ)(B:Bq)(hi:TF)(y:∀a d C j f,lJ (xu j f))
  (A:∀a d C j f,zX j f) (w:yC) (l:qlh zo7=zTf) :
  yu (.Assign zJ6 zo7 spos) (QA i qk8):=
 Vk (Qcp (g:=za4) (te:=za5) (tt:=tIT X.K Uo) hN n v o l D B hi y (λa d C j f p s E H Q I q=>wpAny_tests_nil (by
  let#[R,r,h,t,M,u,st,e,k]:=q;show ß e #[H,I,k R H Θ u])) A w) (qK7 z)
def QbG(hN:X.N.Nodup)(n:Ν)(r:jl)(o:jg)(w:k8)(z:ţ)(B:Bq)(hi:TF)(v:∀a d C h f,lJ jee)
  (t:∀a d C h f,PMT jee c mt)
  (y:∀a d C h f,zX h f) (u:yC) (l:qlh zo8=zTf) :
  yu (.Assign zJ6 zo8 spos) (QA i zzd):=
 Vk (Qcp (g:=za4) (te:=za5) (tt:=tIT X.K mt) hN n r o l z B hi v (λa d C h f j s p H Q I q=>wpAny_tests_one (t a d C h f j s p H Q I q)) y u) (qK7 w)
#print"-"
set_option checkBinderAnnotations false in
abbrev ob[f:b->Υ a](x:Υ b):Υ a:=x.bind f
set_option checkBinderAnnotations false in
abbrev om[f:b->a](x:Υ b):Υ a:=x.map f
@[simp]def QnQ:Ĵ f fI=f a:=rfl
@[simp]def Qod:yi f fI=sO (f a):=rfl
abbrev QoM(b:SM):MF->yc
 |.nx σ h=>b σ h
 |r=>sO r
section
variable{σ σ':MSt}{h h':MH}{a b:SM}{m ma mb mc:ME}{t u:MT}{ms:MA}{w x y:W}{ws:À W}
@[simp]def Qpa:QoM b (Ĕ σ h)=b σ h:=rfl
@[simp]def QoR:QoM b bO=sO bO:=rfl
@[simp]def Qq7:zOg=Ĵ (QoM b) (a σ h):=by
 refine congrArg (λc=>Ĵ c (a σ h)) (funext (æ r));show A8 r
@[simp]def QpY:QN σ h=ſ σ h:=rfl
@[simp]def QqV:Zg m σ h=yi (λp=>qZ6) ye:=rfl
abbrev onB(a b:SM)(σ:MSt)(p:zbj):yc:=if zc0 then a σ p.2 else b σ p.2
@[simp]def Qo6(c:Bool):onB a b σ (c,h)=if Τ then a σ h else b σ h:=rfl
@[simp]def Qrp:tU=Ĵ (onB a b σ) (t σ h):=by
 show dh
@[simp]def Qqt:QM m σ h=yi (λp=>.nx σ p.2) ye:=rfl
@[simp 500]def QrY:qZj=yi (λp=>Rm σ p) ye:=rfl
@[simp]def QrS:Qjy i f m σ h=Ĵ (λx=>@ob _ _ (λp=>yi (λq=>Rm σ q) (f x.1 p.1 p.2)) ye) (Qb i σ h):=by
 unfold Qjy Qb
 rcases σ[i]? with _|_|x<;>rfl
@[simp 1100]def QrG{v0 v1 x:ê}{r:MSt}:List.set (v0::v1::r) 1 x=v0::x::r:=rfl
@[simp 1100]def Qq2{v0 v1 c x:ê}{r:MSt}:List.set (v0::v1::c::r) 2 x=v0::v1::x::r:=rfl
@[simp 1100]def Qq6{v0 v1 c d x:ê}{r:MSt}:List.set (v0::v1::c::d::r) 3 x=v0::v1::lz:=rfl
@[simp 1100]def Qr7{v0 v1 d c v4 x:ê}{r:MSt}:List.set (v0::v1::d::c::v4::r) 4 x=v0::v1::d::lz:=rfl
@[simp 1100]def Qrm{v0 v1 d c v4 e x:ê}{r:MSt}:List.set (v0::v1::d::c::v4::e::r) 5 x=v0::v1::d::c::v4::x::r:=rfl
@[simp 1100]def Qrh{v0 v1 e d v4 c v6 x:ê}{r:MSt}:List.set (v0::v1::e::d::v4::c::v6::r) 6 x=v0::v1::e::d::v4::lz:=rfl
@[simp 1100]def Qq0{v0 v1 e d v4 c v6 f x:ê}{r:MSt}:List.set (v0::v1::e::d::v4::c::v6::f::r) 7 x=v0::v1::e::d::v4::c::v6::x::r:=rfl
@[simp 1100]def QqS{v0 v1 f e v4 d v6 c g x:ê}{r:MSt}:List.set (v0::v1::f::e::v4::d::v6::c::g::r) 8 x=v0::v1::f::e::v4::d::v6::lz:=rfl
@[simp 1100]def Qrb{v0 v1 g f v4 e v6 d c i x:ê}{r:MSt}:List.set (v0::v1::g::f::v4::e::v6::d::c::i::r) 9 x=v0::v1::g::f::v4::e::v6::d::lz:=rfl
@[simp]def Qp5:Qb 0 (sO o::r) h=Bj:=rfl
@[simp]def Qpz:Qb 1 (v0::u9) h=Bj:=rfl
@[simp]def Qqx:Qb 2 (v0::v1::u9) h=Bj:=rfl
@[simp]def QqA:Qb 3 (v0::v1::c::u9) h=Bj:=rfl
@[simp]def QpT:Qb 4 (v0::v1::d::c::u9) h=Bj:=rfl
@[simp]def QpA:Qb 5 (v0::v1::d::c::v4::u9) h=Bj:=rfl
@[simp]def Qpv:Qb 6 (v0::v1::e::d::v4::c::u9) h=Bj:=rfl
@[simp]def Qqb:Qb 7 (v0::v1::e::d::v4::c::v6::u9) h=Bj:=rfl
@[simp]def QpS:Qb 8 (v0::v1::f::e::v4::d::v6::c::u9) h=Bj:=rfl
@[simp]def Qp7:Qb 9 (v0::v1::g::f::v4::e::v6::d::c::u9) h=Bj:=rfl
@[simp 400]def QpH:Qb (i+1) (o::r) h=Qb i r h:=by
 unfold Qb;rw[F7]
@[simp]def s_c:mC w σ h=AI:=rfl
@[simp 500]def QqY:Qc f ma mb σ h=Ĵ (λp=>qbg (mb σ p.2)) kl:=rfl
@[simp]def QsB:mUn f ma σ h=Ĵ qwf kl:=rfl
@[simp]def Qsx:mFn f ms σ h=Ĵ qwf zR7:=rfl
@[simp]def QqI:Qg n g ms σ h=Ĵ (λp=>if p.1.length=n then g p.1 p.2 else nO) zR7:=rfl
@[simp]def Qro:qnd:=rfl
@[simp 600]def Qqr:Qc f ma pv σ h=Ĵ (λp=>f p.1 w p.2) kl:=rfl
@[simp 600]def Qoz:Qa pv ms σ h=Ĵ (λq=>sO (w::q.1,q.2)) zR7:=rfl
@[simp 610]def QoP:Qa m Qe σ h=Ĵ (λp=>sO ([p.1],p.2)) ye:=rfl
@[simp 620]def Qna:Qa pv Qe σ h=sO ([w],h):=rfl
@[simp 600]def QpF:QA i pv σ h=sO (Ĕ jAa h):=rfl
@[simp 500]def QqD:Qa m ms σ h=Ĵ (λp=>@ob _ _ (λq=>qzj) qTh) ye:=rfl
abbrev asB(p:W×MH):HF:=match p.1 with|.bl b=>sO zd6|_=>nO
@[simp]def QpD(c:Bool):asB (.bl c,h)=ā c h:=rfl
@[simp 500]def Qpx:Qm m σ h=@ob _ _ asB ye:=rfl
@[simp]def Qqi:Qc0 t σ h=yi (λp=>(!p.1,p.2)) (t σ h):=by
 unfold Qc0
 first|rfl|(cases t σ h<;>rfl)
abbrev Qmz(u:MT)(σ:MSt)(p:zbj):HF:=if zc0 then u σ p.2 else qJf
abbrev QpR(u:MT)(σ:MSt)(p:zbj):HF:=if zc0 then qSj else u σ p.2
@[simp]def Qkn(c:Bool):Qmz u σ (c,h)=if Τ then u σ h else qTi:=rfl
@[simp]def Qnk(c:Bool):QpR u σ (c,h)=if Τ then sO zca else u σ h:=rfl
@[simp 500]def QpZ:Vo t u σ h=Ĵ (Qmz u σ) (t σ h):=by
 show dh
@[simp 500]def Qrz:QiG t u σ h=Ĵ (QpR u σ) (t σ h):=by
 show dh
abbrev QpM(ma mb:ME)(σ:MSt)(p:zbj):Ü:=if zc0 then ma σ p.2 else mb σ p.2
@[simp]def Qni(c:Bool):QpM ma mb σ (c,h)=if Τ then vR else mb σ h:=rfl
@[simp]def Qso:mIf t ma mb σ h=Ĵ (QpM ma mb σ) (t σ h):=by
 show dh
@[simp]def Qsl:Uq m σ h=Ĵ (λp=>yi (λb=>zd6) (Qbi p.2 p.1)) ye:=by
 rfl
@[simp]def Qsq:mMt T f m ms σ h=Ĵ (λp=>if qw8 then qbg qTh  else nO) ye:=rfl
#print"-"
section
variable{h:MH}{i j:Int}{x y:Str}{ws us:À W}{w:W}
@[simp]def QrA:Q7 Ŀ ε h=zU:=rfl
@[simp]def QqR:Qjt Ŀ ε h=jv0:=rfl
@[simp]def Qsz:wLt Ŀ ε h=o9 i j:=rfl
@[simp]def Qsw:wGt Ŀ ε h=o9 j i:=rfl
@[simp]def Qr9:Qa0 Ŀ h=jw7:=rfl
@[simp]def QqB:Qdl Ŀ ε h=zU:=rfl
@[simp]def Qrd(c:0<j):jM4:=Qho c
@[simp]def Qsh(c:0<j)(a:zAb):jig:=Qh9 (ĺ c a)
@[simp]def Qpu(c:zB5<j)(a:j<18446744073709551616):Gh Ŀ ε h=zlf:=Qih (õ (ĺ c a))
@[simp]def Qrx(c:0<=j)(b:zQe)(a:i.natAbs<18446744073709551616):jJb:=Qjg (ź c b a)
@[simp]def Qsj:Qz ws h=jjg:=rfl
@[simp]def Qr5:Zs ws h=jjh:=rfl
@[simp]def Qre:Yf ws h=jji:=rfl
@[simp]def Qr2:cE BP=i9:=rfl
@[simp]def Qq1:cE jT=i9:=rfl
@[simp]def QqO:cE zR3=i9:=rfl
@[simp]def QrN:cE Η=Ĵ (λ(ws:À W)=>i9) jOh:=rfl
@[simp]def Qqk:J0 [Ĩ] h=sO Hy:=rfl
@[simp]def QpU:J0 [ķ] h=sO Hy:=rfl
@[simp]def QpE:J0 [yk] h=sO Hy:=rfl
@[simp]def Qp3:J0 [Ã n] h=yi (λ(ws:À W)=>Hy) jOh:=rfl
def QP{xs:À a}{n:Nat}:atI xs ŝ=xs[n]?:=by
 cases e:xs[n]? with
 |some x=>show Qi6 e
 |none=>
  unfold atI ixN;let:xs.length<=n:=LH.mp e;show jA Â;rw[qg];rfl
@[simp]def QqL:atI xs 0=xs[0]?:=QP (n:=0)
@[simp]def QsA:atI xs 1=xs[1]?:=QP (n:=1)
@[simp]def Qqm{a:Type}{xs:À a}{y:a}:atI (xs++[y]) (-1)=sO y:=GA xs y
abbrev putAt(o i v:W)(σ:MSt)(h:MH):yc:=match o,i with
 |Ã n,Ä k=>match h[n]? with
  |some uB=>yi (λj=>.nx σ (lV (Þ (a.set j v)))) (ixN a.length k)
  |_=>nO
 |_,_=>nO
@[simp]def QpG{w:W}:Qd1 (sO bO)=AI:=rfl
@[simp]def QpQ:Qd1 (sO (Ĕ σ h))=ĵ h:=rfl
@[simp]def Qnf{n:Nat}{w:W}:QZ Η [w] h=match h[n]? with|gk=>if xs.length<sizeLine then sO (.non,h.set n (Þ (xs++[w])))else nO|_=>nO:=rfl
@[simp]def Qnd{n:Nat}{w:W}:X6 Η [w] h=match h[n]? with|gk=>Ĵ (λys=>jH2) (loW h w)|_=>nO:=rfl
@[simp]def QrC:loW h jT=sO ws:=rfl
@[simp]def QrB:Qfl Η [] h=match h[n]? with|gk=>yi (λw=>(w,h.set n (.lst xs.dropLast))) (xs[xs.length-1]?)|_=>nO:=rfl
@[simp]def Qr3:tyW h T Η=match h[n]? with|gg=>za6|zKg=>za7|zKh=>za7|_=>false:=rfl
@[simp]def Qrl:tyW h T jT=(T=="list"):=rfl
@[simp]def Qpw:Qbi h Η=match h[n]? with|AB=>HM|some zTc=>sO (!a.isEmpty)|_=>nO:=rfl
@[simp]def Qqg:Qbi h yY=sO b:=rfl
@[simp]def Qqo:Qbi h BP=HM:=rfl
@[simp]def Qnv:KW [ķ] h=sO gS:=rfl
@[simp]def Qsv:mSl ma a b σ h=Ĵ (λp=>@ob _ _ (λq=>@ob _ _ (λr=>qtf) (b σ q.2)) (a σ p.2)) kl:=rfl
@[simp]def Qsr:Vn σ h=sO (nO,h):=rfl
abbrev asI(p:W×MH):Option (ġ×MH):=match p.1 with|Ä i=>qO1|_=>nO
@[simp]def QnR:asI zpe=sO (sO i,h):=rfl
@[simp]def Qsu:Vr m σ h=@ob _ _ asI ye:=rfl
@[simp]def QrO{lo hi:ġ}:wSl BP lo hi h=sO (Ì zJ3,h):=rfl
@[simp]def Qn8{lo hi:ġ}:wSl jT lo hi h=sO (Î zJ3,h):=rfl
@[simp]def QpP:Q7 BP (.tup us) h=if ws.length+us.length<=sizeLine then sO (Ì zTa,h)else nO:=rfl
@[simp]def Qqy:Q7 Ě uE h=jK7:=rfl
@[simp]def Qsd:wIs a .non h=jtf:=rfl
@[simp]def QoD:V1 a .non h=jsb:=rfl
@[simp]def Qnt:JH .non=true:=rfl
@[simp]def Qnr:JH BP=false:=rfl
@[simp]def Qns:JH Ŀ=false:=rfl
@[simp]def Qnm:JH Ě=false:=rfl
#print"-"
set_option backward.eqns.deepRecursiveSplit false in
mutual
abbrev pln:P0
 |Ĩ=>Ye ws
 |ķ=>Ye ws
 |Pk=>false
 |A5=>false
 |.ty _=>false
 |_=>true
abbrev Ye:zna
 |[]=>true
 |w::ws=>pln w&&Ye ws
end
set_option backward.eqns.deepRecursiveSplit false in
mutual
abbrev dep:W->Nat
 |Ĩ=>Yg ws+1
 |ķ=>Yg ws+1
 |_=>1
abbrev Yg:À W->Nat
 |[]=>0
 |w::ws=>max (dep w) (Yg ws)
end
mutual
def VA(h:MH):∀(w:W) (n:Nat),fe->dep w<=n->Γ w=sO w
 |.non,n+1,_,_=>rfl
 |.bl _,n+1,_,_=>rfl
 |B4,n+1,_,_=>rfl
 |yn,n+1,_,_=>rfl
 |Ĩ,n+1,p,d=>by
  show(ff,bz);apply(ZY dE ws).map W.tup=_;rw[Vf h ws n p Â];rfl
 |ķ,n+1,p,d=>by
  show(ff,bz);apply(ZY dE ws).map W.lst=_;rw[Vf h ws n p É];rfl
 |Pk,_,p,_=>qr
 |A5,_,p,_=>qr
 |.ty _,_,p,_=>qr
 |.non,0,_,d=>jw9
 |.bl _,0,_,d=>nj
 |B4,0,_,d=>nj
 |yn,0,_,d=>nj
 |.tup _,0,_,d=>jw9
 |.lst _,0,_,d=>nj
def Vf(h:MH):∀(ws:À W) (n:Nat),bA->Yg ws<=n->jRe=sO ws
 |[],_,_,_=>rfl
 |w::ws,n,p,d=>by
  unfold Ye at p;unfold Yg at d;rw[N0]at p;rw[ZY,VA h w n p.1 (Nd (Oc _ _) d),Nv,Vf h ws n p.2 (Nd (Nat.le_max_right _ _) d)];rfl
end
mutual
def QeE:∀(w:W),fe->eqW w w=true
 |.non,_=>rfl
 |.bl b,_=>M4 b
 |Ä i,_=>M4 i
 |Æ x,_=>M4 x
 |Ĩ,p=>jn6
 |ķ,p=>jn6
 |Pk,p=>qr
 |A5,p=>qr
 |.ty _,p=>qr
def KO:∀(ws:À W),bA->Ki ws ws=true
 |[],_=>rq
 |w::ws,p=>by
  show qTj;unfold Ki;rw[QeE w p.1,KO ws p.2];rfl
end
def Qbm(d:bx)(c:pln b=true)(f:za8)(e:dep b<=40):wEq a b h=sO (ö zxe,h):=by
 unfold wEq;show qnf
def Qnl(d:bx)(c:pln b=true)(f:za8)(e:dep b<=40):wNe a b h=sO (ö qTc,h):=by
 unfold wNe;show qnf
@[simp]def QoA:wEq Ŀ ε h=sO (ö ja5,h):=Qis i j h
@[simp]def Qph:qlg=jtg:=Qjc x y h
@[simp]def Qsb:wNe Ŀ ε h=sO (ö (! ja5),h):=QjP i j h
mutual
def YZ:∀(w:W),fe->yR
 |.non,_=>rfl
 |.bl _,_=>rfl
 |B4,_=>rfl
 |yn,_=>rfl
 |Ĩ,p=>jTj
 |ķ,p=>jTj
 |Pk,p=>qr
 |A5,p=>qr
 |.ty _,p=>qr
def Jp:∀(ws:À W),bA->CM
 |[],_=>rfl
 |w::ws,p=>by
  show qTj;unfold Js;rw[YZ w p.1,Jp ws p.2];rfl
end
mutual
def Qgc(f:xt):∀(w:W),yR->th f w=sO w
 |.non,_=>rfl
 |.bl _,_=>rfl
 |B4,_=>rfl
 |yn,_=>rfl
 |.ty _,_=>rfl
 |Ĩ,p=>ztf
 |ķ,p=>ztf
 |yk,p=>ztf
 |A5,p=>qgi
def Xc(f:xt):∀(ws:À W),CM->ths f ws=sO ws
 |[],_=>rfl
 |w::ws,p=>by
  show Tf p;unfold ths;rw[Qgc f w p.1,Xc f ws p.2];rfl
end
def Qi(b:CM)(e:m ws []=ā w g)(hw:yR):qK9=AI:=by
 let d:qka:=by
  generalize 0=k;clear e
  induction ws with
  |nil=>rfl
  |cons a r c=>
   show Tf b;let:=c b.2;show jL3
 unfold box;rw[d,Nv];unfold QnA;rw[if_pos Dd];simp only[ZY,Nv,e,frN,FS,List.range_zero];rw[if_pos #[Dd,Ê],Qgc _ w hw];simp[Zd]
def Qch{os os':ph}(q:W0 0 args=CF)(hd:ns.Nodup)(s:ZY (Qnp h) ns=sO os)(e:m as os=sO (w,os'++g))(t:os'.length=ns.length)
  (c:∀o∈os',qfa) (hw:th jD1 w=sO w'):box frN m args h=sO (w',Zd ns os' h):=by
 unfold box;rw[q,Nv];unfold QnA;rw[za9,s];simp only[Nv,e];show jA (show(frN w).Nodup/\∀j∈frN w,qSd from#[Dd,λj u=>by simp[frN]at u]);apply(th jD1 w).bind _=_;rw[hw,Nv];apply(ZY dm zzf).bind (λos=>(ZY dm []).map λus=>(w',Zd ns os h++us))=_
 let:ZY dm zzf=sO os':=by
  rw[<-t]
  let key:∀(k:Nat) (a:ph),(∀i o,a[i]?=sO o->(os'++g)[k+i]?=sO o)->(∀o∈a,qfa)->ZY dm (List.range' k a.length)=sO a:=by
   intro k a
   induction a generalizing k with
   |nil=>intro _ _;rfl
   |cons x a n=>
    intro f d;let#[us,hu,r]:=d x Nw;rw[NO,LQ];unfold ZY;let l:=f 0 x rfl;rw[Yak]at l;rw[l,Nv,n (k+1) (λi o b=>by let:=f (i+1) o gJ;rw[show k+1+i=k+(i+1) by show zWb];show this) (BJ o p d),hu];apply((ths _ us).map MO.lst).bind _=_;rw[Xc _ us r];rfl
  rw[List.range_eq_range'];show key 0 os' (λi o b=>by rw[Ef,NM (ú b)];show b) c
 rw[this];simp[ZY]
def Qex(f:W->W)(hi:zx7)(a:zAe)(c:∀w∈items,jL2)(b:zAf) :
  xa1 ΢=qbd:=by
 show zv1 a;rw[Yv (p:=zT7) (f:=f) items [] o Ml (λw hw _=>c w hw) gJ,IU.mpr Ml];rfl
def QdX{mt:MT}{me:ME}{h:MH}(f:W->W)(p:P0)(hi:zx7)(a:zAe)(b:∀w∈items,jT3)(d:∀w∈items,jy6)(c:zAf) :
  jYj=fin ((items.filter p).map f) h:=by
 show zv1 a;rw[Yv (p:=p) (f:=f) items [] o b d xy];simp
def X4(P:Nat->zKj):∀(r:À W) (n:Nat) (σ:MSt) (h:MH),Aa n ->
  (∀(j:Nat) (w:W),r[j]?=sO w->∀σ h,Aa (n+j)->∃σ1,rX/\∃σ2 h2,(oi\/zAd=sO (.ct σ2 h2))/\qD3) ->
  ∃a h',mw r σ h=ſ a h'/\P (n+r.length) a h':=by
 intro r
 induction r with
 |nil=>show λn σ h c _=>#[σ,h,Gw,c]
 | cons w r i=>
  intro n σ h c e;let#[σ1,o,σ2,h2,d,g]:=e 0 w rfl σ h c
  let#[a,h',m,f]:=i (n+1) σ2 h2 g λj x l σ h c=>by
   let:=e (j+1) x gM σ h (zwc j c);show jOi
  refine#[a,h',?_,by rw[NO,show n+(uf r)=n+1+r.length by lia];show f];rw[Jf,v9,o,Nv]
  rcases d with d|d<;>rw[d]<;>show m
abbrev eqS(y:Str)(p:W×MH):HF:=@ob _ _ asB (wEq p.1 uE p.2)
abbrev eqN(j:Int)(p:W×MH):HF:=@ob _ _ asB (wEq p.1 ε p.2)
@[simp 650]def Qqv:Qm (Qc wEq ma (mC uE)) σ h=Ĵ (eqS y) kl:=by
 unfold Qm Qc mC eqS ob;cases vR<;>rfl
@[simp 650]def QpC:Qm (Qc wEq ma (mC ε)) σ h=Ĵ (eqN j) kl:=by
 unfold Qm Qc mC eqN ob;cases vR<;>rfl
@[simp]def QoJ:eqS y zpf=sO (x==y,h):=by unfold eqS;rw[Qph];rfl
@[simp]def QnZ:eqN j zpe=sO (i==j,h):=by unfold eqN;rw[QoA];rfl
#print"-Mi"
namespace Mi
open L2
abbrev QqF(ws:À W)(h:MH):Ü:=match ws with
 |[Ĩ]=>sO zn0
 |[a]=>sn zn0
 |_=>nO
abbrev Qr0(a:W)(ws:À W)(h:MH):Ü:=match a,ws with
 |Ã n,[.int 0]=>match h[n]? with|some (Þ (x::b))=>sO (x,h.set n (Þ b))|_=>nO
 |_,_=>nO
section
open PySem.AutoSeq1
def Qbc(l:Addr)(c:ľ)(n:Nat)(b:Addr)(a:ľ)(r:Nat)(e:Obj)(u:e.cls=yH)(hd:e.data=.seq a r)(t:¬(!c.isEmpty&&Builtin.List.listTooLong (c.size+a.size))=true)(j:c.size<=sizeLine)(i:c.size+a.size<=sizeLine+1) :
  Meets (Builtin.«list.extend» jq2) (λ_ R s=>gh=sO { cls:=Ι,dict:=nO,data:=.seq c n,slots:=#[] }/\gX=sO e /\
   R (.ok (.ret Value.none)) { s with heap:=s.heap.update l (Obj.mapSeq λx=>x++a),toks:=s.toks }):=
 .of_wp λm w A R s h=>by
  show ŧ I H y q e;subst u hd;show(bN C z,pI o v h);let f1:=idx_int;let f2:=LR;let G:=AutoSeq1.sub_list_list;let E:=AutoSeq1.sub_tuple_list;let D:=AutoSeq1.sub_list_tuple;let f:(c++a).size<=sizeLine+1:=by rw[Array.size_append];show i
  wp_walk using(Od o rfl (hz:=j) (_hz':=f)),FQ o,FQ v
  show qXd
#print"-"
section
variable{X:Cx}
def Qa8:MtM X "list.extend" (λx vs H Q=>∃l b xs g,xB/\vs=[Ã b]/\zNi/\SqT X.K H b g/\xs.length+g.length<=sizeLine/\Q .non (ć l (Þ (xs++g)))):=by
 intro j s N H x vs v O Q I t w h;let#[l,b,xs,g,rfl,rfl,p,L,C,q]:=h;show zN8 t y w;cases y;show xb c E p;let#[a,i,#[A,M,G,B,hd],D]:=jU L;show(ű o i,jR0)
 let d:jE3:=by
  rw[Wa f,Ft];show N8
 refine Fg Fy AG O9 (OS _ _)
  (Qbc l c.toArray n b a.toArray B A G hd d (zNa (ħ E)) (cN f)) #[e,M,?_]
 refine#[.non,_,zN9 c a p qJ9,rfl,q];show PP C
abbrev Kl(a:W)(ws:À W)(h:MH):Ü:=match a,ws with
 |Ã n,[Ì b]=>match h[n]? with|Sz c=>ji4|_=>nO
 |_,_=>nO
def U9:QdY X "list.extend" Kl:=by
 intro b s j H x o v p Q I t u q;refine Qa8 b s j H x o v p Q I t u ?_;let#[R,h,a,M,w,N,d,z,c,e,k]:=q;unfold Kl at e;split at e
 ·show MZ n G
  ·show MZ L A
   ·show(Β B e,kn f m D i d z A,BF y r c,zb2 E l C g d,jm0 E)
   ·cases e
  ·cases e
 ·cases e
@[simp]def QkL:Kl Η [.tup ys] h=match h[n]? with|gk=>jH2|_=>nO:=q0
#print"-"
#print"-Mi"
namespace L2
abbrev RawD(h:Heap)(d:Addr)(es:TQ)(ep:Nat):Prop:=∃o,oM/\o.ExactDict/\zD7
def RawD.typeIs{s:Shared}(m:Rp):s.TypeIs zi1 "dict":=by let#[o,a,b,_]:=m;show#[o,a,b.1]
def RawD.lt(m:tD):d<h.objs.size:=by let#[_,a,_]:=m;show NL a
def RawD.at(m:tD)(k:∀o,zlg d):RawD h' d es ep:=by show yK o a r m #[o,k o a,r]
section
variable{prog:Program}{w:World}{A:Around}{E:Õ}{s:Shared}{it d:Addr}{es:TQ}{i ep:Nat}
def GQ(hd:zxa)(m:Rp)
  (q:Q yB { s with heap:=s.heap.push { cls:=.type "dict_keyiterator",data:=.fields #[Ã d,zOd,.int es.size 0,zLi,] } }):ù (Af zi1):=by
 let a:=m.typeIs;show ŧ o c e b m;refine LA a Ox (EH Ox a PySem.F.entry_dict_iter ?_ (PySem.F.args_dict_iter_1 _));show Ë (Nc (Fz a ?_));refine(show Ů (pure (cS d)) from Nl ?_);refine(show Ů (Builtin.Dict.showsAll d>>=_) from ?_);unfold Builtin.Dict.showsAll;rw[if_neg (by rw[hd];show N8)];show(Ë (Nl (Nc (Ij c b (Nc (Oe c b ?_))))),Ļ (Ez (Ba #[_,rfl,"dict_keyiterator",_,zm1,ER.lookup,?_])));simpa[rawInt]using q
def Qac(hit:s.heap.IsKeyIter it d i es.size ep)(m:Rp)(f:zTj)
  (j:∀h',h'.IsKeyIter it d (i+1) es.size ep->qGj h'->rQ (sO zU0) h'):ù nR:=by
 show jch e h b g c;simp only[show¬(jX<0)from Ñ,if_false,E7,NW f];show pG
 first|show Ë (Dv hit.typeIs qcb)|show Ë (D0 hit.typeIs qcb)
 refine(oH (jZ0 HC>>=_) (qtj e))
 let a:(s.heap.update it (Obj.mapFields (·.setIfInBounds 1 ig))).IsKeyIter it d (i+1) es.size ep:=
  #[_,EJ _ e (Obj.isFreed_of_fields (Yal hd _)),(Obj.cls_mapFields ..).trans h,by rw[Yal hd];simp[rawInt]]
 show Ë (Es (Nc (Iy (s:={ s with heap:=s.heap.update it (Obj.mapFields (·.setIfInBounds 1 ig)) }) a.typeIs ?_)));refine(Sf (pure zU0));show ϩ (Ba #[_,rfl,Nl (j _ a vF)])
def QdB(g:ϸ)(hit:s.heap.IsKeyIter it d es.size es.size ep)(m:Rp)
  (j:∀h',Heap.ExtBut it s.heap h'->zz1):ù nR:=by
 show jch f n c h e;simp only[show¬(qO8<0)from Ñ,if_false,E7,Im (Nu es.size)];show pG
 first|show Ë (Dv hit.typeIs ϻ)|show Ë (D0 hit.typeIs ϻ)
 refine(oH (setField HC 0 .none>>=_) (qtj f));refine(show By (jP8>>=_) from Nc ?_);show Ë zx1;refine Nc (m:=qwg) (wpAny_of_eq (a:=Value.none) jS1 ?_);refine Ez ?_ jV8;show Ë qra;rw[show rA from g];show(Ë qlj,S5 (Iq (b:=true) (T:="StopIteration") zm1 isSubtype_stop ?_),ϩ (j _ (((NX ..).extBut.push _).push _)))
def Qca(q:ϸ)(I d:Addr)(j:d≠I)(es:TQ)(ep:Nat) :
  Walks prog w A I [I,d] [I] es.size jY2 (λi h=>h.IsKeyIter I d i es.size ep/\tD) where
 sub:=qfb
 frame:=λ_ _ _ st n=>#[st.1.at (zGd n I),st.2.at (zGd n d)]
 item:=λi s Q E p st g=>Qac st.1 st.2 p λm f c=>
  g _ m s.toks #[es[i],NW p,rfl] #[f,st.2.at λo e=>qO c d j e] λb o a e=>c.extBut b o jsa e
 done:=λs Q E st g=>QdB q st.1 st.2 λm l=>g m s.toks λb o a e=>l b o jsa e
 self:=λ_ _ _ _ st g=>OT st.1 g
def QiT(lo:zxa):PySem.W.KdlSrc prog w "dict" d d es.size jY2 (λh=>tD) where
 type:=λ_ m=>m.typeIs
 there:=λ_ m=>#[m.lt,m.lt]
 keep:=λ_ _ m k=>m.at λo e=>k d BL o e
 notList:=Ú
 notTuple:=Ú
 hint:=λ_ _ _ _ m q=>PySem.W.kdl_hint_dict m.typeIs q
 iter:=λ_ _ a m=>#[_,_,(λ_ _ q=>GQ lo m q),Qca a _ d (NS m.lt) es ep,#[pX,m.at λo e=>ŕ e]]
#print"-"
#print"-L2"
namespace Mi
open L2
abbrev TrH(K:Nf)(H:Hp):Nat->Tr->V->Prop
 |0,_,_=>False
 |_+1,.i k,v=>v=Ä k\/∃b:Bool,v=.bl b/\qqd
 |_+1,.s x,v=>xE
 |n+1,.t ks,v=>∃a xs,ϒ/\fR H/\Paired (TrH K H n) ks xs
def Qib{F:h->g->Prop}{G:g->e->Prop}{M:h->e->Prop}(f:∀a b c,F a b->G b c->M a c){l₁:À h}{l₂:À g}{d:À e}(p:Cl F)(q:Paired G l₂ d):Paired M l₁ d:=by
 induction p generalizing d with cases q
 |nil=>show .nil
 |cons a s i=>show Ē (f _ _ _ a zZ5) (i zZ5)
section
variable{X:Cx}{pins:Ö}{σ:L2.St}{H:Hp}{s:Shared}
def Qg7(I:Ù):∀{n:Nat} (k:Tr) (v:V) (u:Value),TrH X.K H n k v->ô v->cH k u
 |0,_,_,_,x,_=>x.elim
 |n+1,.i k,v,u,x,r=>by
  rcases x with rfl|⟨b,rfl,e⟩
  show ja r (ź b r e)
 |n+1,.s y,v,u,x,r=>by
  show Ŭ (show v=Æ y from x) r
 |n+1,.t ks,v,u,x,r=>by
  let#[a,xs,rfl,q,p]:=x;let#[c,d,pl,_]:=jU q;show uv joj #[a,c.toArray,rfl,pl,by simpa using Qib (λk v u g f=>Qg7 I k v u g f) p d]
#print"-"
section
variable{K:Nf}{R:Rn}{h:MH}{H:Hp}
def Qpf(s:Ą):∀(n:Nat) (w:W) (v:V) (k:Tr),ë w->qZg->TrH K H n k v:=by
 intro n
 induction n with
 |zero=>
  intro _ _ _ _ e;show Pz
 | succ n A=>
  intro w v k r e;cases w with
  |int i=>show fb;cases e;show .inl r.int_eq
  |bl b=>show fb;cases e;show Ũ #[b,r.bl_eq,rfl]
  |str x=>show fb;cases e;show r.str_eq
  | tup m=>
   show(fb,xJ g f j e,zb2 a l q d s);refine#[a,l,rfl,q,?_];clear e r q
   induction m generalizing g l with
   |nil=>
    show Ϙ d;rw[Fe]at f;cases(zLj g f);show .nil
   |cons x m z=>
    rw[De]at f;show(ļ o C j f,ļ c B D j);cases(show sO (o::c)=sO g from D);show(ϕ d y p u t,Ē (A x y o u C) (z c B p t))
  |_=>show Pz
def Qb4(a:Ą)(r:ë w)(e:bv):TrH K H 8 k v:=by
 cases w with
 |tup b=>show Qpf a 8 _ v k r e
 |_=>cases e
def QiH(b:Ą)(r:ë w)(e:bv):∃a,ϒ:=by
 cases w with
 |tup d=>let#[a,c,rfl,_]:=b.tupAt r;show#[a,rfl]
 |_=>cases e
#print"-"
abbrev XX(a:jr)(k:Tr):ê:=(a.find? λp=>decide (zg4=sO k)).map (·.2)
abbrev Qb9(a:jr)(k:Tr)(b v:W):jr:=if qKa=true then a.map (λp=>if zg4=sO k then(p.1,v)else p)else a++[(b,v)]
abbrev QdZ(kx:ņ)(k:Tr):Υ V:=(kx.find? (qC p k)).map (·.2.2)
abbrev QaP(kx:ņ)(k:Tr)(b:Addr)(v:V):ņ:=if zF1=true then kx.map (λp=>if p.1=k then(p.1,p.2.1,v)else p)else kx++[(k,b,v)]
noncomputable abbrev DctR(K:Nf)(R:Rn):jr->ņ->Prop:=Paired λp q=>xgi
noncomputable abbrev QaZ:ņ->Hj->Prop:=Paired λp q=>jW9
section
variable{K:Nf}{R:Rn}
def KL{a:jr}{kx:ņ}(d:tW):(XX a k=nO/\QdZ kx k=nO)\/∃w v,XX a k=sO w/\QdZ kx k=sO v/\ë w:=by
 induction d with
 |nil=>show Ø jp
 |@cons p q f c h t b=>
  by_cases e:q.1=k
  show Ζ #[p.2,q.2.2,by simp[XX,NZ,h.2.1,e],by simp[QdZ,NZ,e],h.2.2]
  ·simpa[XX,QdZ,NZ,e,h.2.1]using b
def YW(d:tW):qKa=zF1:=by
 rcases KL (k:=k) d with z|⟨w,v,c,b,_⟩
 ·rw[z.1,z.2];rfl
 ·rw[c,b];rfl
def U7(d:tW)(rk:ui c SD)(f:nrm c=sO k)(r:ë w):DctR K R (Qb9 a k c w) qD5:=by
 unfold Qb9 QaP;rw[YW d];split
 ·rename_i i;clear i rk f
  induction d with
  |nil=>show .nil
  |@cons p q l j h t g=>
   show rY g
   by_cases e:q.1=k
   ·rw[Ð e,if_pos (by rw[h.2.1,e])];show qH7
   ·rw[Í e,if_neg (by rw[h.2.1];show λz=>e (NY z))];show h
 ·show Ov d #[rk,f,r]
def YJ{kx:ņ}{xs:Hj}(r:kv):RelO (QdZ kx k) ((atKey xs k).map (·.2)):=by
 induction r with
 |nil=>show zbb
 |@cons p q d c h t b=>
  show kj
  ·let a:q.1=k:=h.1.symm.trans e;simpa[QdZ,atKey,NZ,e,a,RelO]using h.2.2
  ·let a:¬q.1=k:=λz=>qH8;simpa[QdZ,atKey,NZ,e,a]using b
def Wb(d:kv):zF1=(atKey xs k).isSome:=by
 let:=(YJ (k:=k) d).isSome_eq;rwa[Option.isSome_map]at this
def UU(d:kv)(r:ô v):QaZ qD5 (storedH xs k b u):=by
 unfold QaP storedH;rw[Wb d];split
 ·rename_i c;clear c
  induction d with
  |nil=>show .nil
  |@cons p q g f h t a=>
   show rY a;unfold Yay
   show kj
   ·rw[Ð e,if_pos (h.1.symm.trans e)];show qH7
   ·rw[Í e,if_neg (λz=>qH8)];show h
 ·show Ov d (cj r)
def We:(QaP kx k b v).length<=kx.length+1:=by
 unfold QaP;show jkj
 ·rw[NA];simp
#print"-"
section
variable{X:Cx}{pins:Ö}{σ:L2.St}{H:Hp}{s:Shared}{R:Rn}{h:MH}
def Yy(I:Ù)(d:ζ)(g:qvc) :
  ∃kx xs,H œ=cP/\qH9/\qu0/\job/\kv/\s.heap.DictOfH zG2 œ xs:=by
 let#[kx,c,l]:=kO d g;let#[z,y,xs,r,o,C,D,B,A,v,j,i,_]:=I.hok _ _ c;refine#[kx,xs,c,l,z,y,r,o,C,D,B,A,v,j,?_,i];clear j i z c g
 induction r generalizing a with
 |nil=>intro x b;show nomatch b
 | @cons p q L G f t u=>
  cases l with
  |cons m E=>
   intro x b
   rcases NI.mp b with e|b
   ·subst e;let:=Qg7 I _ _ _ (Qb4 d m.1 m.2.1) (show RelV (.ref p.2.1) (Value.ref p.2.1)from rfl);rw[f.1,f.2.1]at this;show this
   ·show u E x b
abbrev DctE(prog:Program)(w:World)(h:Heap)(d:Addr)(xs:Hj):Prop:=
 ∃o a b,oM/\o.ExactDict/\o.data=.dict a b/\a.toList=xs.map jXe/\(∀x∈xs,Hr h x)/\(xs.map (·.1)).Nodup/\b=a.size
def DctE.of{h:Heap}:DctE prog w h d xs->h.DictOfH qng d xs:=λz=>by
 let#[o,i,j,g,f,e,c,b,a,_]:=z;show#[o,i,j,g,f,e,c,b,a]
def Qc9(I:Ù)(i:ζ)(j:qvc) :
  ∃kx xs,H œ=cP/\qH9/\qu0/\job/\kv/\DctE X.prog X.w s.heap œ xs:=by
 let#[kx,xs,f,C,B,A,z,o,m,q,e,y,d,x,v,u]:=Yy I i j;let#[_,_,g,r,D,l,p,c,L,b,G,E,t]:=I.hok _ _ f;show ä e c;rw[d]at b;show ß b #[kx,xs,f,C,B,A,z,o,m,q,e,y,d,x,v,u,t]
def KH(I:Ù)(a:ζ)(r:xG)(c:ô v)(e:bv):∃b,v=Ã b/\u=Ã b/\(Qk X.prog X.w).is s.heap k b:=by
 let#[b,rfl]:=QiH a r e;show ß (show u=BA b from c) #[b,rfl,rfl,Qg7 I _ _ _ (Qb4 a r e) (show RelV SD (cS b)from rfl)]
def Ug(I:Ù)(e:H a=cP)(z:c.length<=sizeLine)(lo:wL)(r:QaZ c b)
  (f:qq a) (dd:DctE X.prog X.w h' a b):qm (ć a (.dT c)):=by
 let#[o,n,p,d,m,l,j,_,i,g]:=dd;show qzi I f (ĺ o d) #[z,lo,b,r,o,n,p,d,m,l,j,i,g]
#print"-"
set_option backward.eqns.nonrecursive false in
abbrev Ks(h:MH):W->Option (List (W×W))
 |Ã n=>match h[n]? with|jf2=>sO a|_=>nO
 |_=>nO
def VP(e:Ks h a=sO b):∃n,a=Ã n/\h[n]?=sO (yo b):=by
 cases a with
 |ref n=>
  simp only[Ks]at e;show jk7
  ·cases e
 |_=>cases e
abbrev Z9:ME:=P9 (İ h,qr2)
abbrev U4(neg:Bool)(b a:W)(h:MH):Ü:=(Ks h a).bind λc=>(nrm b).map λk=>(ö (if neg then ! qO9 else qO9),h)
abbrev Xv(a b v:W)(h:MH):Option MH:=match a with
 |Ã n=>match h[n]? with
  |some (yo c)=>(nrm b).bind λk=>if qzc then sO (lV (yo qH6))else nO
  |_=>nO
 |_=>nO
abbrev YM(mo mi mv:ME):SM:=λa h=>(mv a h).bind λv=>(mo a v.2).bind λo=>(mi a o.2).bind λi=>(Xv o.1 i.1 v.1 i.2).map λb=>.nx a b
abbrev Uk(a:W)(ws:À W)(h:MH):Ü:=match ws with
 |[b,v]=>(Ks h a).bind λc=>(nrm b).bind λk=>match XX c k with
  |Û x=>ā x h
  |none=>(Xv a b v h).map λd=>(v,d)
 |_=>nO
abbrev Vp(a:W)(ws:À W)(h:MH):Ü:=match ws with
 |[b,v]=>(Ks h a).bind λc=>(nrm b).map λk=>((XX c k).getD v,h)
 |_=>nO
abbrev Xa(ws:À W)(h:MH):Ü:=match ws with
 |[a]=>(Ks h a).map λb=>(.lst (b.map (·.1)),h)
 |_=>nO
section
variable{prog:Program}{w:World}{A:Around}{E:Õ}{s:Shared}{d a:Addr}{k:Tr}{xs:Hj}
def QhB{dflt:Value}(hu:qwh)(b:iZ)(u:nE)(m:Bt)
  (h1:∀p,bB=sO p->Q p.2 { s with toks:=Bn })
  (h2:bB=nO->∀h',jO3->qq d->Q dflt { s with heap:=h',toks:=Bn }):ù (dictSetDefault d ĭ dflt):=by
 let#[o,C,z,f,v,hd,l,i,n,t]:=u;refine Es (Nc ((Qk prog w).pyHash hu b (ji8 l i)))
 ·show(jNc h g,S5 (DC (yt (OU (hz:=qm0 l m) (s:={ s with toks:=Bn }) f hd (jn1 (h2 en _ (jk8 z v t) vF))))))
  ·rw[Io en];simp[l,entryOfKey]
  ·show jc2 i
  show jsc g
 ·intro j p r;show Ë (Ij (s:={ s with toks:=Bn }) f hd ?_);rw[entry_at l j,r];show Nc (DC (Nl (h1 p (atKey_of_get n r))))
def WW(hu:qwh)(b:iZ)(G:nE)(t:Bt)
  (h:jh8):ù (dictSet d ĭ v):=by
 let#[o,H,D,f,C,hd,r,g,n,z]:=G;refine Es (Nc ((Qk prog w).pyHash hu b ?_));refine Es (ji8 r g)
 ·show(jNc m i,S5 (DC (OU (hz:=qm0 r t) (s:={ s with toks:=Bn }) f hd (h _ (jk8 D C z) vF))))
  ·rw[Io en];simp[r,entryOfKey]
  ·show jc2 g
  show jsc i
 ·intro j p B;let u:=atKey_of_get n B;show Ļ (DC (yt (wpAny_updateDict (s:={ s with toks:=Bn }) f hd (wpAny_point (h _ #[_,_,D,EJ _ f (IW (YaC hd _)),C.mapDict _,YaC hd _,?_,?_,?_,vC z] vF)))))
  ·rw[zL0];let:=modify_map_putAt jXe (λe:DictEntry=>{ e with val:=v }) k v Ml n B;rw[<-r]at this;let#[l]:=H;show uX
  ·rw[zL0];intro x c;show jk y q c;simp only[Yay];split<;>show zt2 (g y q)
  ·rw[zL0,keys_map_putAt];show n
def QcL(hu:qnh)(b:iZ)(e:nE)(c:Bt)
  (h:jh8):ù (setItem zi1 ĭ v):=by
 let ty:=e.of.typeIs;refine Es (Nc (Ly ty à (Nc (EZ (name:=Str.ofString "__setitem__") ty slot_dict_setitem (EH slot_dict_setitem ty entry_dict_setitem ?_ (args_dict_setitem _ _ _))))));show Ak (oH (Builtin.Dict.notOrdered "__setitem__" #[[Ã d,Ã a,v],[]]>>=_) (Fz ty ?_)) (oH (dictSet d ĭ v>>=_) (WW hu b e c λh' m f=>Nl #[.none,rfl,Nl (h h' m f)]))
#print"-"
section
variable{X:Cx}{o i e a b:Expr}{mo mi mv ma mb:ME}{pos pos':Pos}
def Qix:ì RK Z9:=QD QfQ λn H Q q=>by
 let#[R,f,h,w,s,j,st,e,k]:=q;cases e;intro p l;let#[m,g,d,c]:=j.new (mo:=Ť) (o:=.dT []) l jV4
 show j7 m g d c
def QaD(hu:Ż):(Qk X.prog X.w).room X.A.in1:=by apply ci+8<cLine;lia
def Qjn(hu:Ż):â qA3 (Ac qrb):=by
 intro g s M H x y v u Q I m l j;let#[R,h,a,b,w,U,d,q,f,e,k]:=j;unfold U4 at e;show jc3;let#[O,N,S,L,z,lo,p,dd]:=Yy I d t;show(jih,wF u l);refine wpAny_in_heap zb3 B lo dd ?_;show jFg
def QaC(hu:Ż):â qr7 (Ac zJj):=by
 intro g s M H x y v u Q I m l j;let#[R,h,a,b,w,U,d,q,f,e,k]:=j;unfold U4 at e;show jc3;let#[O,N,S,L,z,lo,p,dd]:=Yy I d t;show(jih,wF u l);refine wpAny_notIn_heap zb3 B lo dd ?_;show jFg
def Qao{a b v:W}(e:Xv a b v h=sO h'):∃n c k,a=Ã n/\Rk/\nrm b=sO k/\qzc/\h'=h.set n (yo qH6):=by
 unfold Xv at e;split at e
 ·show ll n e
  ·rename_i c f;show ļ k j d e;split at d
   ·rename_i g;show ß d #[n,c,k,rfl,f,j,g,rfl]
   ·cases d
  ·cases e
 ·cases e
abbrev Qpm(K:Nf)(mo mi mv:ME):TS:=λD c H=>tI K mv c H λv H1=>tI K mo c H1 λx H2=>tI K mi c H2 λy H3=>
 ∃R h a b w d,Rh K R h H3/\d6/\ui b y/\ë w/\Xv a b w h=sO d/\∀f g,Ϩ f->Rh K f d g->D.nx c g
def QqX{H:Hp}{R:Rn}{a b w:W}{x y v:V}(hu:Ż)(I:Ĝ f)(j:ζ)(C:ť a x)(B:ť b y)(rw:xG)
  (P:B9 x r) (O:B9 y M) (S:B9 v N) (e:Xv a b w h=sO h') (q:∀t L,ŉ f σ L t->Rh X.K R h' L->Q () t):ĕ (setItem r M N) Q s:=by
 let#[n,U,k,rfl,hn,E,hl,rfl]:=Qao e;let#[l,xs,Z,G,z,lo,u,dd]:=Qc9 I j hn;show(TH g I j B O E,zG C m,wF r P,Pc D G d u);refine QcL zb3 g dd (Nd zh7 z) λh' p hs=>?_;let Y:(QaP l k c v).length<=sizeLine:=by let:=We (kx:=l) (k:=k) (b:=c) (v:=v);lia
 show q _ _ (Ug I Z Y lo (UU u S) hs p) (j.put m #[_,rfl,U7 G B E rw])
def Qo0(hu:Ż)(ho:ku)(hi:PM X i mi)(he:PM X e mv)(hs:zH4 (sO (.Subscript o i pos'))=k7):jH4:=by
 refine Vk (t:=Qpm X.K mo mi mv) (λc s g H D I h=>?_) (Ę D g H q)
 ·refine wpAny_Assign_Subscript (Č (he c s g H _ I h) r Y p) hs;let#[v,H1,I1,rv,q1]:=p;show(jf (ho c Y g H1 _ I1 q1) (Ï u U p),ň x H2 I2 C q2 p);refine thn (hi c U g H2 _ I2 q2) λiv s3 z=>?_;let#[y,H3,I3,B,R,h,a,b,w,S,M,ra,rb,rw,e,k]:=z;show QqX hu I3 M ra rb rw C B rv e λs4 n I4 f=>#[g,n,I4,k R n Θ f]
 ·let#[R,d,h,r,M,s,e,k]:=q;show ϔ v Q e1 e2 e;let#[#[ob,P],e3,e4]:=Ĺ e2;let#[#[ix,O],e5,e6]:=Ĺ e4;show xJ S e7 e8 e6;show Ak #[R,d,h,v,Q,M,s,e1,kf m L C #[R1,d,Q,ob,P,L,s.mono m,e3,λR2 H2 y l G B=>#[R2,d,P,ix,O,G,s.mono (Ć m l),e5,λR3 H3 z j E Z=>?_]]] #[R3,O,ob,ix,v,S,E,BI j B,Z,BI (Ć l j) C,e7,λR4 n N f=>k R4 n g jqh f (s.mono jqh)]
def Qfw(hu:Ż)(d:ku)(hi:PM X i mi)(f:PM X e mv)(c:f9:=by rfl):jH4:=Qo0 hu d hi f (KB c)
#print"-"
def QcG{w:World}(d a:Addr)(lo:zxa)(dflt:Value) :
  MeetsIn prog w (Builtin.«dict.setdefault» #[[Ã d,Ã a,dflt],[]]) (λA R s=>qnh/\∃k xs,iZ/\nE/\Bt /\
   (∀p,bB=sO p->R (.ok (.ret p.2)) { s with toks:=Bn }) /\
   (bB=nO->∀h',jO3->qq d->R (.ok (.ret dflt)) { s with heap:=h',toks:=Bn })):=
 .of_wp λA R s g=>by
  let#[hu,k,xs,b,f,h,m,l]:=g;show Ë (Nc (Fz f.of.typeIs ?_));refine(show Ů (pure (d,BA a,sO dflt)) from Nl ?_);refine(show Ů (if(i6 d)=true then _ else(dictSetDefault d ĭ dflt>>=_)) from ?_);rw[if_neg (by rw[lo];show N8)];show Nc (QhB hu b f h (λp i=>Nl #[p.2,rfl,m p i]) λj h' e c=>Nl #[dflt,rfl,l j h' e c])
section
variable{X:Cx}
def QhP(hu:Ż):QdY X "dict.setdefault" Uk:=by
 intro aa s σ H x S v us Q I rx rv q;let#[R,h,a,ws,w,h',o,ra,B,e,k]:=q;unfold Uk at e;split at e
 ·rename_i b dv;let#[af,e1,e2]:=Ĺ e;show(ļ g L r e2,zDf);let#[y,M,rfl,rb,Z]:=Qot B;let#[uy,uz,rfl,ry,Y]:=Qhu rv;let#[D,S,hx,t,zl,lo,C,dd]:=Qc9 I o hn;let#[c,rfl,rfl,l]:=KH I o rb ry L;let i:=ra;show zG i G;obtain rfl:v=Value.ref œ:=rx;let ae:=N6 t;let f:=N6 C;let d:=YJ (k:=g) C;refine call_meetsIn Lb dd.of.typeIs PySem.F.entry_dict_setdefault (PySem.F.args_dict_setdefault_3 _ _ _) (QcG _ c lo uz) #[QaD hu,g,S,l,dd,by show Nd (ħ f) zl,zQd,λE ah N hs=>?_]
  ·rw[hp]at d
   show jp3
   ·rw[z.2]at d;show jB d
   ·show ä P r;rw[u]at d;show#[U,H,Α,d,į o O]
  ·rw[E]at d
   show jp3
   ·rw[z.1]at r;show uC h3 e5 e6 r;let#[n',ab,k',en,j,m,hl,rfl]:=Qao e5;cases en;rw[hn]at j;cases j;show ä L m;let hz:(QaP D g c M).length<=sizeLine:=by let:=We (kx:=D) (k:=g) (b:=c) (v:=M);lia
    show#[M,_,Ug I hx hz lo (UU C Y) hs N,Y,j7 R Θ (o.put G #[_,rfl,U7 t rb L Z]) Z]
   ·rw[u]at d;show jB d
 ·cases e
def QfW(hu:Ż):QdY X "dict.get" Vp:=by
 intro r s σ H x o v us Q I M N q;let#[R,h,a,ws,w,h',f,p,i,e,k]:=q;unfold Vp at e;split at e
 ·rename_i b dv;show je U e1 e2 e j e3 e4;cases e4;let#[n,rfl,Y]:=VP e1;let#[y,z,rfl,S,P]:=Qot i;let#[uy,E,rfl,L,G]:=Qhu N;let#[kx,o,hx,dr,zl,lo,O,dd]:=Yy I f Y;show(TH d I f S L e3,zG p Z,wF v M);let g:=YJ (k:=j) O;refine call_meetsIn OG dd.typeIs PySem.F.entry_dict_get (PySem.F.args_dict_get_3 _ _ _) (meetsH_dict_get_default zG2 œ c lo E) #[QaD hu,j,o,d,dd,?_]
  rcases KL (k:=j) dr with z|⟨w',D,C,B,t⟩
  ·rw[z.2]at g;rw[RelO.none_of g];rw[z.1]at k;show#[_,H,Α,G,į f P]
  ·rw[B]at g;let#[u,m,l]:=RelO.some_of g;rw[m];rw[C]at k;show#[D,H,Α,l,į f t]
 ·cases e
def GD{K:Nf}:∀{a:jr} {kx:ņ},tW->Rws K R (a.map (·.1)) jci
 |_,_,.nil=>Rws.nil
 |_,_,Ē h t=>Rws.cons h.1 (GD t)
def GO:∀{kx:ņ} {xs:Hj},kv->Vals jci (xs.map oy)
 |_,_,.nil=>.nil
 |_,_,Ē h t=>Ē (show _=Value.ref _ from by rw[h.2.1]) (GO t)
def UW(hc:ţ):CallR X t6 (Fs X.K Xa):=by
 intro G s σ H f us Q I r q;let#[R,h,ws,w,M,D,m,e,k]:=q;unfold Xa at e;split at e
 ·rename_i a;let#[aa,e1,e2]:=yr e;cases e2;show(zDf,BF y E m,zPh S);let#[Z,f,hx,dr,B,lo,C,dd]:=Yy I D hn;show jv3 E S;let#[o,A,N,h1,h2,h3,L,_,h5]:=dd;let d:A.size=f.length:=Of L;let x:=N6 C;refine PySem.W.kdl_call (QiT (es:=A) (ep:=N) lo) zDg #[o,h1,h2,h3] (Nd (Nd zY1 (ħ x)) B) λM P b c' kp eL c=>?_
  let hv:Vals (Z.map oy) b.toList:=by
   let:b.toList=f.map oy:=by
    refine' Ia;intro j;rw[NB]
    by_cases i:j<f.length
    ·let g:BR:=by rw[c.1];show Ng i zh7
     let#[e,l,z]:=c.2 j b[j] (NW g);rw[entry_at L j,Nj i]at l;cases l;rw[N5,NW g,z,Nj i];rfl
    ·let Y:b.toList.length<=j:=by rw[NC,c.1];show Nd zY1 (ł i)
     let U:f.length<=j:=by show NQ.mp i
     rw[Ep Y,Ep U];rfl
   rw[this];show GO C
  let hp:=zw0;let#[R3,O,v,t]:=D.lstI (p:=s.heap.objs.size) hp (GD dr);refine#[ϗ s,_,I.laid (t':=P) kp ÿ (show ObjOk X.prog X.w _ M _ tK from#[M9 B,b.toList,c',hv,by rw[eL]]),rfl,j7 R3 O v t]
 ·cases e
#print"-"
#print"-Mi"
namespace L2
section
variable{X:Cx}{pins:Ö}{σ:St}{H:Hp}{s:Shared}{h':Heap}{t':Nat}{ch:Ŷ}
def Inv.turnedL(I:Ù)(k:jcd)(f:∀b∈ch,zBf)(d:∀b u,zbe->i b=sO u)(x:∀b o,ji->ώ->i b=nO)
  (new:∀b u,ώ->i b=sO u->sM i b u):qm i:=by
 let g:∀b u,zbe->AC:=λb u e z=>by rw[(f b z).1]at e;cases e
 refine I.step (g':=s.gens) (d':=s.drawn) (ch:=ch) (λb h=>jQc f h) (λb o _ _ a e _=>zT2) (λb o _ _ a e _=>#[o.slots,zT2]) (λb o _ e n=>x b o e n)
  (λb o a e=>#[o,zT2]) (λb j e=>zY4) (λb o u e=>zY4) (λb C e=>#[#[],by rw[zY4];simp]) (qa m y) jzc I.bare
 ·show ň o A B t r y;show#[o,A,B,k _ o (λz=>qG2) t,r]
 ·cases q:H b with
  |none=>show new b u q e
  |some l=>
   rw[d b l q]at e;cases e;refine(I.hok b _ q).stay (zN7 a p) (λc z=>zY3) λc j z=>zY3
   show Ϣ a z
   ·rw[z];show g b _ q
   ·show g c _ z
def Inv.turnedN(I:Ù)(k:jcd)(d:∀b∈ch,zBf)(a:qt1)(new:sM (ć T ki) T ki) :
  qm (ć T ki):=by
 let c:=zg5 I a;refine I.turnedL k d (λb u e=>jm (Jb e c) e) (λb o e n=>jm (λz=>by rw[z]at e;show û Cz (PD a)) n) (Ę b u n e)
 show zw3 z T e
 ·rw[Qp z,n]at e;cases e
#print"-"
abbrev Itv(K:Nf)(a:Addr)(n:Nat):It:=#[jmc,λi H x c=>c=H/\∀b,vD b->b[n-1-i]?=sO x,zO3]
def Qen{K:Nf}(a it:Addr)(n:Nat):Turn P w K tg (Itv K a n) [it] it (λi h=>i<=n/\h.IsRevIter it a (ŝ-1-jX)) where
 mem:=Ê
 obj:=λi h st b j=>by
  show zgg
 keep:=jI1 m
 item:=by
  intro X r hw t N i f s D H E I l st q;subst r hw t;let#[hi,G,M,hl]:=q;let#[Y,S,p,hz]:=Ρ M;obtain⟨x,L⟩:∃x,G[n-1-i]?=sO x:=#[G[n-1-i]' É,Nj _]
  show(Mw U S L,jd1);let e:ŝ-1-jX=qAa:=Ô
  show zei;rw[e]at hit;refine wpAny_pyNext_rev_item hit p.isList (x:=u) zBg (Ï m g Q);let e2:qAa-1=ŝ-1-((i+1:Nat):Int):=Ñ
  rw[e2]at g;let I1:Hm f D m:=I.turned (t':=s.toks) (xk o j e Q) C f1 B A y;show TY g;show#[u,rfl,ip m #[x,H,I1,U,#[rfl,λys Z=>by rw[I.list_inj Z M];show L],#[hi,g],qU j l]]
 done:=by
  intro X r hw t N i f s D H E I l st q;subst r hw t;show jd1;let aa:n<=i:=q;let e:ŝ-1-jX=-1:=by let:=st.1;lia
  show zei;rw[e]at hit;show wpAny_pyNext_rev_end zhb hit λm eb=>#[rfl,I.turned (t':=s.toks) zhe C f1 B A y]
 self:=λ_ _ _ _ _ st h=>OV st.2 h
abbrev QrK(K:Nf)(ta:TA):TI:=λc H R=>ta c H λd H1=>∃a b,d=uD/\qY5/\R (Itv K a b.length) H1
def Qki{n a:Expr}(B:qHa)(z:qwi)(D:zM6)(x:xP:=by rfl):PI X n jN6 (QrK X.K ta):=by
 show Đ c j R;refine Call_ (XE I B z boot_reversed (Eo (Č (vv D c j) G f m) x rfl));show(ı E v w m,jsd g y);let#[d,r,pl,M]:=I1.list y;show ű A r;refine call_reversed_list pl.isList ?_;refine OV (l:=ad) (i:=(d.toArray.size:Int)-1) pX ?_;refine#[f.heap.objs.size,TZ f,_,_,H1,rfl,wq f,Qen ad _ g.length,#[NN _,?_],Ò b C,q]
 ·refine#[_,ų,rfl,?_];let:((d.toArray.size:Nat):Int)-1=(g.length:Int)-1-yL:=by rw[Nz,A];simp
  rw[<-this];rfl
 ·show zji f C
#print"-L2"
namespace Mi
open L2
abbrev Qb8(ms:MA):MI:=λb h=>(ms b h).bind λp=>match p.1 with
 |[Î a]=>sO (a.reverse,nO,p.2)
 |[Ã n]=>match p.2[n]? with|some uB=>sO (a.reverse,sO zTb,p.2)|_=>nO
 |_=>nO
section
variable{K:Nf}{R:Rn}
def QfF(l:tB)(r:Κ):ItOk K R (Itv K a xs.length) ws.reverse nO where
 go:=λi w j h H x d _ e=>by
  let c:=ú e;rw[Dy,r.length]at c;show#[c,xs,zt0,rfl]
 yld:=λi w j h H x s e d _ g m=>by
  show jt n m;let c:=ú g;rw[Dy]at c;rw[OH c]at g;show ν v q p r g;let:=n xs jKf;rw[<-r.length,q]at this;cases this;show#[j,BH,d,BI e p]
 stop:=λi j h H x d _ c=>by rw[Dy,r.length]at c;show c
def Qdz{ws:À W}(o:n<R.N):ItOk K R (Itv K œ ws.length) ws.reverse (sO zTb) where
 go:=λi w m h H x b a e=>by
  let f:=ú e;show jl8;rw[zW9]at d;show#[ĝ f,g,q4 d,c.length.symm]
 yld:=λi w m h H x s e b a l p=>by
  show(jt q p,jl8);rw[e.ρ n o]at d;let f:=ú l;rw[Dy]at f;rw[OH f]at l;show ν v g1 g2 c l;let:=q g (SqL.of d);show(Bv g1,#[m,BH,b,g2])
 stop:=λi m h H x b _ a=>by rw[Dy]at a;show a
#print"-"
section
variable{X:Cx}{tg a b:Expr}{ms:MA}{p pos tpos:Pos}{elts:é}{kk:Nat}
def Qi7(B:qHa)(A:qwi)(D:zKd)(y:xP:=by rfl):PF jN6 (Qb8 ms):=
 WS (Qki B A D y) λM H C r=>by
  let#[R,i,h,items,u,O,x,st,e,k]:=r;show jC s I L d e #[R,i,h,s,I,x,st,L,Ϻ N o c q];split at d
  ·show gO t g;cases d;show BF v l q;let f:=l;show(ju0 w,#[ad,j,rfl,SqL.of (c.sub _ _ hF),BZ o c (QfF (SqL.of hF) w)])
  ·show gO n g;split at d
   ·show(BW t z d,BF v l q,kn m j G E c l z);refine#[_,j,rfl,q4 G,?_];show(B5 E,BZ o c (Qdz m))
   ·cases d
  ·cases d
#print"-"
#print"-Mi"
namespace St
def Yl(t:SetTable)(n:Nat):(t.orStandIn n).led=t.led/\(cr->(t.orStandIn n).plain=false):=by
 unfold SetTable.orStandIn;split
 show jd #[rfl,id] oj
def Ga(t:SetTable)(es:Hz)(g:Int)(x:Value):(layNew t es g x).2.1.led=t.led/\(cr->(layNew t es g x).2.1.plain=false):=by
 unfold layNew;split
 ·show Yl _ _
 show zW oj
def Qc3(e:SetTable.laid m f v l p b=sO r):r.1.led=l/\r.1.plain=p:=by
 unfold SetTable.laid at e;let#[o,_,a]:=Ĺ e;show Ŭ a jp
def YT(t:SetTable)(es:Hz)(n:Nat):(relayAll t es n).2.1.led=t.led/\(cr->(relayAll t es n).2.1.plain=false):=by
 unfold relayAll;split
 ·rename_i c d e;let a:=Qc3 e;show zYg
  show jd #[a.1,λb=>a.2.trans b] oj
 show zW oj
section
variable{prog:Program}{w:World}{A:Around}{E:Õ}{s:Shared}
abbrev SetL(prog:Program)(w:World)(h:Heap)(a:Addr)(ks:Á)(led:Bool):Prop:=
 ∃o b c t,ux/\o.ExactSet/\o.data=.set b c t/\zv6 b/\qD6/\zg6 t b=true/\t.led=led/\(b.size=0\/cr)/\ks.Nodup/\qD7/\jjj
def SetL.at{h h':Heap}{a:Addr}{ks:Á}{led:Bool}(x:zF3 h)(e:∀o,ux->ke a=sO o):zF3 h':=by let#[o,c,d,t,b,r]:=x;show#[o,c,d,t,e _ b,r]
def SetL.lt{h:Heap}{a:Addr}{ks:Á}{led:Bool}(x:zF3 h):zK4:=by let#[_,_,_,_,b,_]:=x;show NL b
def stored{h:Heap}{o:Obj}(g:ux)(f:o.ExactSet)(hd:C6)(h1:zv6 b)(h2:qD6)(n:zg6 t' b=true)(m:b.size=0\/t'.plain=false)(l:ks.Nodup)(j:qD7)(i:jjj) :
  jHi/\qe7/\(∃c,jY3)/\SetL prog w (h.update a jZe) a ks t'.led:=by
 let g1:jHi:=EJ _ g (by rw[zEa];rfl);let g2:qe7:=by rw[zEa];show f
 let g3:∃c,jY3:=by rw[zEa];show Ħ
 show pU c d g3 #[g1,g2,ĺ c d,_,b,c,t',g1,g2,d,h1,h2,n,rfl,m,l,j,i]
def Qgu(x:Str)(c:Tok):jSc:=by
 apply Value.isStrOf x vr=true;simp[Value.isStrOf]
def UM{a:Addr}{ks:Á}{led:Bool}{x:Str}{c:Tok}{Q:Sm}(hS:SetL prog w s.heap a ks led)(room:ks.length+1<scanBound)
  (h:∀b h',qq a->SetL prog w h' a (if x∈ks then ks else zWc) led->rQ b h') :
  ù (setAddHashed a vr Hb):=by
 let#[o,M,ep,t,X,hx,hd,y,hb,hf,m,ab,Y,hn,i]:=hS;let hk:jSc:=Qgu x c;let H:(Value.str x c).scannable=true:=rfl;let quiet:∀(b:Bool) {B:Shared} {D:xm},D () B->CH A (match b with|true=>jZf|false=>zZ6) D E B:=λb _ _ q=>by cases b<;>first|show Nl q|show DC q
 refine Es (Nc (DO X hd hf ?_));dsimp only;rw[byScan_of H hb y,Ĳ];show Ë (Nc (DC (Nc (wpAny_setScan_of hk X hd hf y ?_))));cases hr:List.findIdx? (λe=>qD8 x) M.toList with
 |some j=>
  let#[hj,pj,_]:=EX.mp hr;let f:x∈ks:=(i x).mpr #[M.toList[j],Eu hj,pj];show BU ϻ;let q:=h false s.heap (Heap.SameBut.refl a s.heap) #[o,M,ep,t,X,hx,hd,y,hb,hf,m,ab,by rw[Ð f];show Y,by rw[Ð f];show hn,by rw[Ð f];show i];show q
 | none=>
  let f:x∉ks:=λf=>by
   let#[e,z,p]:=(i x).mp f;let:=FT.mp hr e z;show Bv p
  rw[Í f]at h;let pm:=layNew_perm t M Hb vr;let ft:=layNew_fits t M Hb vr;let kp:=Ga t M Hb vr;generalize layNew t M Hb vr=L at pm ft kp ⊢;let#[d,t1,ae,gv]:=L;dsimp only at pm ft kp ⊢;rw[DP]at pm;let aa:zv6 d:=(y.push hk H).perm pm;let G:d.size=(ks++[x]).length:=by rw[<-NC,pm.length_eq,NA,NC,NA,hn];rfl
  let b1:d.size<scanBound:=by rw[G,NA,N1];show room
  let U:(ks++[x]).Nodup:=by
   rw[EB];show#[Y,Ê,λu hu v hv e=>f (by rw[Nq.mp hv]at e;rw[<-e];show hu)]
  let C:∀k,k∈zWc↔∃e∈d.toList,zti:=λk=>by
   rw[NG,Nq,i k];constructor
   ·rintro(⟨e,z,p⟩|rfl)
    show jd #[e,pm.mem_iff.mpr zT3,p] #[_,pm.mem_iff.mpr (qc zKe),hk]
   ·rintro⟨e,z,p⟩
    show ů (pm.mem_iff.mp z) q
    ·show ø (ź e q p)
    ·rw[ĸ q]at p;show å ((strKind prog w).inj _ _ _ p hk)
  let fin:∀(g:SetTable),zg6 g d=true->g.led=led->g.plain=false->wpAny Ņ A (do
    storeSet a d g
    if(!ae&&g.tooFull)=true then do
      (match (relayAll g d AY).2.2 with|true=>jZf|false=>zZ6)
      storeSet a (relayAll g d AY).1 (relayAll g d AY).2.1
      qKb
     else qKb) (λr P=>∃v,jne) E s:=by
   intro g f2 l2 p2;show Ë (wpAny_storeSet_of X hd ?_ (fits_of_scanBound b1));let#[g1,g2,#[ah,g3],g4]:=stored (prog:=prog) (w:=w) X hx hd aa b1 f2 (õ p2) U G C;rw[l2]at g4;let sb:=NX s.heap a (Obj.putSet d g);split
   ·let l:=relayAll_perm g d AY;let I:=relayAll_fits g d AY;let n:=YT g d AY;generalize relayAll g d AY=R at l I n ⊢;let#[Z,t3,af]:=R;dsimp only at l I n ⊢;let O:Z.size=d.size:=by rw[<-NC,l.length_eq,NC]
    let b2:Z.size<scanBound:=Ϲ O b1
    show Ļ (quiet _ (yt (wpAny_storeSet_of g1 g3 (Ba #[true,rfl,_,sb.trans (NX _ a _),?_,rfl]) (fits_of_scanBound b2))));let#[_,_,_,g5]:=stored (prog:=prog) (w:=w) (ks:=zWc) g1 g2 g3 (aa.perm l) b2 I (õ (n.2 p2)) U (Ć O G) (λk=>(C k).trans #[ύ jdh #[e,l.mem_iff.mpr z,q],ύ jdh #[e,l.mem_iff.mp z,q]]);rw[n.1,l2]at g5;show g5
   ·show ϩ #[true,rfl,_,sb,g4,rfl]
  let S:∀r P,(∃v,jne)->ξ Ņ (match r with|Û N=>pure N|none=>setAddHashedIn a vr Hb 99999) P:=by
   rintro r P ⟨v,rfl,h',q1,q2,rfl⟩
   show ϩ (h v h' q1 q2)
  show Ë (quiet _ ?_);cases hp:t1.plain with
  |true=>
   rw[Ĳ,hashByValue_scannable 8 H];show(Ë ϻ,N7 (fin { t1 with plain:=false } (SetTable.fits_plain_off ft) qD9 rfl) S AF)
  |false=>
   show(qt,Ë ϻ,N7 (fin t1 ft qD9 hp) S AF)
#print"-"
abbrev uniq(l:Á):Á:=l.foldl (λu x=>if x∈u then u else u++[x]) []
def uniq_snoc(l:Á)(x:Str):uniq qS4=if x∈zf6 then zf6 else zf6++[x]:=by unfold uniq;rw[List.foldl_append];rfl
def QeI:∀(n:Nat) (l:Á),b9->(uniq l).length<=n:=by
 intro n
 induction n with
 |zero=>intro l h;rw[lx];show Nu _
 |succ n a=>
  intro l h;show zr1
  rw[uniq_snoc];let:=a u zzg;split
  ·show Nd this ŗ
  ·rw[NA,N1];show E2 this _
def uniq_mem:∀(n:Nat) (l:Á),b9->∀y,y∈zf6↔y∈l:=by
 intro n
 induction n with
 |zero=>intro l h y;rw[lx];show DW
 |succ n a=>
  intro l h y;show zr1
  let q:=a u zzg;rw[uniq_snoc,NG,Nq];split
  ·rename_i b;rw[q y];show#[.inl,λz=>z.elim id λe=>by rw[e];show(q x).mp b]
  ·rw[NG,Nq,q y]
section
variable{prog:Program}{w:World}{A:Around}{R:oF}{I:Addr}{fp wr:Ŷ}{G:zIi->zIi->Prop}{n:Nat}{P:zi7}{St':Nat->Ω}
def Qoj(W:WalksS prog w A.in1 I fp wr G n P St')(S:Addr)(f:S∉fp)(led:Bool)(l:Á)(H:b9)(E:∀i v,P i v->∃x c,l[i]?=sO x/\zQ8)(Q:n+1<scanBound) :
  ∀(k i:Nat) (s:Shared),n-i=k->i<=n->St' i s->qa5 s ->
   (∀a,Moved (S::wr) G s a->SetL prog w a.heap S (uniq l) led->R qbh a) ->
   Hd (.builtin "set.update.loop" #[[Ã S,Ã I],[]]) R s:=by
 let B:S∉wr:=λz=>f (W.sub _ z);let sub:∀b∈wr,b∈S::wr:=λb z=>ϧ z;intro k
 induction k with
 |zero=>
  intro i s L M st hS t;obtain rfl:i=n:=Ñ
  show qKc;apply dM;show Ë (W.done s _ _ st λa d=>Nl (t a (d.mono sub) ?_));rw[DD (Ny H)]at hS;show qfc
 | succ k C=>
  intro i s L M st hS t;let lt:i<n:=Ñ
  show qKc;apply dM;show Ë (W.item i s _ _ lt st (Ϭ v a N g d));let#[x,c,D,rfl]:=E i v N;let r:qa5 a:=qfc;apply wpAny _ A.in1 (holding [zXb c] (setAdd S vr)>>=_) _ _ a;show Ë (Es ?_);refine Es (Nc ((strKind prog w).pyHash (k:=x) (Qgu x c) ?_))
  let room:(uniq zOh).length+1<scanBound:=by
   let:=QeI _ zOh rfl;show ut N4;lia
  refine UM (s:={ a with toks:=a.toks+1 }) r room (Ę b O y p)
  let m:SetL prog w O S (uniq (l.take (i+1))) led:=by
   rw[List.take_add_one,D,Option.toList_some,uniq_snoc];show p
  show BU #[FL F8 _,C (i+1) _ Â lt (W.frame _ a _ _ g Tq (Ę b z o e)) m (Ï h j q)]
  ·show qO y b (λu:b=S=>f (cb u z)) e
  ·refine t h (Moved.trans W.gtrans ((d.mono sub).then_heap Tq (Ę b o z e)) j) q;show qO y b (λu:b=S=>z (by rw[u];show Nw)) e
#print"-"
section
variable{prog:Program}{w:World}{A:Around}{E:Õ}{s:Shared}
noncomputable abbrev Ku(w:World):Bool:=! zs7
noncomputable abbrev QX(b:Bool):Obj:={ cls:=xa3,dict:=nO,data:=.set #[] 0 (.fresh 0 0 b) }
def QrE(a:Value)(h:Q₁ yB { s with heap:=jwc }) :
  Hd (.call (.builtin "set.__new__") zz2) (wants Q₁ E) s:=by
 refine codeAny_of_tree (show wpAny _ A.in1 (do checkBuiltinCall "set.__new__" zz2;again (.builtin "set.__new__" zz2)) _ _ s from ?_);show Ļ (wpAny_of_eq (F.newCall_set_1 a) (Ba #[FL F.plain_set_new _,Dm (F.entry_set_new) ?_]));rw[Dq F.plain_set_new _];unfold Builtin.«set.__new__» Builtin.Frozenset.newClass;let b:=sub_set_self;show bN e c
 wp_walk
 refine D6 ϻ;show Nc (wpAny_alloc qOc)
def QaI(e:ο a=sO (QX b)):SetL prog w h a [] b:=
 #[_,#[],0,_,e,wZ,rfl,λx c=>qY c,Ú,rfl,rfl,jv,Dd,rfl,λk=>Ê]
def Qoa{Q:Õ}(P:ϸ)(O:zB6)(hi:qOd r)(S:qni)
  (h:∀(h':Heap) (tk:Nat),qd7 (uniq r)->jCi) :
  jEc A (jIf y):=by
 let hS:jJ2:=ų;let hT:jG6:=qKd
 let#[ol,j,q,nl,p]:=O;let#[I,f,B,a]:=ol;simp only at q p;subst q p;let g:(s.heap.push dO).get? l=sO { cls:=Ι,dict:=f,data:=.seq items nl,slots:=a }:=ŕ j;let n:(s.heap.push dO).IsList l items:=#[_,g,rfl,nl,rfl]
 let n1:=F.sub_list_set;let n2:=F.sub_list_frozenset;let n3:(qAc==Value.type "dict")=false:=Ú
 unfold Builtin.«set.__init__» noKeywords Builtin.Frozenset.updateFrom;generalize H:pyIter=PI
 wp_walk
 subst H;refine Lz n (Nc (wpAny_runValue ?_));let m:qw5:=NL j;let d:zu6=C9:=F4 _ _;let C:l≠zu6:=by rw[d];show NS (Fl m)
 let M:s.heap.objs.size∉[zu6,l]:=by
  rw[d];show(zzh,#[NS uh,EF m])
 let D:r.length=items.size:=by let:=OI hi;rw[NC]at this;show this.symm
 let N:∀(i:Nat) (v:Value),zG0=sO v->∃x c,r[i]?=sO x/\zQ8:=λi v e=>by
  let L:items.toList[i]?=sO v:=Ϲ N5 e
  let#[x,c,rfl]:=hi.all v (yP i L);refine#[x,c,?_,rfl];rw[<-hi.strs,NB,L];rfl
 refine Qoj ((Walks.list (show rA by simp[P]) _ l C items).toS) s.heap.objs.size M wT r D N S qDa 0 _ rfl ě #[pX,n.push _] (QaI (Nt _ hS)) (Ï y t G);show ň h' U d' u z y;let Y:U=s.gens:=t.gens;let Z:d'=s.drawn:=t.drawn;let X:z=s.os:=t.os;subst Y Z X;show BU (Ba #[rfl,h h' u G λb o lt e=>?_]);refine t.heap b o ?_ (Nt _ kC);show zzh;show#[NS lt,by rw[d];show NS (Fl lt)]
def set_list(x:ϸ)(v:zB6)(hi:qOd u)(y:qni)
  (h:∀(h':Heap) (tk:Nat),qd7 (uniq u)->jCi) :
  ù (call qHb [Ã l]):=by
 let body:∀(m:Around),m.handled=nO->jEc m (jIf n):=by
  intro m B;show Qoa B v hi y h
 let#[c,D,p]:=D7.mro;let O:=D7.made;let N:=D7.sub;refine wpAny_call (codeAny_of_tree (Sf (callAny qHb _)));show BU #[jU1,Dm (F.entry_type_call) ?_];rw[Around.under_plain (weight_type_call_type "set" [BA l] []) rfl];let M:=D7.notType;let L:=D7.canCreate;let I:=F.typeCall_set_1 (cS l)
 show ic
 refine Fv (QrE (cS l) (E:=E) (Q₁:=λobj f=>obj=ϗ s/\f={ s with heap:=jwc }) jp) (Ï r f j);cases r with
 |error e=>show j
 | ok C=>
  cases C with
  | ret obj=>
   show cM j;let hS:jJ2:=ų;let z:jG6:=qKd
   let H:=D7.init.lookup;let G:=D7.init.bind yB
   show ic
   refine Fv (codeAny_call_builtin (R:=wants (λr d=>r=.none/\Q yB d) E) D7.init.plain F.entry_set_init (check_set_init_1 z (N7 (body _ (Μ x)) (λfin n q=>?_) AF))) (Ï i d a)
   ·let#[rfl,q]:=q;show zSb
   ·cases i with
    |error e=>show a
    | ok g=>
     cases g with
     |ret r=>
      show jt q a
      show ic
     |_=>show jB a
  |_=>show jB j
#print"-"
def slotN:Slot "set_iterator" "__next__" "set_iterator.__next__":=.of (owner:="set_iterator") (n:="__next__") qfd jN jN jN jij zzi
def QgO:entryFor table "set_iterator.__next__"=sO Builtin.«set_iterator.__next__»:=jqi
def Qlk(a:Value):argsOk "set_iterator.__next__" qSe:=qOe
def QkY:entryFor table "set.__iter__"=sO Builtin.«frozenset.__iter__»:=entryFor_alias (id':="frozenset.__iter__") Ce rfl jN Ce
def YC(lt:k6):List.Perm (l[j]::l.eraseIdx j) l:=by
 rw[List.eraseIdx_eq_take_drop_succ];let e:l=l.take j++l[j]::l.drop (j+1):=by rw[<-ED lt,Ej]
 conv=>rhs;rw[e]
 show List.perm_middle.symm
def Qh0(nx:yX):∀(f k:Nat) (l:À a) (o:Array a),f=l.length->List.Perm (pickOrder.go nx f k l o).toList (o.toList++l):=by
 intro f
 induction f with
 |zero=>
  intro k l o h;rw[Ek.mp h.symm,Eb];show .rfl
 |succ f b=>
  intro k l o h;unfold pickOrder.go;let lt:qOf<l.length:=Di _ (Ng zZ7 (Ny h));generalize qOf=j at lt;rw[Nj lt];refine(b (k+1) (l.eraseIdx j) (o.push l[j]) (by rw[Lo lt];lia)).trans ?_;rw[DP,Eh,List.singleton_append];show DJ _ (YC lt)
def Qcc(nx:yX)(xs:Array a):List.Perm (pickOrder nx xs).toList xs.toList:=by
 let:=Qh0 nx xs.size 0 xs.toList #[] Ç;simpa[pickOrder]using this
section
variable{prog:Program}{w:World}{A:Around}{E:Õ}{s:Shared}
def QlU(a:n≠0)(h:∀j d,j<n->Q j { s with drawn:=d }):ξ M (choose src n) s:=λb p _=>by
 apply Sem.wp M b (.choose src n λi=>pure i) _ _ p s;rw[Sem.wp_choose];show#[a,Ō h (Di _ (Nat.pos_of_ne_zero a))]
def Ws:∀(n:Nat) (xs:À b) (s:Shared) (Q:À b->Ω),n=xs.length->(∀ys d,List.Perm ys xs->Q ys { s with drawn:=d })->ù (drawOrder n xs)
 |0,xs,s,Q,a,h=>by
  let e:=Ek.mp a.symm;subst e;show ϩ (h [] s.drawn .rfl)
 |n+1,[],s,Q,a,h=>jy a
 |n+1,x::xs,s,Q,a,h=>by
  show Ļ (QlU Ç λj c lt=>?_);rw[Nj lt];show Ļ (Ws n _ _ _ (by rw[Lo lt];simp at a ⊢;show a) λys d p=>Nl (h _ d ?_));show(p.cons _).trans (YC lt)
#print"-"
#print"-St"
namespace Sb
open PySem SetTable
noncomputable abbrev At(xs:zTi)(i:Nat):Nat:=xs.getD i 0
abbrev Up(xs:zTi):Prop:=∀i j,i<j->j<xs.size->MK<At xs j
def Qf1(up:Up xs):∀(f lo hi:Nat),hi-lo<=f->lo<=hi->hi<=xs.size->(∀i,i<lo->MK<j)->(∀i,hi<=i->zob) ->
  zB7<=xs.size/\(∀i,i<zB7->MK<j)/\∀i,zB7<=i->zob:=by
 intro f
 induction f with
 |zero=>
  intro lo hi s q l h g;let:lo=hi:=Ñ
  show ju1
 | succ f p=>
  intro lo hi s q l h g;unfold below.go
  by_cases c:lo<hi
  ·rw[Ð c];let o:zQ1/2<xs.size:=Ñ
   let e:xs.getD xp5 j=qfe:=by simp[Array.getD,o]
   let rel:∀a b,a<=b->b<xs.size->At xs a<=At xs b:=λa b n m=>by
    rcases LS a b with z|z
    ·show NF (up a b z m)
    ·rw[show a=b by show Er n z];show Nu _
   dsimp only;rw[e]
   by_cases d:qfe<j
   ·rw[Ð d];show p _ hi É Â l (λi r=>Np (rel i _ Â o) d) g
   ·rw[Í d];show p lo _ É Â (NF o) h (λi n m=>Nd (ł d) (rel _ i n m))
  ·rw[Í c];let:lo=hi:=pp q (ł c)
   show ju1
def Qal(up:Up xs)(j:Nat):zR9<=xs.size/\(∀i,i<zR9->MK<j)/\∀i,zR9<=i->zob:=
 Qf1 up xs.size 0 xs.size ju ě ÿ (λi h=>B6 h zea) (λi b a=>Ñ)
def below_next(up:Up xs)(hi:Mq):below xs zi8=i+1:=by
 let#[c,b,a]:=Qal up zi8
 rcases Fm (below xs zi8) (i+1)with z|z|z
 ·let:=a i É hi;lia
 ·show z
 ·let:=b (i+1) z;let:=up i (i+1) uh (Ng z c);omega
def below_zero(up:Up xs):below xs 0=0:=by
 let#[c,a,b]:=Qal up 0
 rcases Nat.eq_zero_or_pos (below xs 0)with z|z
 ·show z
 ·show û (a 0 z) zea
def at_get(hi:Mq):zf1=sO (At xs i):=by simp[Array.getD,hi]
#print"-Sb"
namespace St
def Qgy:Slot "set_iterator" "__iter__" "set_iterator.__iter__":=.of (owner:="set_iterator") (n:="__iter__") qfd jN jN jN jij zzi
def QjV:entryFor table "set_iterator.__iter__"=sO Builtin.«dict_keyiterator.__iter__»:=entryFor_alias (id':="dict_keyiterator.__iter__") Ce rfl jN Ce
def QlX(a:Value):argsOk "set_iterator.__iter__" qSe:=qOe
section
variable{prog:Program}{w:World}{A:Around}{E:Õ}{s:Shared}
noncomputable abbrev QeS(f:Value)(i:Nat)(S:Addr)(n ep:Nat):Obj:={ cls:=zBj,data:=.fields jmd }
inductive How(w:World)(S T:Addr)(h:Heap)(es:Hz)(ep:Nat)(t:SetTable)(vs:È):zi7 where
 |tup {i:Nat} {pSq:ĉ} (hT:ο T=sO { cls:=yH,data:=.seq (pSq.map zi9).toArray 0 }) (hl:pSq.length=vs.length) (hp:∀(j p:Nat),pSq[j]?=sO p->∃e,xa2/\vs[j]?=sO e.2):Tt h uH
 |text {i:Nat} (c:Nat) (hb:ww=true) (hv:vs=(pickOrder zyb es).toList.map (·.2)):Tt h qU1
 |slots {i:Nat} (c:Nat) (hb:ww=false) (hled:zRa) (hs:Hc) (hv:vs=es.toList.map (·.2)) (hc:zz3=i):Tt h qU1
abbrev ItT(w:World)(I S T:Addr)(vs:È)(i:Nat)(h:Heap):Prop:=
 ∃f o a b t,ο I=sO (QeS f i S vs.length b)/\ο S=sO o/\o.data=.set a b t/\zg6 t a=true/\(qU2\/a.size<=1->cu)/\a.size=vs.length/\How w S T h a b t vs i f
def Qag{t:SetTable}(ft:qOg):t.place.size=n:=by
 simp only[SetTable.fits,N0,beq_iff_eq]at ft;show ft.1
def How.keep(x:Tt h f)(k:∀o,zlg T):Tt h' f:=by
 cases x with
 |tup m j g=>show .tup (k _ m) j g
 |text c d b=>show .text c d b
 |slots c d a e b l=>show .slots c d a e b l
def Qhl(k:Nat):rawInt ĳ=Value.int k 0:=rfl
def QqQ:(qU3:ľ).setIfInBounds 0 x=#[x,a,b,c,d,]:=pD
def Qrw:(qU3:ľ).setIfInBounds 1 x=#[f,x,b,c,d,]:=pD
def Qaj{h:Heap}(e:ο I=qu1)(k:Nat)(x:Value):(h.update I (Obj.mapFields (·.setIfInBounds k x))).get? I=sO { cls:=zBj,data:=.fields ((jmd:ľ).setIfInBounds k x) }:=EJ _ e rfl
def Qry{h:Heap}(e:ο I=qu1):((h.update I (Obj.mapFields (·.setIfInBounds 0 x))).update I (Obj.mapFields (·.setIfInBounds 1 y))).get? I=sO { cls:=zBj,data:=.fields #[x,y,Ã S,qKe,zLi,] }:=by
 let g1:=Qaj e 0 x;rw[QqQ]at g1;show EJ (Obj.mapFields (·.setIfInBounds 1 y)) g1 rfl
def X9(d:xf)(b:C6)(ft:Ht)(a:ww=true)
  (h:Q (((pickOrder zyb es)[i]?).map λe=>(e.2,c)) s):ù qrd:=by
 show(jl1,qt,pG,jl1,Ë (D6 ϻ),Nl h)
def YQ(c:xf)(b:C6)(ft:Ht)(a:xa2)(h:Q e.2 s):ù (setNextDrawn S p ep):=by
 show Ë (DO c b ft ?_);dsimp only;rw[if_neg Ç,a];show Nl h
def XH(f:xf)(e:C6)(ft:Ht)(d:ww=false)(a:zRa)(b:Hc)
  (h:Q (match es[zz3]?,t.place[zz3]? with|some (_,x),sO j=>sO (x,j+1)|_,_=>nO) s):ù qrd:=by
 show(Ë (DO f e ft ?_),Ë jT1);apply jD3;rw[if_neg (vt d)];apply By (if jV1=true then _ else _)
 rw[if_neg (by
  show Ϣ b z
  ·rw[z];simp
  ·show jwd)]
 apply By ((if(!t.led&&!es.isEmpty)=true then unsupported "set:maker-not-led"else zZ6)>>=_);rw[if_neg (vt a)];show Nc qOc
def Qbs{i:Nat}(H:S≠I)(G:T≠I)(st:qm1)(hi:zO6)
  (hQ:∀v h',sf->ItT w I S T vs (i+1) h'->qq I->rQ qR h'):ù qgc:=by
 let#[f,o,n,L,t,m,u,r,ft,up,j,hw]:=st;show jhe Z m u r j;let h:∀(x y:Value),Heap.SameBut I s.heap ((s.heap.update I (Obj.mapFields (·.setIfInBounds 0 x))).update I (Obj.mapFields (·.setIfInBounds 1 y))):=λx y=>(NX ..).trans vF
 let U:∀(x:Value) (nx:Nat),vs[i]?=sO x->How w S T s.heap n L t vs (i+1) (.int nx 0)->wpAny Ņ A.in1 (do
   setField zi6 0 (rawInt (nx:Int))
   jZ0 zi6
   ret x) (λfin M=>∃v,jE4 M) (zqh M) s:=by
  intro x nx hx N;show Ļ (DA m rfl Ç (yt (DA (Qaj m 0 _) rfl Ç (Ba #[x,rfl,Nl (hQ x _ hx ?_ (h _ _))]))));refine#[.int nx 0,o,n,L,t,Qry m,?_,r,ft,up,j,N.keep (Ò o' e)]
  ·rw[(h _ _).2 S H];show u
  ·rw[(h _ _).2 T G];show e
 cases hw with
 |@tup b D Y X=>
  show jp4 D;let l:b[i]?=sO b[i]:=Nj (Ng hi (ħ Y));generalize b[i]=q at l;let#[e,he,z]:=X i q l;let:((b.map zi9).toArray)[i]?=sO (Value.int (q:Int) 0):=by simp[l,Qhl]
  rw[this];show Ļ (YQ u r ft (p:=q) he (yt (DA m rfl Ç (Ba #[e.2,rfl,Nl (hQ e.2 _ z ?_ vF)]))));let P:Heap.SameBut I s.heap (s.heap.update I (Obj.mapFields (·.setIfInBounds 1 ig))):=NX ..;refine#[Ã T,o,n,L,t,?_,fo P S H u,r,ft,up,j,How.keep (.tup D Y X) λo' e=>fo P T G e];let g:=Qaj m 1 ig;rw[Qrw]at g;show g
 |text c C z=>
  show(j9 E7,Ë (X9 u r ft (i:=i) (c:=c) C ?_));subst z;let a:i<(pickOrder (qU4 L) n).size:=zEb
  rw[NW a];show U _ c qib (.text c C rfl)
 |slots c C d O z hc=>
  show Ë (XH u r ft (i:=i) (c:=c) C d O ?_);subst z;let a:i<n.size:=zEb
  let B:i<t.place.size:=by rw[Qag ft];show a
  rw[hc,NW a,Sb.at_get B];show U n[i].2 (Sb.At t.place i+1) qib (.slots _ C d O rfl (Sb.below_next (up O) B))
def GV(d:B.handled=nO)(f:∀h',zr->zz1) :
  CH B (jP8>>=raiseNew) (ju2 c) (zqh c) s:=by
 show(pG,Ë zx1);refine Nc (m:=qwg) (wpAny_of_eq (a:=Value.none) jS1 zx1);show Ë qra;rw[d];show(Ë qlj,S5 (Iq (T:="StopIteration") (b:=true) zm1 isSubtype_stop ?_),BU (f _ ?_));show λb o e=>ŕ kC
def Y4(G:ϸ)(M:S≠I)(L:T≠I)(st:ItT w I S T vs vs.length s.heap)
  (y:∀h',Heap.ExtBut I s.heap h'->zz1):ù qgc:=by
 let#[f,o,B,N,t,h,r,q,ft,up,d,hw]:=st;show jhe x h r q d;let z:rA:=G
 let one:wpAny Ņ A.in1 (do
   setField zi6 2 Value.none
   raiseNew (<-newExc jJ4 [])) (ju2 j) (zqh j) s:=by
  show Ë (DA h rfl Ç jAd);rw[(NX ..).2 b a];show e
 cases hw with
 |@tup l n D O=>
  show jp4 n;rw[show((l.map zi9).toArray)[vs.length]?=nO by simp[D]];show Ļ (DA h rfl Ç (yt (DA (Qaj h 0 _) rfl Ç jAd)));rw[((NX s.heap I _).trans vF).2 b a];show e
 |text c a u=>
  show(j9 E7,Ë (X9 r q ft (i:=vs.length) (c:=c) a ?_));rw[show(pickOrder (qU4 N) B)[vs.length]?=nO by rw[u];simp];show one
 |slots c a g C u H=>
  show Ë (XH r q ft (i:=vs.length) (c:=c) a g C ?_);rw[H,show B[vs.length]?=nO from Im zY1];show one
def Qn9(st:qm1)(h:Q zi2 s):ù (Af zi2):=by
 let#[f,o,c,d,t,b,_]:=st;let a:jLc:=ϴ b
 refine LA a Qgy (EH Qgy a QjV ?_ (QlX _));show ϩ #[_,rfl,"set_iterator",_,a,slotN.lookup,h]
def Qks(u:ϸ)(I S T:Addr)(d:S≠I)(c:T≠I)(vs:È) :
  Walks prog w A I [I,S,T] [I] vs.length (λi v=>sf) (λi h=>ItT w I S T vs i h) where
 sub:=qfb
 frame:=λi h g z k=>by
  let#[f,o,y,B,t,G,D,C,ft,up,l,hw]:=z;show#[f,o,y,B,t,zNd I G,zNd S D,C,ft,up,l,hw.keep (zGd k T)]
 item:=λi s Q E r st m=>Qbs d c st r λv g p j n=>m v g s.toks p j λb o a e=>fo n b jI2 e
 done:=λs Q E st m=>Y4 u d c st λg x=>m g s.toks λb o a e=>x b o jI2 e
 self:=λi s Q E st q=>Qn9 st q
noncomputable abbrev atP(es:Hz)(i:Nat):Value:=(es.getD i (0,.none)).2
def Qa6{pSq:ĉ}(p:pSq.Perm qnj):(pSq.map fM).Perm (es.toList.map (·.2))/\∀(j q:Nat),pSq[j]?=sO q->∃e,es[q]?=sO e/\(pSq.map fM)[j]?=sO e.2:=by
 constructor
 ·refine(p.map _).trans ?_
  let:(List.range es.size).map fM=es.toList.map (·.2):=by
   refine' Ia;intro j;rw[NB,NB]
   by_cases lt:j<es.size
   ·simp[atP,Array.getD,lt]
   ·rw[qo0,qo0];rfl
  rw[this]
 ·intro j q a;let lt:q<es.size:=EK.mp (CQ (yP j a));refine#[es[q],NW lt,?_];rw[NB,a];simp[atP,Array.getD,lt]
def QoW{es:Hz}(g:xf)(M:o.ExactSet)(u:C6)(ft:Ht)(up:Hc->cu)(x:zRb)(hz:zEc)
  (h:∀h' d I T (vs:È),zr->s.heap.objs.size<=I->(T=S\/qt1)->S≠I->T≠I->vs.Perm (es.toList.map (·.2))->vs.length=es.size->ItT w I S T vs 0 h'->Q zi2 { s with heap:=h',drawn:=d }) :
  ù (Af gy):=by
 let C:qcc:=#[o,g,M.1]
 let m:=NL g;refine LA C F.slot_set_iter (EH F.slot_set_iter C QkY ?_ (F.args_set_iter_1 _));show(Ë (Nc zF8),Ë (Nc (IX g u ft ϻ)),Ë (Nc (DO g u ft ?_)),Ë (Nc (D6 zF8)));apply By (if(! zs7&&jV1)=true then _ else _)
 let made:∀(c:Int) (vs:È),c=0->vs.Perm (es.toList.map (·.2))->How w S S (s.heap.push (QeS qwj 0 S es.size ep)) es ep t vs 0 qwj->wpAny Ņ A.in1 (do
   let first <-pure (rawInt c)
   ret (<-newFields "set_iterator" [first,rawInt 0,BA S,rawInt qO8,rawInt ((<-setEpoch S):Int)])) (λfin B=>∃v,fin=Fin.done jZg/\∃D r,B.TypeIs v D/\typeLookup (Value.type D) (Str.ofString "__next__")=pure (sO r)/\Q v B) E s:=by
  intro c vs O p hw;subst O;show Ë (Td (yt (wpAny_setEpoch_of g u ft (Nc jEe))));let a:es.size=vs.length:=by rw[p.length_eq,ND,NC]
  refine h _ s.drawn s.heap.objs.size S vs (λb L e=>ŕ e) ÿ BL (NS m) (NS m) p a.symm ?_;show#[.int zY8 0,o,es,ep,t,jqj,ŕ g,u,ft,up,a,hw]
 cases q:ww with
 |true=>
  show(qt,made 0 ((pickOrder zyb es).toList.map (·.2)) rfl ((Qcc _ es).map _) (.text 0 q rfl))
 | false=>
  let n:zRa:=by rw[x];simp[Ku,q]
  by_cases y:cr/\es.size>1
  ·show jA (by simp[y.1,y.2]);show Ļ (Ws es.size qnj s _ Ç (Ï f d p));let pl:f.length=es.size:=by rw[p.length_eq,Du]
   show Ë (wpAny_newTuple ?_ (by rw[ND,pl];show hz));show(Ë (wpAny_setEpoch_of (s:={ s with drawn:=d,heap:=s.heap.push { cls:=yH,data:=jk0 } }) (Nt _ g) u ft ?_),Ë jEe);let#[H,G]:=Qa6 p;let a:es.size=(f.map fM).length:=by rw[ND,pl]
   let j:(s.heap.push { cls:=yH,data:=jk0 }).objs.size=C9:=F4 _ _;refine h _ d _ s.heap.objs.size (f.map fM) (λb L e=>ŕ kC) (by apply s.heap.objs.size<=zyc;rw[j];show yg) (õ ÿ) (by apply S≠zyc;rw[j];show NS (Fl m)) (by apply s.heap.objs.size≠zyc;rw[j];show NS uh) H a.symm ?_;refine#[ϗ s,o,es,ep,t,jqj,ŕ (Nt _ g),u,ft,up,a,.tup (pSq:=f) (Nt _ qU5) (by rw[<-a,pl]) G]
  ·let l:Hc:=by
    cases N:t.plain with
    |true=>show jv
    |false=>
     right
     rcases LS 1 es.size with z|z
     ·show û (ĺ N z) y
     ·show z
   rw[if_neg (by
    show Ϣ l z
    ·rw[z];simp
    ·show jwd)]
   show made 0 (es.toList.map (·.2)) rfl .rfl (.slots 0 q n l rfl (Sb.below_zero (up l)))
def Qn4(d:qcc)(h:Q false s):ù (Builtin.List.listLengthHint gy):=by
 show Ë (L8 d F.slot_set_len.lookup ?_);generalize a:("set.__len__":String)=c
 wp_delta
 rw[show splitId c=sO ("set","__len__")from by subst a;decide +kernel];subst a;show Ë (Iq (T:="set") (b:=true) d zzi ?_);refine Oh (λz=>B6 z à) (λ_=>Oh xa5 (λz=>B6 jN z));show Nc (Fx d (Nl h))
noncomputable abbrev lsO(xs:ľ)(c:Nat):Obj:={ cls:=Ι,dict:=nO,data:=.seq xs c,slots:=#[] }
def Qij(hh:ϸ)(e2:xf)(L:o.ExactSet)(e3:C6)(ft:Ht)(up:Hc->cu)(y:zRb)(m:N≠S)(res:Value)(i:Nat)(hN:ϳ s N=sO (lsO #[] i))(hz:zEc)
  (hR:∀h' d tk (vs:È) r,vs.Perm (es.toList.map (·.2))->(∀b o,b≠N->PX)->ke N=sO (zF4 r)->xa6 R (.ok (.ret res))) :
  wpAny Ņ A.in1 (Builtin.List.listExtendWith (Ġ N) gy res) (λfin l=>match fin with|.done f=>R (.ok f) l|.again r=>r.quiet=true/\Hd r R l) (λe l=>R (.error e) l) s:=by
 show Ļ (Fx (T:="set") #[o,e2,L.1] ?_);let n1:Builtin.List.listSameRef (Ġ N) gy=false:=by simp[Builtin.List.listSameRef,m]
 let n2:(qDb==qAc)=false:=Ú
 let n3:(qDb==qx0)=false:=Ú
 simp only[n1,n2,n3,Lm,Ee,if_false];show Ë (QoW e2 L e3 ft up y hz λZ d I T vs D hI O Q P str M st=>?_);let n:=D _ _ hN;let v:N<s.heap.objs.size:=NL hN;let X:N≠I:=λz=>absurd hI (qDc z)
 let U:N≠T:=by
  show Ϣ O z
  ·show ī z m
  ·show λe=>B6 z (qDc e)
 let nf:N∉[I,S,T]:=by
  show(zzh,#[X,m,U])
 let W:=Qks (prog:=prog) (w:=w) (A:=A.in1.in1) (by simp[hh]) I S T Q P vs
 let key:∀(C:Heap) (a:Nat),ItT w I S T vs 0 C->(∀b o,b≠N->ji->jj C=sO o)->C.get? N=sO (lsO #[] a)->codeAny Ņ A (.builtin "list.extend.loop" #[[Ã N,Ã I,res],[]]) R { s with heap:=C,drawn:=d }:=by
  intro C a H k2 g;refine codeAny_extend_loopS (Walks.of_in1 W).toS (by rw[M];show hz) N nf res vs.length 0 _ #[] a rfl ě H g (ItemsOf.nil _) λl p r hm B h=>?_;rw[Moved.eq_with hm]
  let ea:p=vs.toArray:=by
   refine' Array.ext_getElem?;intro j
   by_cases G:j<p.size
   ·let q:=h.2 j p[j] (NW G);rw[NW G,IA,q]
   ·rw[Im (ł G),IA,Ep (by let:=h.1;show Nd zH7 (ł G))]
  rw[ea]at B;refine hR l.heap d l.toks vs r str (λb o c e=>hm.heap b o (pQ x) (k2 b o c e)) B
  show BD x z
  ·show c z
  ·rw[ĸ z]at e;show û Cz (NQ.mpr hI)
 show Ļ (Es (Qn4 #[o,Ō D e2,L.1] ?_));refine Oh xa5 (λ_=>Nl #[FL Yaa _,key Z i st (λb o _ e=>D b o e) n]);show Ë (DC zK8);apply wpAny _ _ (updateSeq N (·.push .none)>>=λ_=>updateSeq N (·.pop)) _ _ _;show Ë (Od n rfl ?_);let g:=EJ (Obj.mapSeq (·.push Value.none)) n rfl;refine Od (hz:=by seq_fits) g rfl ?_;let Y:=EJ (Obj.mapSeq (·.pop)) g rfl;let u:∀b o,b≠N->jj Z=sO o->((Z.update N (Obj.mapSeq (·.push Value.none))).update N (Obj.mapSeq (·.pop))).get? b=sO o:=λb o c e=>(EM _ _ (EO c)).trans (qKf c);show BU #[FL Yaa _,key _ _ (W.frame 0 _ _ st λb c o e=>u b o (λz=>nf (cb z c)) e) (λb o c e=>u b o c (D b o e)) Y]
def Qed(x:ϸ)(m:xf)(p:o.ExactSet)(y:C6)(ft:Ht)(up:Hc->cu)(j:zRb)(hz:zEc)
  (h:∀h' d tk (vs:È),vs.Perm (es.toList.map (·.2))->jE5):ù qff:=by
 show(Ļ (wpAny_runValue (Dm entry_proto_collect' (show Ů (do again (.builtin "list.__iadd__" #[[<-newList [],Ã S],[]])) from ?_))),Ļ (Lp (Ba #[jU1,Dm (entry_list_iadd') ?_])));let l:=NL m;rw[Dq F.plain_list_iadd _]
 let fin:∀(r:Result) (c:Shared),(jMb/\∃h' d tk,∃vs:È,∃g,vs.Perm (es.toList.map (·.2))/\jD6)->(match r with
   | .ok (.ret v)=>wpAny Ņ A (match v with
    |Ã a=>do
     match (<-load a).data with
     |.seq n _=>pure n.toList
     |_=>qcd
    |_=>qcd) Q E c
   |.ok _=>False
   |.error e=>E e c):=by
  rintro r c ⟨rfl,h',d,tk,vs,g,str,k,hN,rfl⟩
  show Ë (wpAny_load hN ?_);apply wpAny _ _ (pure vs.toArray.toList) Q E _;rw[FO];show ϩ (h h' d tk vs str k (NF (NL hN)))
 refine N7 (Qij (A:=A) (s:={ s with heap:=s.heap.push (lsO #[] 0) }) (R:=λr c=>jMb/\∃h' d tk,∃vs:È,∃g,vs.Perm (es.toList.map (·.2))/\jD6) x (Nt _ m) p y ft up j (EF l) yB 0 qU5 hz λh' d tk vs g str k hN=>#[rfl,h',d,tk,vs,g,str,λb o e=>k b o qve kC,hN,rfl]) ?_ ?_
 ·intro f c q;cases f with
  |done f=>show fin _ _ q
  |again g=>show#[q.1,Fv q.2 λr i u=>fin r i u]
 ·intro e c q;show fin _ _ q
#print"-"
def Qa9:∀(ks a:Á),ks.Nodup->(∀k∈ks,k∈a)->a.length=ks.length->BV a:=by
 intro ks
 induction ks with
 |nil=>
  intro a _ _ h;rw[lx]
 |cons k r f=>
  intro a b c h;let e:=c k Nw;rw[EV]at b;refine(List.perm_cons_erase e).trans (List.Perm.cons k (f (a.erase k) b.2 (qa x d) ?_))
  ·show jya b d c x
  ·rw[LU e,h];rfl
section
variable{prog:Program}{w:World}{A:Around}{E:Õ}{s:Shared}
def QhT{h:Heap}{a:Addr}{led:Bool}{es:Hz}(h1:ElemsOf jSb es.toList)(n:ks.Nodup)(m:es.size=ks.length)(l:∀k,k∈ks↔∃e∈es.toList,zti)(p:vs.Perm (es.toList.map (·.2))):∃j,qU6/\BV j:=by
 let b:∀v∈vs,∃x c,zQ8:=λv b=>by
  show jk e g (CQ b);let#[#[k,f,_],_]:=h1 e g;let#[c,i]:=IR f;show#[k,c,i]
 refine#[vs.map strOf,strsAre_map vs b,Qa9 ks _ n (qa k f) ?_]
 ·let#[e,g,d]:=(l k).mp f;let#[c,i]:=IR d;show NJ.mpr #[e.2,p.mem_iff.mpr (kP (pK e g)),kz i]
 ·rw[ND,p.length_eq,ND,NC,m]
def Qgg{t:SetTable}(ft:qOg)(b:n<=1):cu:=λi j c a=>by
 rw[Qag ft]at a;omega
def Qf3(n:ϸ)(hS:jZ1)(hz:ks.length<=sizeLine)
  (h:∀h' d tk vs,(∃j,qU6/\BV j)->jE5):ù qff:=by
 let#[o,v,x,t,r,m,q,i,u,ft,e,f,g,l,c]:=hS;refine Qed n r m q ft (pQ z) e (by rw[l];show hz) λh' d tk vs p=>h h' d tk vs (QhT (h:=s.heap) (a:=S) (led:=true) i g l c p)
 show υ z
 ·show Ϣ f y
  ·show Qgg ft (NF (qN (Ny y)))
  ·show ä z y
 ·show Qgg ft z
def sortedS'(v:ϸ)(hS:jZ1)(hz:ks.length<64)
  (h:∀(D:Addr) h' d tk (vs:È) (i:Á) c,StrsAre vs i->BV i->lZ i=true->zr->qt2->ke D=sO (zF4 c)->xa6 Q AE) :
  ù (call zx8 [Ã S]):=by
 refine jK8;refine Nc (m:=qic) (Ba (yt (Qf3 (Μ v) hS (by rw[Fj];show NF (Ea hz à)) λn d tk vs str r l=>?_)));let#[i,st,pm]:=str;let g:vs.length<64:=by rw[OI st,pm.length_eq];show hz
 show Ë (Lp ?_ (by rw[Fj];show NF (nB g)));let a:(n.push uP).get? n.objs.size=sO uP:=ų;show Ļ (Es (EH slot_list_sort zhi entry_list_sort (list_sort_treeK (κ:=PyProof.Rows.strKind) strKind_oneLt a st.keysOf (λq p rest e=>keyKind_strs (by rw[<-e];show st)) g λf G C=>Mc) qre));let#[j,B,z,y]:=sorted_out_str st G C;let#[c,x]:=sortedHeap_at (out:=(arrOf f).map (·.2)) a;show BU #[_,rfl,h n.objs.size _ d tk ((arrOf f).map (·.2)).toList j c B (z.trans pm) y (Ϗ b o e) l ?_]
 ·let t:=Nt uP qY0;rw[sortedHeap_old (NS (NL qY0)) (NL t)];show t
 ·rw[Array.toArray_toList];show x
#print"-"
def le_of_lt{a b:Str}:qHc b a=false↔a.cps.toList<=b.cps.toList:=by
 rw[ltCps_eq,decide_eq_false_iff_not];show DW
def XO:∀(x:Str) (r:Á),risingS x r=true->∀z∈r,x.cps.toList<=z.cps.toList
 |x,[],_,z,hz=>by cases hz
 |x,y::r,h,z,hz=>by
  show jIg h';rw[N0,Fo]at h';let a:=le_of_lt.mp h'.1
  rcases NI.mp hz with rfl|hz
  ·show a
  ·show List.le_trans a (XO y r h'.2 z hz)
def K6(h:sortedS CA=true):lZ r=true:=by
 cases r with
 |nil=>rfl
 |cons y r=>
  show jIg a;rw[N0]at a;show a.2
def str_eq{a b:Str}(h:qid):a=b:=by
 show jU2
def JT:∀(a b:Á),a.Perm b->RF->lZ b=true->a=b
 |[],b,p,_,_=>qie
 |x::r,[],p,_,_=>qfg
 | x::r,y::t,p,d,c=>by
  let e:x=y:=by
   show jnf g f
   ·show BD f q
    ·show q
    ·show str_eq (YaE (XO x r d y z) (XO y t c x q))
  subst e;rw[JT r t (Yan p) (K6 d) (K6 c)]
open Classical in
abbrev srt(ks:Á):Á:=if h:ju3 then h.choose else[]
def srt_eq(p:BV a)(h:RF):srt ks=a:=by
 let b:ju3:=ź a p h
 unfold srt;rw[z6 b];show JT _ _ qah qHd h
#print"-St"
namespace Mi
open L2
set_option backward.eqns.deepRecursiveSplit false in
abbrev txW:jti
 |[]=>sO []
 |Æ x::r=>(txW r).map (x::·)
 |_=>nO
@[simp]def Qh4(l:Á):txW zia=sO l:=by
 induction l with
 |nil=>rfl
 |cons x l a=>rw[NH,txW,a];rfl
def QlS{ws:À W}{a:Á}(e:txW ws=sO a):ws=a.map .str:=by
 induction ws generalizing a with
 |nil=>cases e;rfl
 | cons w r b=>
  cases w with
  |str x=>
   show Cq t c e;rw[b c];rfl
  |_=>cases e
def QlN{K:Nf}:∀{a:Á} {xs:À V} {us:È},kA (k4 a)->ϟ->qU7:=by
 intro a
 induction a with
 |nil=>
  intro xs us r v;rw[ET,Rws.nil_iff]at r;show(ym r v,.nil)
 | cons x a e=>
  intro xs us r v;rw[NH]at r;unfold Rws at r;show(CY y f b d r,ż b);subst b;cases v with
  |cons h t=>
   show(Ψ c h,.cons x c (e d t))
def Qdb{K:Nf}{a:Á}{us:È}(h:qU7):lX qHe/\q8 (a.map W.str) qHe:=by
 induction h with
 |nil=>show#[.nil,by unfold Rws;rfl]
 |cons x c h b=>
  refine#[.cons (yS c) b.1,?_];rw[NH,NH];unfold Rws;show#[_,_,rfl,by unfold Rw;rfl,b.2]
abbrev Qrv(ws:À W)(h:MH):Ü:=match ws with
 |[a]=>(lsW h a).bind λc=>(txW c).bind λb=>if b.length<64 then sO (Î ((St.srt b).map .str),h)else nO
 |_=>nO
abbrev ZX(ws:À W)(h:MH):Ü:=match ws with
 |[a]=>(lsW h a).bind λc=>(txW c).bind λb=>if qOh/\qpi then jAe else nO
 |_=>nO
section
variable{X:Cx}
def Inv.drew(I:Ĝ a)(d:Drawn):Inv X a σ H { s with drawn:=d }:=#[I.ok,I.os,I.bare,I.base,I.loc,I.cell,I.free,I.freeC,I.pin,I.hok,I.len]
def Qkl{X:Cx}{e:Expr}{me:ME}{wf:Ū}{f g:Str}{j r:Value}{S E m d:Pos}(hf:(∃T,j=.type T)\/∃T,j=.builtin T)(hg:Gl X f)(Z:X.mg f=nO)(hb:bootBuiltins f=sO j)(B:Gl X g)(y:X.mg g=nO)(C:bootBuiltins g=sO r)(Y:∃T,r=.type T)(he:zU1)(n:μ)
  (o:f≠"__name__"/\(f==nL)=false/\g≠"__name__"/\(g==nL)=false)
  (k:∀(c:Ö) (s:Shared) (σ:L2.St) (H:Hp) (Q:VK) (R:Rn) (h h':MH) (a w:W) (v:V) (u:Value),L2.Inv X c σ H s->ô v->ζ->ť a v->wf [a] h=ā w h'->After X.K R w h' Q ->
   ĕ (call r [u]) (wt v s1 (call j [v]) (EP X c σ Q)) s) :
  ì (.Call (pR f S) [jWd] [] m) (mFn wf qU8):=by
 intro c s σ H Q I q;let#[R,p,h,w,h',P,st,e1,U]:=q;show(oP h2 e2 e3 e1,ϔ a D e4 e5 e2);let#[#[bs,h3],e6,e7]:=Ĺ e5;show(B7 e6 e7,Ψ T Y)
 let W:∀{pos:Pos} {b:Expr} {Q:Õ} {s:Shared},ĕ (spliced jPe) (wt M l (call j M) Q) s->ZN b=false->ĕ (callWith pos j [] jPe []) Q s:=λh n=>by
  rcases hf with⟨T,rfl⟩|⟨T,rfl⟩
  ·show Eo h zZ0 zU2
  ·show IF h zZ0 zU2
 refine E9 (XE I hg Z hb (W ?_ rfl) o.1 o.2.1);rw[QS (e:=jWd) rfl];refine Ld (E9 (XE I B y C (Eo ?_ zZ0 zU2) o.2.2.1 o.2.2.2));rw[QS n];refine Ld (Č (he c s σ H (λv H2=>∃R2,Ϩ R2/\Rh X.K R2 D H2/\Rw X.K R2 a v) I #[R,p,h,a,D,P,st,e4,λR2 H2 v x i t=>#[R2,x,i,t]]) u s1 q);let#[v,H1,I1,O,R2,L,i,t]:=q;refine Lx ?_;show N7 (k c s1 σ H1 Q R2 D h' a w v u I1 O i t e3 λR3 H3 N G=>U R3 H3 N (Ć L G)) (λv s2 z=>Lx z) (jq z)
def Wq{p1 p2 j i:Pos}(I:ţ)(hg:Gl X "sorted")(hm:X.mg "sorted"=nO)(y:Gl X "set")(r:X.mg "set"=nO)(he:zU1)(hs:μ:=by rfl) :
  ì (.Call (.Name "sorted" p1) [.Call (.Name "set" p2) [e] [] i] [] j) (mFn ZX qU8):=by
 refine Qkl (õ Ħ) hg hm Yaq y r boot_set Ħ he hs à λE B σ H1 Q R2 h1 h' a w v u I1 U h Y e3 G=>?_;let#[ys,e8,e9]:=Ĺ e3;show ļ P z g e9;split at g
 ·show Β H g;let#[ad,xs,rfl,Z,C]:=h.lsAt Y e8;cases U;rw[QlS z]at C;let#[aa,S,pl,hl]:=I1.list Z;let hS:=QlN C S;let t:=OI hS;refine St.set_list qJ3 pl.isList (by rw[FO];show hS) (by rw[Nz,t];apply P.length+1<4096;lia) (Ę g1 n f k1);refine St.sortedS' (s:={ B with heap:=g1,toks:=n }) qJ3 f H.2 λD g2 d m O A c M L b3 k2 x hD=>?_;let#[v1,v2]:=Qdb (K:=X.K) (R:=R2) M;let l:B.heap.objs.size<=D:=Nd (NF f.lt) x;let hp:=zg5 I1 l;let eq:=St.srt_eq L b3;let#[R3,N,q,p]:=h.new (mo:=Î (k4 A)) (o:=Î (A.map V.str)) hp (ş R' x' #[_,rfl,(Qdb (K:=X.K) (R:=R') M).2])
  rw[eq]at G;refine#[Ã D,_,Inv.drew (I1.laid (t':=m) (λb o e=>k2 b o (k1 b o Cz e)) l (nc tK  #[?_,O,c,v1,hD])) d,rfl,G R3 _ _ N q p];rw[ND,L.length_eq,Fj];show NF (Ea H.2 à)
 ·cases g
#print"-"
abbrev VZ(ws:À W):À W:=ws.zipIdx.map λq=>Ì [Ct,q.1]
#print"-Mi"
namespace Dc
section
variable{prog:Program}{w:World}{A:Around}{E:Õ}{s:Shared}
def QjQ:typeLookup t6 zAg=zda:=by rw[Og,Iz];kernel_rfl
set_option maxHeartbeats 4000000 in
def keys_miss(i:gY=sO { cls:=Ι,dict:=nO,data:=.seq xs k,slots:=l })(n:ϸ)
  (h:∀h' tk,zr->Q nO { s with heap:=h',toks:=tk }):ù (getAttr? ĭ zAg):=by
 let#[m,g,d,tk,os]:=s;let j:∀c,(#[m,g,d,c,os]:Shared).TypeIs ĭ "list":=λ_=>ϴ i
 let f1:=sub_AttributeError;let v:=FY.lookup;let u:=FY.bind ĭ;let t:=am_list_getattr_none
 repeat (any_goals (first|assumption|show j _|((with_reducible apply By (call (Value.builtin "list.__getattribute__") _ _));refine Fg FY (j _) am_entry_list_getattribute (F.args_list_getattribute_2 _ _) (meets_getattribute_miss_list a xs k l zAg _ QjQ jN) #[i,n,Ę h' c e f])|wp_step))
 let#[q,p,r]:=f.there;apply By (getattributeRaised _ _ _ _ _ _ _)
 show ic
 show h _ _ f.keeps
#print"-"
def e_upd:entryFor table "dict.update.loop"=sO Builtin.«dict.update.loop»:=jqi
def p_upd:plainId "dict.update.loop"=true:=by decide +kernel
#print"-Dc"
namespace Mi
open L2
abbrev QkM(a ps:č W):č W:=ps.foldl (λb p=>QnM b p.1 p.2) a
def Qne{K:Nf}(X:uj)(G:Bu)(a:wE=sO (sO (.str y t))):zeh uE:=
 #[Æ y,_,p7,yS t,λ_=>Rw.str y]
#print"-Mi"
namespace L2
abbrev ItE(K:Nf)(a:Addr)(n:Nat):It:=
  #[jmc,
   λi H v c=>∃T x,v=Ã T/\H T=nO/\c=upd H T (Ŋ [Ä i,x])/\jxh,
   λi H=>n<=i/\jy9]
def QaG{K:Nf}(l e it:Addr)(n:Nat)(c:e≠it)(C:l≠e)(B:l≠it):Turn P w K (.Tuple N kk pos) (ItE K l n) [e,it] e (λi h=>i<=n/\(∃old,IsEnum h e it i old)/\h.IsListIter it l i) where
 mem:=Ê
 obj:=λi h st b d=>by
  let#[_,#[old,g],#[o1,O,c1,d1]]:=st;show jme
  show jd #[_,g,λv q=>BK q] #[o1,O,λv q=>by show ä d1 q]
 keep:=λi h h' st k=>by
  let#[m,#[old,g],h1]:=st;show#[m,#[old,zNd e g],h1.at λo x=>qz2 x]
 item:=by
  intro X M hw hK hc i z s σ H E I hf st hg;show jja;let#[_,S,U]:=st;let W:=jD5;refine W.item i s _ _ (by rw[Nz];show Ng qrf (Ny hl)) qAd λT vals h' tk M hT G f hk=>?_;let#[t,u,hu,rfl]:=M;refine#[Ã T,rfl,W.go N kk pos i T _ _ _ f λai L D=>?_];obtain⟨x,hx⟩:∃x,Q[i]?=sO x:=#[Q[i]' qrf,Nj _]
  let#[v,hv,r]:=Y.get hx;let O:v=u:=by let:=hu;rw[IA,hv]at this;show NY this
  subst O;let ae:=W.apart i T _ f
  let af:IsTup ai T #[zbd,v,]:=by
   let#[o,ho,ab,q]:=G;show#[o,D T o ae ho,ab,q]
  let ah:=I.hok.fresh hT;refine#[Ã T,_,I.turnedN (ch:=[e,it]) (t':=tk) (xs:=[Ä i,x]) (λb o d e=>D b o d (hk b o d e)) hf hT #[by simp[Fj],[zbd,v],Ē gC (Mb r),af],rfl,#[T,x,rfl,ah,rfl,λys hy=>by rw[I.list_inj hy Z];show hx],#[m,L.1,L.2.1],Ò b d];rw[Qp (pQ q)]
  ·show(hf b d).1
  ·obtain⟨o,ho,_⟩:∃o,ji/\True:=by
    let#[old,g]:=S;let#[o1,O,_]:=U;show jme
    show jd #[_,g,trivial] #[o1,O,trivial]
   rw[q]at ho;show û (NL ho) (NQ.mpr hT)
 done:=by
  intro X M hw hK hc i z s σ H E I hf st hg;show jja;let#[aj,S,U]:=st;let W:=jD5;let aa:a.toArray.size=i:=qO4
  refine W.done s _ _ (by rw[aa];show qAd) λh' tk hk=>zOi
  show I.turnedL (ch:=[e,it]) (λb o d e=>hk b o d e) hf (MX e) (ja7 n) λb u n e=>by show ä n e
 self:=λ_ _ _ _ _ st h=>let#[_,g]:=st.2.1;wpAny_pyIter_enum g h
abbrev QkD(K:Nf)(ta:TA):TI:=λc H R=>ta c H λd H1=>∃a b,d=uD/\qY5/\R (ItE K a b.length) H1
def Qfx{X:Cx}{i:é}(D:qDe)(B:qu2)(E:zM6)(y:xP:=by rfl) :
  PI X (.Tuple i O j) jN7 (QkD X.K ta):=by
 show Đ d n R;refine Call_ (XE I D B boot_enumerate (Eo (Č (vv E d n) L c o) y rfl));show(ı G v w o,jsd r z);let#[x,N,pl,P]:=I1.list z;let f:ad<c.heap.objs.size:=let#[_,A,_]:=pl.isList;NL A
 refine call_enumerate_list pl.isList λQ l hit _ C=>wpAny_pyIter_enum l ?_;refine#[qvg,[qvg,c.heap.objs.size],_,_,H1,rfl,I1.kept (t':=c.toks) C,QaG ad _ _ r.length (Nat.succ_ne_self _) (NS (Fl f)) (NS f),#[NN _,#[_,l],hit],Ò b m,q]
 let g:c.heap.objs.size<=b:=by
  simp at m
  rcases m with h|h<;>(rw[h];first|show Nu _|show yg)
 show I1.fpOk g (I1.hok.fresh g)
#print"-L2"
namespace Mi
open L2
abbrev J7(ms:MA):MI:=λa h=>(ms a h).bind λp=>match p.1 with
 |[Î b]=>sO (VZ b,nO,p.2)
 |_=>nO
section
variable{K:Nf}{R:Rn}
def Qbe(l:tB)(r:Κ):ItOk K R (ItE K a xs.length) (VZ ws) nO where
 go:=λi w p h H x d _ e=>by
  let c:=ú e;show(gZ,qHf,#[vQ c (Ny g),xs,zt0,rfl])
 yld:=λi w p h H x E e d _ m q=>by
  let#[T,B,rfl,t,rfl,s]:=q;unfold VZ at m;rw[NB,OX]at m;let#[#[D,j],A,rfl]:=yr m;show(uC C y u A,ν v g1 g2 r y);let n:=s xs jKf;show ä g1 n;rw[Ef];show d.tup t (Rws.cons zb4 (Rws.cons (CS e g2) Rws.nil))
 stop:=λi p h H x d _ c=>by
  show(gZ,qHf,#[BT gG c,xs,zt0,rfl])
#print"-"
section
variable{X:Cx}{tg a:Expr}{ms:MA}{p pos tpos:Pos}{elts:é}{kk:Nat}
def QdE(u:qDe)(t:qu2)(w:zKd)(s:xP:=by rfl):PMI X (.Tuple elts kk tpos) jN7 (J7 ms):=
 WS (Qfx u t w s) λz H C i=>by
  let#[R,c,h,items,n,D,r,st,e,k]:=i;show jC m x y d e #[R,c,h,m,x,r,st,y,Ϻ A l b o];split at d
  ·show gO B g;cases d;show(BF v f o,ju0 q,#[ad,j,rfl,Zf b.sub (đ xa7),BZ l b (Qbe (đ xa7) q)])
  ·cases d
#print"-"
#print"-Mi"
namespace Sb
open PySem SetTable
noncomputable abbrev Ow(o:Array Mj)(j:Nat):HI:=o.getD j nO
open L2
noncomputable abbrev Ex(h h':Heap):Prop:=∀b o,uA->zn9
def QfD(e:Ex h h')(x:ka b):h'.IsTuple a b:=by show yK o c r x #[o,Ō e c,r]
inductive Sh where
 |i
 |s
 |t (l:List Sh)
 |l (e:Sh)
abbrev Wf:Nat->Sh->Tr->Prop
 |0,_,_=>False
 |_+1,.i,k=>∃n,k=.i n
 |_+1,.s,k=>∃x,k=.s x
 |n+1,.t l,k=>∃ks,k=.t ks/\Hu
 |n+1,.l e,k=>∃ks,k=.t ks/\∀x∈ks,rB
set_option backward.eqns.deepRecursiveSplit false in
abbrev lex(lt:qU9):Ŧ->Ŧ->Bool
 |k::ks,l::ls=>if k=l then lex lt ks ls else lt k l
 |[],_::_=>true
 |_,[]=>false
set_option backward.eqns.deepRecursiveSplit false in
abbrev ltN:Nat->qU9
 |0,_,_=>false
 |_+1,.i a,.i b=>decide (a<b)
 |_+1,.s a,.s b=>decide (zGb a b)
 |n+1,.t ks,.t ls=>jLi
 |_+1,_,_=>false
def Qlz{a b:Str}(h:qid):a=b:=by
 show jU2
def QhM(i:jyc)(p:Hu)(q:Tb)(h:ks≠ls):gp\/qe8:=by
 induction p generalizing ls with
 |nil=>cases q;show y0 h
 |@cons _ k _ ks f o g=>
  show k5 e d q
  rename_i m r
  show oT
  ·subst c;show(zL1,g d Tw)
  show jm1 j i f e
def G7{e:Sh}(f:jyc):∀(ks ls:Ŧ),zld->zle->ks≠ls->gp\/qe8
 |[],[],_,_,h=>y0 h
 |[],_::_,_,_,_=>jv
 |_::_,[],_,_,_=>yU
 |k::ks,m::ms,p,q,h=>by
  show oT
  ·subst c;show(zL1,G7 f ks ms (uT d p) (uT d q) Tw)
  show jm1 g f (p k Nw) (q m Nw)
def QdP:∀(n:Nat) (sh:Sh) (a b:Tr),jG7:=by
 intro n
 induction n with
 |zero=>
  intro _ _ _ h _ _;show jB h
 | succ n m=>
  intro sh a b f d h;cases sh with
  |i=>
   show Am f d;let:x≠y:=Tw;show qu3;lia
  |s=>
   show(Am f d,qu3)
   by_cases c:x.cps.toList<y.cps.toList
   show š c
   ·right;refine E8 λo=>h ?_;rw[Qlz (YaE (List.not_lt.mp o) (List.not_lt.mp c))]
  |t l=>
   show(jse,QhM (m) p q Tw)
  |l e=>
   show(jse,G7 (m) j g p q Tw)
def UL:∀(n:Nat) (a:Tr),ltN n a a=false
 |0,_=>rfl
 |n+1,.i x=>by simp[ltN]
 |n+1,.s x=>by simp only[ltN,decide_eq_false_iff_not];show List.lt_irrefl _
 |n+1,.t ks=>by
  simp only[ltN]
  induction ks with
  |nil=>rfl
  |cons k ks b=>show(zL1,b)
def Qdx(u:jv4)(p:Hu)(q:Tb)(r:Paired zyd l ms)(h1:gp)(h2:qe9):qea:=by
 induction p generalizing ls ms with
 |nil=>cases q;show Ŭ r h1
 | @cons _ k _ ks s v t=>
  show k5 j i q
  show k5 h g r
  rename_i m ls o ms;show qOj
  show Ā e k m
  ·show jf3 e d
   ·subst d;rw[Ĳ]at h2 ⊢;show t i g h1 h2
   ·rw[Í d]at h2 ⊢;show h2
  ·show ji9 e d
   ·rw[Í d]at h2;let:=u _ k m o s j h h1 h2
    show jrh f
def Yp{e:Sh}(h:jv4):∀(ks ls ms:Ŧ),zld->zle->(∀x∈ms,rB)->gp->qe9->qea
 |ks,[],_,_,_,_,h1,_=>by cases ks<;>cases h1
 |_,_::_,[],_,_,_,_,h2=>jy h2
 |[],_::_,_::_,_,_,_,_,_=>rfl
 | k::ks,m::ls,o::ms,p,q,r,h1,h2=>by
  let s:=p k Nw;let l:=q m Nw;let j:=r o Nw;show qOj
  show Ā g k m
  ·show jf3 g f
   ·subst f;rw[Ĳ]at h2 ⊢;show Yp h ks ls ms (uT d p) (uT d q) (uT d r) h1 h2
   ·rw[Í f]at h2 ⊢;show h2
  ·show ji9 g f
   ·rw[Í f]at h2;let:=h _ k m o s l j h1 h2
    show jrh i
def WU:∀(n:Nat) (sh:Sh) (a b c:Tr),jE9:=by
 intro n
 induction n with
 |zero=>
  intro _ _ _ _ h _ _ _ _;show jB h
 | succ n w=>
  intro sh a b c g f d m j;cases sh with
  |i=>
   show(jba,Int.lt_trans m j)
  |s=>
   show(jba,List.lt_trans m j)
  |t l=>
   show(jf4,Qdx (w) p q r m j)
  |l e=>
   show(jf4,Yp (w) v u o p q r m j)
def JT:∀(a b:Ŧ),(∀t∈a,zU3)->a.Perm b->(a.Pairwise zu1)->(b.Pairwise zu1)->a=b
 |[],b,_,p,_,_=>qie
 |x::r,[],_,p,_,_=>qfg
 | x::r,y::t,w,p,d,c=>by
  rw[List.pairwise_cons]at d c
  let f:x=y:=by
   show jnf e h
   ·show BD h q
    ·show q
    ·refine E8 λne=>?_
     rcases QdP 8 sh x y (w x Nw) (w y e) ne with u|u
     ·rw[c.1 x q]at u;cases u
     ·rw[d.1 y z]at u;cases u
  subst f;rw[JT r t (λt g=>w t (Φ g)) (Yan p) d.2 c.2]
open Classical in
abbrev srtT(ks:Ŧ):Ŧ:=if h:jla then h.choose else[]
def Qi9(w:∀t∈ks,zU3)(p:BV a)(h:jyd):srtT ks=a:=by
 let b:jla:=ź a p h
 unfold srtT;rw[z6 b];show JT (sh:=sh) _ _ (λt c=>w t (b.choose_spec.1.mem_iff.mp c)) qah qHd h
abbrev rk(a:Ŧ)(t:Tr):Nat:=a.countP λu=>ltN 8 u t
def QeA{l:À g}(h1:∀x∈l,p x=true->q x=true)(h:∃x∈l,q x=true/\p x=false):l.countP p<l.countP q:=by
 show ŧ x d f e h;let#[a,b,rfl]:=List.append_of_mem d;let i:=IB (l:=a) λy c=>h1 y (NT _ c);let j:=IB (l:=b) λy c=>h1 y (qc (Φ c));simp only[Dk,Iu,f,e];simp;omega
def rk_lt(w:∀t∈d,zU3)(f:a∈d)(g:b∈d):(rk d a<rk d b)↔ltN 8 a b=true:=by
 constructor
 ·intro h;cases c:ltN 8 a b with
  |true=>rfl
  | false=>
   exfalso
   let:rk d b<=rk d a:=by
    refine IB λu hu z=>?_
    show Ā e a b
    ·show ī e z
    ·rcases QdP 8 sh a b (w a f) (w b g) e with y|y
     ·show ä c y
     ·show WU 8 sh u b a (w u hu) (w b g) (w a f) z y
   show Nat.not_lt_of_le this h
 ·intro h;show QeA (λu hu z=>WU 8 sh u a b (w u hu) (w a f) (w b g) z h) #[a,f,h,UL 8 a]
open PySem.W SeqAt
abbrev LtAt(A:Around)(s:Shared)(p q:Value)(b:Bool):Prop:=∀(a:Program) (w:World) (E:Õ) (Q:Õ),Q (um b) s->ξ (model a w) (richCompare .Lt p q) s
inductive LexAt(A:Around)(s:Shared)(fin:Bool):Tc->Bool->Prop where
 |nil:LexAt A s fin [] fin
 |same {p q:Value} {r:Tc} {b:Bool}:EqAt A s p q true->LexAt A s fin r b->jZ3
 |diff {p q:Value} {r:Tc} {b:Bool}:EqAt A s p q false->LtAt A s p q b->jZ3
def QaY(l b:Addr)(items a:ľ)(n z:Nat)(dd r:ϝ)(v i:Ho)(c:Bool) :
  Meets (Builtin.«tuple.__lt__» jq2)
   (λA R s=>gh=sO { cls:=yH,dict:=dd,data:=zMe,slots:=v }/\gX=sO { cls:=yH,dict:=r,data:=.seq a z,slots:=i } /\
    jFh/\R (.ok (.ret (um c))) s):=
 .of_wp λe w A R s h=>by
  show bN u t;let#[B,D,C,h]:=h;let f2:=LR
  wp_walk using FQ B,FQ D,wpAny_forIn_list _ (λrest b j=>b.1=nO/\j=qDd/\LexAt A.in1 qDd (ό jWe) rest c) _
  case turn=>
   rintro⟨y,x⟩ rest b j ⟨f,o,m⟩
   subst o;cases m with
   |same q p=>
    show Ë qDf
    wp_walk
    show#[rfl,rfl,p]
   |diff q p=>
    show(Ë qDf,Ë (DC (Nc (p e w _ _ ?_))))
    wp_walk
    show qXd
  case fin=>
   rintro⟨G,E⟩ j ⟨f,rfl,m⟩
   show wV f;cases m
   wp_walk
   show#[_,rfl,by simpa[Builtin.Tuple.tupleCompareSizes]using h]
  case h=>
   show#[rfl,rfl,C]
section
variable{A:Around}{s:Shared}
def LtAt.tuples(t:s.heap.IsTuple l items)(v:s.heap.IsTuple b a)(hu:vo)
  (u:jFh):LtAt A s gx SD c:=λj w E Q h=>by
 show zC4 q m o t;let#[#[p,i,data2,g],d,f,r,e]:=id v;show zJh o f e
 show richCompare_meets_room (op:=.Lt) (ϴ m) zhj F.slot_tuple_lt F.entry_tuple_lt (F.args_tuple_lt_2 _ _) (QaY l b items a n r dd i q g c)
  #[m,d,u,show Value.bool c≠Value.notImplemented/\Q (um c) s from#[(λx=>BK x),h]] hu
abbrev IsQ(h:Heap):jdd
 |0,_,_=>False
 |_+1,.i k,v=>∃t,v=.int k t
 |_+1,.s x,v=>qFg
 |n+1,.t ks,v=>∃a b,ϒ/\ka b/\Paired zRc ks b.toList
def Yk{n:Nat}(k:Tr)(v:Value)(x:xa8):L2.IsT h n k v:=by
 induction n generalizing k v with
 |zero=>show jB x
 | succ n c=>
  cases k with
  |i k=>show Ø x
  |s y=>show x
  |t d=>
   show(ň a b e p q x,#[a,b,e,p,XW c q])
def Kw(e:Ex h h'):∀{n:Nat} (k:Tr) (v:Value),xa8->IsQ h' n k v
 |0,_,_,x=>x.elim
 |n+1,.i k,v,x=>x
 |n+1,.s k,v,x=>x
 |n+1,.t ks,v,#[a,b,q,p,r]=>#[a,b,q,QfD e p,XW (λk v=>Kw e k v) r]
def Qlh(A:Around)(hu:qI)(o:zr6)
  (p:Hu) (q:Tb) (r:zvf) (t:zvg):LexAt A s false zMf zzj:=by
 induction p generalizing ls us vs with
 |nil=>show B7 q r;cases t;show .nil
 |@cons _ k _ ks i w j=>
  show jd9 h b d;let e:=Ql7 n A hu k m u v (uk b) (uk a);rw[FZ];show ji1 (j g f d)
  ·rw[Í c];rw[yF c]at e;show .diff e (o _ k m u v i h b a)
def Qdw{e:Sh}(A:Around)(hu:qI)(d:zr6):∀(ks ls:Ŧ) (us vs:È),zld->zle->zvf->zvg->LexAt A s (ό qm2) zMf zzj
 |[],[],_,_,_,_,.nil,.nil=>.nil
 |[],_::_,_,_,_,_,.nil,.cons _ _=>.nil
 |_::_,[],_,_,_,_,.cons _ _,.nil=>.nil
 |k::ks,m::ms,u::us,v::vs,p,q,Ē b f,Ē s1 s2=>by
  let e:=Ql7 n A hu k m u v (uk b) (uk s1);let g:decide ((u::us).length<(v::vs).length)=decide qm2:=Ê
  rw[FZ,g];show ji1 (Qdw A hu d ks ms us vs (uT a p) (uT a q) f s2)
  ·rw[Í c];rw[yF c]at e;show .diff e (d _ k m u v (p k Nw) (q m Nw) b s1)
def QgG{us vs:ľ}(p:Hu)(q:Tb)(r:Paired zRc ks us.toList)(t:Paired zRc ls vs.toList):us.size=vs.size:=by
 show(Pc f p e q,Pc d r c t);let b:us.toList.length=us.size:=NC ..;let a:vs.toList.length=vs.size:=NC ..;lia
def Qpe:∀(n:Nat) (A:Around),qI->zr6:=by
 intro n
 induction n with
 |zero=>
  intro _ _ _ _ _ _ _ h _ _ _;show jB h
 | succ n H=>
  intro A hu sh x y u v m j r o;cases sh with
  |i=>
   show(Am m j,Ϯ r I o,jwe);refine PyProof.Rows.lt_int ?_;show tj
  |s=>
   show(Am m j,Ϯ r I o,jwe);refine PyProof.Rows.lt_str ?_;show tj
  |t l=>
   show jf5;rw[QgG p q g f];simp only[N2,decide_false,ltN];show Qlh A.in1 wb jKd p q g f
  |l e=>
   show jf5;let:=Qdw A.in1 wb jKd G D _ _ p q g f;rw[NC,NC]at this;simpa only[ltN]using this
#print"-"
#print"-Sb"
namespace Ts
open PySem.W
set_option autoImplicit false
abbrev Z2:Bool->Keyed->Å->Nat->Nat->Nat->Ė Mj:=sortPriv% PySem.Builtin.gallop
section
variable{prog:Program}{w:World}{A:Around}{E:Õ}{s:Shared}
abbrev T(prog:Program)(w:World)(A:Around)(E:Õ)(s:Shared){c:Type}(m:Ė c)(P:c->Ň)(st:SortSt):Prop:=
 ∀d,kasC Ņ A E m (λa b e=>(∃t,e={ s with toks:=t })/\P a b) st { s with toks:=d }
def Qh{b:Type}{a:b}{P:b->Ň}{st:SortSt}(h:P a st):ò (pure a) P:=λc=>kasC_pure #[yS c,h]
def Qf{d c:Type}{m:Ė d}{g:d->Ė c}{P:c->Ň}{st:SortSt}
  (h:ò m (λa b=>T prog w A E s (g a) P b)):ò (m>>=g) P:=λf=>by
 refine kasC_bind (N7 (h f) (Ϗ r l j) xx);let#[#[t,rfl],i]:=j;show i t
def QY{c:Type}{m:Ė c}{P f:c->Ň}{st:SortSt}(h:ò m P)(i:∀a b,P a b->f a b):ò m f:=
 λg=>N7 (h g) (λ_ _ d=>#[d.1,i _ _ d.2]) xx
def Yh{P:SortSt->Ň}{st:SortSt}(h:P st st):T prog w A E s get P st:=λa=>kasC_get zma
def ZU{g:SortSt->SortSt}{P:PUnit->Ň}{st:SortSt}(h:P ⟨⟩ (g st)):ò (modify g) P:=λa=>kasC_modify zma
def QoF{a:SortSt}{P:PUnit->Ň}{st:SortSt}(h:P ⟨⟩ a):ò (set a) P:=λb=>by
 unfold kasC;rw[StateT.run_set];show ϩ #[yS b,h]
def YD{x:String}{P:zpg}{st:SortSt}(h:P () st):T prog w A E s (liftM (rule x):StateT SortSt Sem Unit) P st:=λa=>kasC_lift (DC zma)
def Ql2{e:Type}(g:Nat->e->Ė (ForInStep e))(I:ĉ->e->Ň)(Q:e->Ň)
  (c:∀x rest b st,I (x::rest) b st->ò (g x b) (λr a=>match r with|.done d=>Q d a|.yield d=>I rest d a))
  (f:∀b st,I [] b st->Q b st):∀(l:ĉ) (b:e) (st:SortSt),I l b st->ò (forIn l b g) Q:=by
 intro l
 induction l with
 |nil=>
  intro b st h;rw[List.forIn_nil];show Ţ (f _ _ h)
 |cons x rest j=>
  intro b st h;rw[IC];show ç (QY (c x rest b st h) (Ï r a i));cases r with
  |done d=>show Qh i
  |yield d=>show j d a i
def VX{o:Type}{a b:Nat}{g:Nat->o->Ė (ForInStep o)}(I:Nat->o->Ň){Q:o->Ň}
  (f:∀i c st,a<=i->i<b->I i c st->ò (g i c) (λr e=>match r with|.done t=>Q t e|.yield t=>I (i+1) t e))
  (q:∀c st,I qDg c st->Q c st) {c:o} {st:SortSt} (h:I a c st):ò (forIn [a:b] c g) Q:=by
 rw[Yab];let u:qd9=b-a:=by simp[Std.Legacy.Range.size]
 apply ò (forIn (List.range' a qd9 1) c g) Q;rw[u];refine Ql2 g (λl c st=>∃i,a<=i/\i<=BX/\l=List.range' i (BX-i) 1/\I i c st) Q ?_ ?_ _ c st #[a,Nu _,by show Oc _ _,qDh,h]
 ·rintro x rest c st ⟨i,m,p,j,z⟩
  let y:i<BX:=by
   show qkb
   ·show d
   ·rw[show BX-i=0 by lia]at j;simp at j
  obtain⟨n,v⟩:∃n,BX-i=n+1:=#[BX-i-1,Ñ]
  rw[v,LQ]at j;let#[rfl,rfl]:=YaR j;refine QY (f x c st m Â z) (Ï r e d);cases r with
  |done t=>show d
  |yield t=>show#[x+1,BT m ŗ,Pe y,qh0,d]
 ·rintro c st ⟨i,m,p,j,z⟩
  let:i=BX:=by
   show qkb
   ·obtain⟨n,v⟩:∃n,BX-i=n+1:=#[BX-i-1,Ô]
    rw[v,LQ]at j;simp at j
   ·show Er p d
  subst this;show Ō q z
abbrev Cmp(prog:Program)(w:World)(A:Around)(s:Shared)(κ:SortKind)(M:θ)(f:è):Prop:=
 ∀x y,M x->M y->∀(a:Nat) (C:Sm),(∀t,C (ό zK0) { s with toks:=t })->wpAny Ņ A (keyLt' κ x.1 y.1) C jO { s with toks:=a }
variable{κ:SortKind}{M:θ}{f:è}
def QmL{x y:Keyed}{P:d7}{st:SortSt}(g:ĥ)(e:ř)(d:M x)(c:M y)(h:P (sO (ό zK0)) st):ò (lt' x y) P:=by
 rw[lt'_eq];show ç kW;refine Qf (m:=liftM (keyLt' qP0 x.1 y.1).attempt) λa=>kasC_lift (Ip ?_);rw[e];refine N7 (g x y d c a _ λt=>(?_:(∃b,({ s with toks:=t }:Shared)={ s with toks:=b })/\_)) zp5 (zsg h);show#[yS t,Qh h]
def Zi{xs:Å}{i:Nat}{P:Keyed->Ň}{st:SortSt}(hi:Mq)(h:P xs[i] st):ò (elem' xs i) P:=by
 rw[elem'_eq,getElem?_pos xs i hi];show Qh h
#print"-"
def Qa7(left:Bool)(key:Keyed)(arr:Array Keyed)(base n hint:Nat):Z2 left key arr base n hint=(do
 let b (i:Nat):StateT SortSt Sem (Option Bool):=do
  let x <-elem' arr (base+i)
  if left then zoc else return(<-zod).map (!·)
 let mut lastofs:=0
 let mut ofs:=1
 let mut lo:=0
 let mut hi:=0
 let sO right <-b hint|return nO
 if right then
  let a:=n-hint
  for _ in [0:n] do
   if ofs >= a then break
   let sO more <-b (hint+ofs)|return nO
   if !more then break
   lastofs:=ofs
   ofs:=2*ofs+1
  lo:=hint+lastofs+1
  hi:=hint+min ofs a
 else
  let a:=d8
  for _ in [0:n] do
   if ofs >= a then break
   let sO found <-b (hint-ofs)|return nO
   if found then break
   lastofs:=ofs
   ofs:=2*ofs+1
  lo:=d8-min ofs a
  hi:=hint-lastofs
 for _ in [0:n] do
  if lo >= hi then break
  let m:=jri
  let sO more <-b m|return nO
  if more then lo:=m+1 else hi:=m
 return sO hi):=rfl
set_option autoImplicit false
section
variable{prog:Program}{w:World}{A:Around}{E:Õ}{s:Shared}{κ:SortKind}{M:θ}{f:è}
abbrev bey(f:è)(left:Bool)(key x:Keyed):Bool:=if left=true then decide (f x<f key)else !decide (f key<f x)
def Qd3{left:Bool}{key:Keyed}{arr:Å}{i:Nat}{P:d7}{st:SortSt}(d:ĥ)(c:ř)(a:M key)(hi:zRd)(b:M zf7)(h:P (sO (bey f left key zf7)) st) :
  T prog w A E s (do
   let x <-elem' arr i
   if left then zoc else return(<-zod).map (!·)) P st:=by
 show ç (Zi hi ?_);cases left with
 |true=>show QmL d c b a h
 |false=>show Qf (QmL d c a b (Qh h))
abbrev Qqa(left:Bool)(key:Keyed)(arr:Å)(base n lo hi:Nat):Ė Mj:=do
 let mut lo:=lo
 let mut hi:=hi
 for _ in [0:n] do
  if lo >= hi then break
  let m:=jri
  let sO more <-(do
   let x <-elem' arr (base+m)
   if left then zoc else return(<-zod).map (!·))|return nO
  if more then lo:=m+1 else hi:=m
 return sO hi
def Qlf{left:Bool}{key:Keyed}{arr:Å}{base n lo hi:Nat}{P:SL}{st:SortSt}(B:ĥ)(z:ř)(o:M key)
  (G:qDi) (y:qeb) (mono:∀i j (hi:qv) (H:zHd),jk4)
  (q:lo<=hi) (t:hi<=n) (bl:∀i (h:qv),i<lo->zoe) (D:∀i (h:qv),hi<=i->i<n->znd)
  (h:jC5) :
  ò (Qqa left key arr base n lo hi) P:=by
 unfold Qqa
 refine Qf (QY (VX (I:=λx c a=>a=st/\∃l r,mm/\l<=r/\r<=n/\r-l<=n-x/\jh1)
  (Q:=λc a=>a=st/\∃l r,mm/\r<=n/\l=r/\jh1) ?_ ?_ #[rfl,lo,hi,rfl,q,t,Ñ,bl,D]) ?_)
 ·rintro i c a _ p ⟨rfl,l,r,rfl,v,m,C,g,d⟩
  show xa9 b
  ·rw[Ð b];show ϐ #[rfl,l,r,rfl,m,pp v b,g,d]
  ·rw[Í b];show ç (Qd3 B z o Â (y _ _) ?_);cases u:jh (l+l6)with
   |true=>
    refine Qh #[rfl,l+l6+1,r,rfl,Ñ,m,Ô,λi h hi=>mono i (l+l6) _ Â Â Â u,d]
   |false=>
    refine Qh #[rfl,l,l+l6,rfl,oz,Ñ,Ô,g,λi h hi p=>?_];cases e:jh i with
    |false=>rfl
    |true=>rw[mono (l+l6) i zB2 h hi p e]at u;show û u Ç
 ·rintro c a ⟨rfl,l,r,rfl,v,m,C,g,d⟩
  show#[rfl,l,r,rfl,m,Ñ,g,d]
 ·rintro c a ⟨rfl,l,r,rfl,m,rfl,g,d⟩
  show Ţ (h l m g d)
def VT{left:Bool}{key:Keyed}{arr:Å}{base n hint:Nat}{P:SL}{st:SortSt}(C:ĥ)(B:ř)(b:M key)
  (y:qDi) (G:hint<n) (z:qeb) (O:∀i j (hi:zRd) (v:j<arr.size),base<=i->i<=j->j<base+n->f zf7<=f arr[j])
  (h:jC5) :
  ò (Z2 left key arr base n hint) P:=by
 rw[Qa7]
 let mono:∀i j (hi:qv) (v:zHd),jk4:=by
  intro i j hi v u t;let:=O (base+i) (base+j) hi v ŗ (NR u _) (NU t _);unfold bey;cases left<;>simp<;>lia
 let r:∀i j (hi:qv) (v:zHd),i<=j->j<n->znd->jh j=false:=by
  intro i j hi v u t e;cases S:jh j with
  |false=>rfl
  |true=>rw[mono i j hi v u t S]at e;show û e Ç
 show Ax (Qd3 C B b (p5 G y) qJ8 ?_);cases N:bey f left key arr[base+hint]with
 | true=>
  show oK
  refine Qf (QY (VX (I:=λx c a=>a=st/\∃l o,mr/\l<o/\x+1<=o/\hint+l<n/\jmf)
   (Q:=λc a=>a=st/\∃l o,mr/\l<o/\hint+l<n/\jmf/\(∀(h:base+zb5<arr.size),hint+o<n->jh zb5=false)) ?_ ?_ #[rfl,0,1,rfl,xg,xg,Ô,λ_=>N]) ?_)
  ·rintro i c a _ m ⟨rfl,l,o,rfl,q,L,d,g⟩
   dsimp only
   by_cases p:o >= n-hint
   ·rw[Ð p];show ϐ #[rfl,l,o,rfl,q,d,g,λ_ h=>Ô]
   ·rw[Í p];show ç jSd;cases D:jh zb5 with
    |true=>show ϐ #[rfl,o,2*o+1,rfl,Ñ,Ñ,Ñ,λ_=>D]
    |false=>show Ţ qai
  ·rintro c a ⟨rfl,l,o,rfl,q,L,d,g⟩
   show zj9
  ·rintro c a ⟨rfl,l,o,rfl,q,d,g,H⟩
   refine Qlf (lo:=hint+l+1) (hi:=hint+min o (n-hint)) C B b y z mono É É (λi h hi=>mono i zHe h (p5 d y) Â d (g (p5 d y))) (λi h hi m=>r zb5 i Â h É m (H É Â)) h
 | false=>
  dsimp only;show qt
  refine Qf (QY (VX (I:=λx c a=>a=st/\∃l o,mr/\l<o/\x+1<=o/\l<=hint/\jm2)
   (Q:=λc a=>a=st/\∃l o,mr/\l<o/\l<=hint/\jm2/\(∀(h:base+zb6<arr.size),o<=hint->jh zb6=true)) ?_ ?_ #[rfl,0,1,rfl,xg,xg,qP1,λ_=>N]) ?_)
  ·rintro i c a _ m ⟨rfl,l,o,rfl,q,L,d,g⟩
   dsimp only
   by_cases p:o >= d8
   ·rw[Ð p];show zj7 zj9
   ·rw[Í p];show ç jSd;cases D:jh zb6 with
    |true=>show Ţ qai
    |false=>show ϐ #[rfl,o,2*o+1,rfl,Ô,Ô,Ñ,λ_=>D]
  ·rintro c a ⟨rfl,l,o,rfl,q,L,d,g⟩
   show zj9
  ·rintro c a ⟨rfl,l,o,rfl,q,d,g,H⟩
   refine Qlf (lo:=d8-min o (hint+1)) (hi:=hint-l) C B b y z mono É (NF qk0) (λi h hi=>mono i zb6 h Â É qk0 (H É É)) (λi h hi m=>r zHf i zB2 h hi m (g zB2)) h
#print"-"
set_option autoImplicit false
abbrev Kx:jwf:=sortPriv% PySem.Builtin.mergeLo
abbrev Ky:jwf:=sortPriv% PySem.Builtin.mergeHi
abbrev Wn(g:Nat)(st:SortSt):SortSt:=SortSt.mk' qP0 ϰ (pendingOf st) g (failedOf st)
def UZ(a b:Å):Kx a b=(do
 qif
 let d:=vp
 let done (out:Å) (ia ib:Nat):=out++qu4++qu5
 let c (out:Å) (ia ib:Nat):=out++qu5++qu4
 let mut out:Å:=#[<-elem' b 0,]
 let mut ia:=0
 let mut ib:=1
 if bC then return vh
 if mI then return sA
 let mut minGallop:=jf6
 for _ in [0:d] do
  let mut acount:=0
  let mut bcount:=0
  for _ in [0:d] do
   let sO e <-lt' zB8 zB9|return vh
   if e then
    out:=jf7;ib:=ib+1;bcount:=bcount+1;acount:=0
    if bC then return vh
    if qu7 then break
   else
    out:=jf8;ia:=ia+1;acount:=acount+1;bcount:=0
    if mI then return sA
    if qu8 then break
  nF
  minGallop:=sB
  for _ in [0:d] do
   if xab then minGallop:=xac
   nW
   let sO k <-Z2 false zB8 a ia (a.size-ia) 0|return vh
   acount:=k
   if k>0 then
    out:=out++a.extract ia zZa;ia:=ia+k
    if mI then return sA
    if ia==a.size then return vh
   out:=jf7;ib:=ib+1
   if bC then return vh
   let sO k <-Z2 true zB9 b ib (b.size-ib) 0|return vh
   bcount:=k
   if k>0 then
    out:=out++b.extract ib (ib+k);ib:=ib+k
    if bC then return vh
   out:=jf8;ia:=ia+1
   if mI then return sA
   if qx1 then break
  minGallop:=sB
  nW
 dQ):=rfl
def UK(a b:Å):Ky a b=(do
 qig
 let d:=vp
 let done (out:Å) (na nb:Nat):=qKh++qKi++out.reverse
 let c (out:Å) (na nb:Nat):=qKi++qKh++out.reverse
 let mut na:=l7
 let mut nb:=b.size
 let mut out:Å:=#[<-elem' a na,]
 if na==0 then return vi
 if nb==1 then return sC
 let mut minGallop:=jf6
 for _ in [0:d] do
  let mut acount:=0
  let mut bcount:=0
  for _ in [0:d] do
   let sO f <-lt' jwg jwh|return vi
   if f then
    na:=na-1;out:=qm3;acount:=acount+1;bcount:=0
    if na==0 then return vi
    if qu8 then break
   else
    nb:=nb-1;out:=qm4;bcount:=bcount+1;acount:=0
    if nb==1 then return sC
    if qu7 then break
  nF
  minGallop:=sB
  for _ in [0:d] do
   if xab then minGallop:=xac
   nW
   let sO e <-Z2 false jwg a 0 na qUb|return vi
   let k:=na-e
   acount:=k
   if k>0 then
    out:=out++(a.extract e na).reverse;na:=e
    if na==0 then return vi
   nb:=nb-1;out:=qm4
   if nb==1 then return sC
   let sO e <-Z2 true jwh b 0 nb qUa|return vi
   let k:=nb-e
   bcount:=k
   if k>0 then
    out:=out++(b.extract e nb).reverse;nb:=e
    if nb==1 then return sC
    if nb==0 then return vi
   na:=na-1;out:=qm3
   if na==0 then return vi
   if qx1 then break
  minGallop:=sB
  nW
 dQ):=rfl
structure J(f:è)(la lb o:y7)(ia ib:Nat):Prop where
 pm:(o++(CD++Cw)).Perm (la++lb)
 so:oQ o
 ua:∀x∈o,∀y∈CD,l8
 ub:∀x∈o,∀y∈Cw,l8
variable{f:è}{la lb o:y7}{ia ib:Nat}
def J.swap(h:HG):J f lb la o ib ia:=#[(DJ o DK).trans (h.pm.trans DK),h.so,h.ub,h.ua]
def J.chunk(h:HG)(sa:zY)(k:Nat)(d:∀x∈zCe,∀y∈Cw,l8):J f la lb (o++zCe) zZa ib:=by
 let e:CD=zCe++la.drop zZa:=by rw[<-OK,Ej]
 let c:=zBd;rw[e,Dr]at c;refine#[?_,?_,?_,?_]
 ·let:=h.pm;show ut e;simpa[Eh]using this
 ·rw[Dr];refine#[h.so,c.1,λx a y b=>h.ua x a y ?_];rw[e];show NT _ b
 ·show jwi
  ·show h.ua x a y (by rw[e];show NV _ b)
  ·show c.2.2 x a y b
 ·show jwi
  ·show h.ub x a y b
  ·show d x a y b
def Qaf{l:y7}{i:Nat}(hi:i<l.length):(l.drop i).take 1=[l[i]]:=by
 rw[ED hi];rfl
def J.one(h:HG)(sa:zY)(hi:ia<la.length)(c:∀y∈Cw,f la[ia]<=f y):J f la lb (o++[la[ia]]) (ia+1) ib:=by
 let:=h.chunk sa 1;rw[Qaf hi]at this;show this λx b y a=>by rw[ĸ b];show c y a
abbrev Out(f:è)(la lb r:y7):Prop:=r.Perm (la++lb)/\oQ r
def J.endB(h:HG)(sa:zY)(a:lb.length<=ib):jMc:=by
 let e:Cw=[]:=EN a;show(jN9,#[h.so,zBd,h.ua])
def J.endA(h:HG)(sb:jwj)(a:la.length<=ia):jMc:=by
 let e:CD=[]:=EN a;show(jN9,#[h.so,qih,h.ub])
def J.lastA(h:HG)(sa:zY)(sb:jwj)(b:∀x∈Cw,∀y∈CD,l8):Out f la lb (o++Cw++CD):=by
 refine#[by rw[Eh];show(DJ o DK).trans h.pm,?_];rw[Eh,Dr,Dr];refine#[h.so,#[qih,zBd,b],Ę x c y a]
 show Hv a
 ·show h.ub x c y a
 ·show h.ua x c y a
#print"-Ts"
namespace Ts
open PySem.W
set_option autoImplicit false
noncomputable abbrev LoS:=Hq×Å×SA
noncomputable abbrev InS:=Hq×Å×Nat×SA
noncomputable abbrev GaS:=Hq×Å×Nat×Nat×SA
def QW{f:Type}{c:Prop}[Decidable c]{a b e d:f}(h1:a=e)(h2:b=d):ite c a b=ite c e d:=by rw[h1,h2]
def Qo{a b:Type}{m:Ė a}{g g':a->Ė b}(h:∀x,g x=g' x):qDj:=by rw[funext h]
def Zy{a b:Type}{m:Ė (Option a)}{g g':Υ a->Ė b}(h0:g nO=g' nO)(h1:∀x,g ze0=g' ze0):qDj:=Qo λx=>by show(Ŭ x h0,h1 _)
section
variable(a b:Å)
abbrev Qng(mg:Nat)(_:Nat)(s:InS):Ė (ForInStep InS):=do
 let y <-elem' b Ο
 let x <-elem' a Ķ
 match <-lt' y x with
 | Û c=>
  if Τ then do
   let y <-elem' b Ο
   if(Ο+1==b.size)=true then pure (Ĥ (sO (Mr y++jr0++δ b (Ο+1)),Mr y,Ķ,Ο+1,0,vl+1))
   else if vl+1 >= mg then pure (Ĥ jn7)
   else pure (.yield jn7)
  else do
   let x <-elem' a Ķ
   if(Ķ+1+1==a.size)=true then pure (Ĥ (sO (Mr x++jr1++δ a (Ķ+1)),Mr x,Ķ+1,Ο,Ϸ+1,0))
   else if Ϸ+1 >= mg then pure (Ĥ jn8)
   else pure (.yield jn8)
 |_=>pure (Ĥ (sO (s.2.1++jr0++jr1),s.2.1,Ķ,Ο,Ϸ,vl))
abbrev Qms(out:Å)(c d mg ac e:Nat):Ė TK:=do
 let x <-j8 a c
 if qE0=true then pure (Ĥ (sO (Ϟ x++δ b d++δ a (c+1)),Ϟ x,c+1,d,mg,ac,e))
 else if jWf=true then pure (Ĥ jng)
 else pure (.yield jng)
abbrev QkU(out:Å)(d c mg ac e:Nat):Ė TK:=do
 let y <-j8 b c
 if qKj=true then pure jDa
 else do
  let x <-j8 a d
  match <-Z2 true x b (c+1) (b.size-(c+1)) 0 with
  | Û k=>
   if k>0 then
    if qE1=true then pure (Ĥ (sO (Ϟ y++zA1++δ a d++δ b zWe),Ϟ y++zA1,d,c+1+k,mg,ac,k))
    else Qms a b (Ϟ y++zA1) d zWe mg ac k
   else Qms a b mh d (c+1) mg ac k
  |_=>pure jDa
abbrev QmS(out:Å)(c d mg ac e:Nat):Ė TK:=do
 qL0
 let y <-j8 b d
 match <-Z2 false y a c (a.size-c) 0 with
 | Û k=>
  if k>0 then
   if qE2=true then pure (Ĥ (sO (gq++δ b d++δ a (c+k)),gq,c+k,d,mg,k,e))
   else if qL1=true then pure (Ĥ (sO (gq++δ a (c+k)++δ b d),gq,c+k,d,mg,k,e))
   else QkU a b jf9 (c+k) d mg k e
  else QkU a b out c d mg k e
 |_=>pure (Ĥ (sO jnh,out,c,d,mg,ac,e))
abbrev Qob(_:Nat)(s:GaS):Ė TK:=
 if Ϸ>1 then QmS a b s.2.1 Ķ Ο (Ϸ-1) tY tZ else QmS a b s.2.1 Ķ Ο Ϸ tY tZ
abbrev Qd4(_:Nat)(s:LoS):Ė (ForInStep LoS):=do
 let t <-forIn [0:vp] (jq3:InS) (Qng a b mU)
 match t.1 with
 |Û r=>pure jI9
 | none=>do
  nF
  let u <-forIn [0:vp] (jMh:GaS) (Qob a b)
  match u.1 with
  |Û r=>pure jIa
  |none=>do
   modify jY4
   jOj
set_option maxRecDepth 10000 in
set_option maxHeartbeats 400000 in
def QaU:Kx a b=(do
 qif
 let y <-elem' b 0
 if qUc=true then pure (#[y,]++qx2++qx3)
 else if qL2=true then pure (#[y,]++qx3++qx2)
 else do
  let st <-get
  let t <-forIn [0:vp] ((nO,#[y,],0,1,zP0):LoS) (Qd4 a b)
  match t.1 with
  |Û r=>Pj
  |none=>dQ):=by
 rw[UZ];unfold Qd4 Qob QmS QkU Qms Qng;show jC4
 ·show jE6
  ·show de
  ·obtain⟨_|r,t⟩:=t
   ·show jce
   ·rfl
 ·funext t;show Rf t
#print"-"
set_option autoImplicit false
def XY(a:Å)(i:Nat):(a.extract i a.size).toList=a.toList.drop i:=by
 rw[Ds,EE];show DD Ç
def Qkg(a:Å)(i k:Nat):(a.extract i (i+k)).toList=(a.toList.drop i).take k:=xad
def Qc4{f:è}{l:y7}(h:oQ l){i j:Nat}(hi:i<l.length)(a:k6)(b:i<=j):f l[i]<=f l[j]:=by
 show zqc e i j
 ·show DT.mp h i j hi a Â
def ZW{l:y7}{i:Nat}{x:Keyed}(h:x∈l.drop i):∃j,∃b:k6,i<=j/\x=l[j]:=by
 show fy k a h;rw[DY]at a;rw[Yav]at e;show#[i+k,Ô,oz,e.symm]
def VI{l:y7}{i k:Nat}{x:Keyed}(h:x∈(l.drop i).take k):∃j,∃b:k6,i<=j/\j<i+k/\x=l[j]:=by
 show fy n a h;rw[N4,DY]at a;rw[Yaw,Yav]at e;show#[i+n,Ô,oz,Ñ,e.symm]
section
variable{prog:Program}{w:World}{A:Around}{E:Õ}{s:Shared}{κ:SortKind}{M:θ}{f:è}{a b:Å}
structure Two(f:è)(M:θ)(a b:Å):Prop where
 ma:∀i (h:p8),M a[i]
 mb:∀i (h:p9),M b[i]
 sa:jfa a
 sb:jfa b
abbrev Top(f:è)(a b:Å):Prop:=∀i (h:p8),i+1=a.size->∀x∈b.toList,f x<=Ε i
abbrev Ja(f:è)(a b out:Å)(d c:Nat):Prop:=J f a.toList b.toList out.toList d c
abbrev Ro(f:è)(a b r:Å):Prop:=Out f a.toList b.toList r.toList
variable(wT9:sE)(hT:zU6)
include wT9 in
def Ja.pushA{out:Å}{c d:Nat}(h:d9)(hi:c<a.size)(i:∀j (e:BR),zp6 c):Ja f a b (out.push a[c]) (c+1) d:=by
 unfold Ja;rw[DP];refine J.one h wT9.sa Hg (Ò y g);show jNa
include wT9 in
def Ja.pushB{out:Å}{d c:Nat}(h:HN d c)(hi:c<b.size)(i:∀j (e:BS),d<=j->jAf):Ja f a b (out.push b[c]) d (c+1):=by
 unfold Ja;rw[DP];refine(J.one sU wT9.sb Hg (Ò y g)).swap;show jNa
include wT9 in
def Ja.manyA{out:Å}{c d:Nat}(h:d9)(k:Nat)(m:∀i (hi:p8),i<c+k->∀j (e:BR),zp6 i):Ja f a b jf9 (c+k) d:=by
 unfold Ja;rw[N9,Qkg];refine J.chunk h wT9.sa k jwa;show jm3
include wT9 in
def Ja.manyB{out:Å}{d c:Nat}(h:HN d c)(k:Nat)(m:∀i (hi:p9),i<c+k->∀j (e:BS),d<=j->Pm<=Ε j):Ja f a b (out++b.extract c (c+k)) d (c+k):=by
 unfold Ja;rw[N9,Qkg];refine(J.chunk sU wT9.sb k jwa).swap;show jm3
include wT9 in
def Ja.doneB{out:Å}{d c:Nat}(h:HN d c)(e:b.size<=c):Ro f a b (out++δ a d++δ b c):=by
 show(zG3,J.endB h wT9.sa xr)
include wT9 in
def Ja.doneA{out:Å}{c d:Nat}(h:d9)(e:a.size<=c):Ro f a b jnh:=by
 show(zG3,J.endA h wT9.sb xr)
include wT9 hT in
def Ja.doneL{out:Å}{c e:Nat}(h:HN c e)(m:c+1=a.size):Ro f a b (out++δ b e++δ a c):=by
 show zG3;refine J.lastA h wT9.sa wT9.sb (Ę x i y g);show zVi l n;let d:BS:=ĝ l
 show(zph j c,hT j d m x (FI i))
structure Lv(f:è)(a b out:Å)(ia ib:Nat):Prop where
 j:Ja f a b out ia ib
 ia:ia+1<a.size
 ib:ib<b.size
include wT9 in
def aLe{i j:Nat}(hi:p8)(c:BS)(h:i<=j):Ε i<=Ε j:=Qc4 wT9.sa (i:=i) (j:=j) Hg xy h
include wT9 in
def bLe{i j:Nat}(hi:p9)(c:BR)(h:i<=j):Pm<=vW:=Qc4 wT9.sb (i:=i) (j:=j) Hg xy h
abbrev InP(f:è)(a b:Å)(n:Nat)(t:InS):Prop:=zmb\/(zb0/\zm2)
include wT9 hT in
def Qme{mg i n:Nat}{t:InS}{st:SortSt}(B:ĥ)(z:ř)(h:zb0/\zm2) :
  ò (Qng a b mg i t) (λr q=>q=st/\match r with|P4=>qpj|kI=>jsf):=by
 let#[_,x,v,u,ac,C]:=t;show qij y o;let l:=L.ib;unfold Qng;show Ax (Zi l (Qf (Zi zic (Qf (jU3 B z)))))
 by_cases m:f b[u]<Ε v
 ·rw[yJ m];show(oK,ç (q9 l));let g:=L.j.pushB wT9 l λj p d=>by let:=Ag (Np d p) p d;omega
  show ϓ e (u+1==b.size) (zjb g e)
  ·show ŭ e;split
   ·show ϐ #[rfl,å #[rfl,#[g,o,jP],jP]]
   ·show ϐ #[rfl,rfl,#[g,o,Rq],Rq]
 ·show(zV m,ç (q9 zic));let g:=L.j.pushA wT9 zic λj p d=>by let:=pN l p d;omega
  show ϓ e (v+1+1==a.size) #[rfl,Ø (zGf g e)]
  ·show ŭ e;split
   ·show ϐ #[rfl,å #[rfl,#[g,jP,l],jP]]
   ·show ϐ #[rfl,rfl,#[g,Rq,l],Rq]
#print"-"
set_option autoImplicit false
section
variable{prog:Program}{w:World}{A:Around}{E:Õ}{s:Shared}{κ:SortKind}{M:θ}{f:è}{a b:Å}
abbrev Sg(st c:SortSt):Prop:=∃g,c=Wn g st
def Sg.refl(st:SortSt):Sg st st:=#[zP0,rfl]
def Sg.kind{st c:SortSt}(h:Sg st c):PH c=kindOf st:=by show Ψ g h;rfl
def Sg.set{st c:SortSt}(h:Sg st c)(g:Nat):Sg st (Wn g c):=by show(Ψ d h,#[g,rfl])
abbrev GaL(f:è)(a b:Å)(n:Nat)(u:GaS):Prop:=u.1=nO/\w5 u/\n<=zZ8+zU5
abbrev GaP(f:è)(a b:Å)(n:Nat)(u:GaS):Prop:=(∃r,zud u)\/zXh u
abbrev GaR(f:è)(a b:Å)(n:Nat)(r:ForInStep GaS):Prop:=match r with|P4=>GaP f a b n c|kI=>zXh c
variable(wT9:sE)(hT:zU6)
include wT9 hT in
def Qgk{out:Å}{c d mg ac i n:Nat}{st:SortSt}(j:d9)(h1:c+1<a.size)(h2:d<b.size)(m:n<=c+d)(h:∀j (o:BR),zp6 c) :
  ò (Qms a b out c d mg ac i) (λr g=>g=st/\ri):=by
 unfold Qms;show ç (q9 g7);let l:=j.pushA wT9 g7 h
 show ϓ e qE0 #[rfl,Ø (zGf l e)]
 ·show ŭ e;let k:zXh (nO,out.push a[c],c+1,d,mg,ac,i):=#[rfl,#[l,jP,h2],jP]
  split
  ·show ϐ #[rfl,å k]
  ·show Ţ (yV k)
include wT9 hT in
def QgK{out:Å}{g c mg ac L n:Nat}{st:SortSt}(I:ĥ)(G:ř)(j:HN g c)(h1:g+1<a.size)(h2:c<b.size)(N:n<=g+c)(o:∀j (l:BS),g<=j->jAf) :
  ò (QkU a b out g c mg ac L) (λr v=>v=st/\ri):=by
 unfold QkU;show ç (q9 h2);let z:=j.pushB wT9 h2 o
 show ϓ e qKj (zjb z e)
 ·show ŭ e;show Bg (Zi g7 (Qf (VT I G zDi É Â wT9.mb (λi j m l _ d _=>pN m l d) (Ę k D y x))))
  let lo:∀i (m:p9),i<c+1+k->Pm<=Ε g:=by
   intro i m p
   by_cases q:i<=c
   ·let C:=pN m h2 q;let B:=o g g7 ÿ;lia
   ·let:=y qHh É É;simp only[bey,if_true,decide_eq_true_eq,show c+1+qHh=i by show FP (E4.mp q)]at this;omega
  let t:∀j (l:BR),c+1+k<=j->Ε g<=vW:=by
   intro j l H;let:=x qHi É É É;simp only[bey,if_true,decide_eq_false_iff_not,show c+1+qHi=j by lia]at this;omega
  by_cases h:k>0
  ·rw[Ð h];let J2:=z.manyB wT9 k λi m p j l d=>by let C:=lo i m p;let B:=Ag (Np d l) l d;omega
   show ϓ u qE1 (zjb J2 u)
   ·show(ŭ u,Qgk wT9 hT J2 h1 É Â t)
  ·show(jmg h,Qgk wT9 hT z h1 Â Â t)
include wT9 hT in
def Qko{out:Å}{c u mg ac X n:Nat}{st l:SortSt}(G:ĥ)(D:PH l=κ)(t:Sg l st)(L:Lv f a b out c u)(P:n<=c+u) :
  ò (QmS a b out c u mg ac X) jp5:=by
 let U:=L.ia;let C:=L.ib;unfold QmS;show Bg (ZU (Qf (Zi C (Qf (VT G zof zDh Â Â wT9.ma (λi j p v _ o _=>Ag p v o) (Ę k Q I H))))))
 let lo:∀i (p:p8),i<c+k->0<k->Ε i<=f b[u]:=by
  intro i p x g;let q:=I (zdc-c) É É;simp only[bey,Ee,if_false,Fo,decide_eq_false_iff_not,show c+(zdc-c)=zdc by lia]at q;let:=Ag p (show zdc<a.size by omega) (Oc _ _);omega
 let y:∀j (v:BS),c+k<=j->f b[u]<=Ε j:=by
  intro j v S;let:=H (j-c) Â Â Â;simp only[bey,Ee,if_false,Lg,decide_eq_true_eq,show c+(j-c)=j by lia]at this;omega
 let fin:∀{m:Ė TK},T prog w A E s m (λr d=>d=Wn mg st/\ri) sV->T prog w A E s m jp5 sV:=
  λh=>qfh d t
 by_cases g:k>0
 ·rw[Ð g];let J2:=L.j.manyA wT9 k λi p x j v o=>by let O:=lo i p x g;let N:=pN C v o;show ES O N
  show ϓ B qE2 #[zWf,Ø (zGf J2 B)]
  ·show ŭ B
   show ϓ z qL1 #[zWf,Ø #[_,rfl,J2.doneA wT9 (ħ z)]]
   ·show(ŭ z,fin (QgK wT9 hT G zof J2 Â C Â y))
 ·show(jmg g,fin (QgK wT9 hT G zof L.j U C P y))
include wT9 hT in
def QhC{i n:Nat}{t:LoS}{st g:SortSt}(D:ĥ)(C:PH g=κ)(u:Sg g st)(h:zb0/\zm2) :
  ò (Qd4 a b i t) (λr d=>Po/\match r with|P4=>jsg|kI=>jsf):=by
 let#[_,N,ia,ib,mg]:=t;show qij B h1;unfold Qd4;show ç (yz (VX (I:=λx c d=>d=st/\lr/\w5 c/\n+x<=zyh) (Q:=λc d=>d=st/\qpj) ?_ ?_ #[rfl,rfl,L,B]))
 ·rintro x c d _ _ ⟨rfl,p⟩
  refine QY (Qme wT9 hT D (u.kind.trans C) p) ?_
  rintro(v|v) m ⟨rfl,q⟩
  ·refine zOi
   rcases q with q|⟨e,o,l⟩
   show ja q #[e,o,by show Np ŗ l]
  show Š #[rfl,q.1,q.2.1,by let:=q.2.2;omega]
 ·rintro c d ⟨rfl,e,o,l⟩
  show#[rfl,å #[e,o,Ñ]]
 ·rintro⟨c1,z,X,S,ab,Z⟩ d ⟨rfl,q⟩
  show qL3 G
  show zJ u
  ·dsimp only at e G l;show jsh;show ç (yz (VX (I:=λx c d=>Po/\GaL f a b (n+1) c) (Q:=λc d=>Po/\GaP f a b (n+1) c) ?_ ?_ #[u,rfl,G,l]))
   ·show zcg m j p
    unfold Qob;split
    all_goals
     show nt (Qko wT9 hT D C j p.2.1 p.2.2) v H
     ·show q
   show jVi
   ·rintro⟨c2,y,U,P,O,aa,Y⟩ m ⟨j,q⟩
    show qL3 L2
    show zJ j
    ·dsimp only at e L2 l;subst e;show Qf (ZU (Qh #[j.set _,rfl,L2,l]))
include wT9 hT in
def Qck{P:Å->Ň}{st:SortSt}(y:ĥ)(u:ř)(z:0<a.size)(n:0<b.size)(h0:f b[0]<=f a[0])
  (h:jq4):ò (Kx a b) P:=by
 rw[QaU];show ç (YD (Qf (q9 n)));let t:Ja f a b #[] 0 0:=ju5
 let i:Ja f a b #[b[0],] 0 1:=t.pushB wT9 n λj v _=>by let:=Ag z v ě;show ES h0 this
 show ϓ e qUc (bD (i.doneB wT9 (ħ e)))
 ·show ŭ e
  show ϓ g qL2 (bD (i.doneL wT9 hT g))
  ·show ŭ g;show ç (Yh (Qf (yz (VX (I:=λx c d=>sZ/\lr/\w5 c/\x+1<=zyh) (Q:=jq5) ?_ ?_ #[Sg.refl _,rfl,#[i,jP,jP],by dsimp only;exact Ú]))))
   ·show zcg d l B
    show nt (QhC wT9 hT y u l B) C o
    ·show q
   ·rintro c d ⟨_,_,L,q⟩
    let:=L.ia;let:=L.ib;lia
   ·show(jni G D p,Ţ (h _ _ l p))
#print"-"
set_option autoImplicit false
noncomputable abbrev HiS:=Hq×Nat×Nat×Å×Nat
noncomputable abbrev HnS:=Hq×Nat×Nat×Å×Œ
noncomputable abbrev HgS:=Hq×Nat×Nat×Å×SA
section
variable(a b:Å)
abbrev hD(out:Å)(d c:Nat):Å:=qL5 a d b c
abbrev hF(out:Å)(d c:Nat):Å:=qL5 b c a d
abbrev Qnz(mg:Nat)(_:Nat)(s:HnS):Ė (ForInStep HnS):=do
 let y <-ju4
 let x <-j8 a zRe
 match <-lt' y x with
 | Û c=>
  if Τ then do
   let x <-j8 a zRe
   if(zSd==0)=true then pure (Ĥ (sO (hD a b (s.2.2.2.1.push x) zRe Ķ),zSd,Ķ,Rg x,Ϸ+1,0))
   else if Ϸ+1 >= mg then pure (Ĥ joc)
   else pure (.yield joc)
  else do
   let y <-ju4
   if(Ķ-1==1)=true then pure (Ĥ (sO (hF a b (s.2.2.2.1.push y) s.2.1 (Ķ-1)),s.2.1,Ķ-1,Rg y,0,vl+1))
   else if vl+1 >= mg then pure (Ĥ jlb)
   else pure (.yield jlb)
 |_=>pure (Ĥ (sO (hD a b Ο s.2.1 Ķ),s.2.1,Ķ,Ο,Ϸ,vl))
abbrev Qmn(c d:Nat)(out:Å)(mg ac e:Nat):Ė TL:=do
 let x <-j8 a (c-1)
 if(c-1==0)=true then pure (Ĥ (sO (hD a b (out.push x) (c-1) d),c-1,d,Ϟ x,mg,ac,e))
 else if jWf=true then pure (Ĥ jnj)
 else pure (.yield jnj)
abbrev Qmh(d c:Nat)(out:Å)(mg ac e:Nat):Ė TL:=do
 let y <-j8 b (c-1)
 if(c-1==1)=true then pure (Ĥ (sO (hF a b mh d (c-1)),d,c-1,Ϟ y,mg,ac,e))
 else do
  let x <-j8 a (d-1)
  match <-Z2 true x b 0 (c-1) (c-1-1)with
  | Û k=>
   if c-1-k>0 then
    if(k==1)=true then pure (Ĥ (sO (hF a b zn1 d k),d,k,Ϟ y++zsj,mg,ac,c-1-k))
    else if b8 then pure (Ĥ (sO (hD a b zn1 d k),d,k,Ϟ y++zsj,mg,ac,c-1-k))
    else Qmn a b d k zn1 mg ac (c-1-k)
   else Qmn a b d (c-1) mh mg ac (c-1-k)
  |_=>pure (Ĥ (sO (hD a b mh d (c-1)),d,c-1,Ϟ y,mg,ac,e))
abbrev Qlr(c d:Nat)(out:Å)(mg ac e:Nat):Ė TL:=do
 qL0
 let y <-j8 b (d-1)
 match <-Z2 false y a 0 c (c-1)with
 | Û k=>
  if c-k>0 then
   if b8 then pure (Ĥ (sO (hD a b zne k d),k,d,out++jMd,mg,c-k,e))
   else Qmh a b k d zne mg (c-k) e
  else Qmh a b c d out mg (c-k) e
 |_=>pure (Ĥ (sO (hD a b out c d),c,d,out,mg,ac,e))
abbrev Qn1(_:Nat)(s:HgS):Ė TL:=
 if Ϸ>1 then Qlr a b s.2.1 Ķ Ο (Ϸ-1) tY tZ else Qlr a b s.2.1 Ķ Ο Ϸ tY tZ
abbrev Qf5(_:Nat)(s:HiS):Ė (ForInStep HiS):=do
 let t <-forIn [0:vp] (jq3:HnS) (Qnz a b mU)
 match t.1 with
 |Û r=>pure jI9
 | none=>do
  nF
  let u <-forIn [0:vp] (jMh:HgS) (Qn1 a b)
  match u.1 with
  |Û r=>pure jIa
  |none=>do
   modify jY4
   jOj
set_option maxRecDepth 10000 in
set_option maxHeartbeats 400000 in
def Qbb:Ky a b=(do
 qig
 let x <-j8 a cU
 if(l7==0)=true then pure (hD a b #[x,] cU b.size)
 else if qUd=true then pure (hF a b #[x,] cU b.size)
 else do
  let st <-get
  let t <-forIn [0:vp] ((nO,l7,b.size,#[x,],zP0):HiS) (Qf5 a b)
  match t.1 with
  |Û r=>Pj
  |none=>dQ):=by
 rw[UK];unfold Qf5 Qn1 Qlr Qmh Qmn Qnz hD hF;show jC4
 ·show jE6
  ·show de
  ·obtain⟨_|r,t⟩:=t
   ·show jce
   ·rfl
 ·funext t;show Rf t
#print"-"
section
variable{f:è}{M:θ}{a b:Å}
abbrev Jh(f:è)(a b out:Å)(d c:Nat):Prop:=J qL7 a.toList.reverse b.toList.reverse out.toList (a.size-d) (b.size-c)
def Ui{l:y7}(h:oQ l):l.reverse.Pairwise λx y=>(λx=>- f x) x<=(λx=>- f x) y:=by
 rw[OL];show h.imp λ{x y} q=>jP
def ZS(a:Å){n:Nat}(h:zU7):a.toList.reverse.drop zOj=(a.toList.take n).reverse:=by
 rw[List.drop_reverse,NC,show a.size-zOj=n by lia]
def Qbr(a:Å){k n:Nat}(c:k<=n)(h:zU7):(a.toList.reverse.drop zOj).take (n-k)=(a.extract k n).toList.reverse:=by
 rw[ZS a h,List.take_reverse,N4,NC,Dg h,show n-(n-k)=k by lia,Ds,EE,List.drop_take]
def Out.rev{d c r:y7}(h:Out qL7 d.reverse c.reverse r):Out f d c r.reverse:=by
 refine#[(LB r).trans (h.1.trans ((LB d).append (LB c))),?_];rw[OL];show h.2.imp λ{x y} q=>by show jY q;lia
def Out.comm{d c r:y7}(h:Out f d c r):Out f c d r:=#[h.1.trans DK,h.2]
def K3{l:y7}{n:Nat}{x:Keyed}(h:x∈l.take n):∃j,∃d:k6,j<n/\x=l[j]:=by
 show fy k c h;rw[N4]at c;rw[Yaw]at e;show#[k,vQ c fK,vQ c (IP _ _),e.symm]
variable(wT9:sE)
include wT9 in
def Jh.manyA{out:Å}{k c d:Nat}(h:k9 c d)(n:k<=c)(m:zU8)(p:zU9)(o:∀i (hi:p8),k<=i->i<c->∀j (l:BR),j<d->vW<=Ε i):Jh f a b zne k d:=by
 unfold Jh;let q:=J.chunk h zMg (c-k);rw[Qbr a n m,show a.size-c+(c-k)=a.size-k by lia]at q;rw[N9,DU];refine q jwb;rw[Iv,Ds,EE]at g;rw[ZS b p,Iv]at e;let#[i,hi,s,t,rfl]:=VI g;let#[j,l,r,rfl]:=K3 e;let:=o i Hg s Â j gM r;apply-Ε i<=- vW;lia
include wT9 in
def Jh.manyB{out:Å}{k e d:Nat}(h:k9 e d)(l:k<=d)(g:e<=a.size)(n:zU9)(m:∀i (hi:p9),k<=i->i<d->∀j (o:BS),j<e->Ε j<=Pm):Jh f a b (out++(b.extract k d).reverse) e k:=by
 let c:Two f M b a:=#[wT9.mb,wT9.ma,wT9.sb,wT9.sa]
 show J.swap (Jh.manyA (a:=b) (b:=a) c sU l n g m)
def QcB(a:Å){n:Nat}(h1:0<n)(h:zU7)(out:Å):out++(a.extract (n-1) n).reverse=out.push a[n-1]:=by
 refine' Array.ext';rw[N9,DU,DP,Ds,EE,show n-(n-1)=1 by lia,Qaf (by simpa using Ô)];rfl
include wT9 in
def Jh.pushA{out:Å}{c d:Nat}(h:k9 c d)(h1:0<c)(e:zU8)(m:zU9)(l:∀j (g:BR),jye):Jh f a b qu9 (c-1) d:=by
 rw[<-QcB a h1 e out];refine h.manyA wT9 ju e m λi o q p j g n=>?_;show(jx0,l j g n)
include wT9 in
def Jh.pushB{out:Å}{d c:Nat}(h:k9 d c)(h1:0<c)(l:d<=a.size)(g:zUa)(m:∀j (e:BS),j<d->Ε j<=zj c):Jh f a b (out.push b[c-1]) d (c-1):=by
 rw[<-QcB b h1 g out];refine h.manyB wT9 ju l g λi o q p j e n=>?_;show(jx0,m j e n)
def QaL(a:Å)(n:Nat):(a.extract 0 n).toList=a.toList.take n:=xad
include wT9 in
def Jh.doneA{out:Å}{d c:Nat}(h:k9 d c)(h0:d=0)(e:zUa):Ro f a b (hD a b out d c):=by
 subst h0;let q:=(J.endA h qP2 Ç).rev;rw[ZS b e,ZS a ě]at q;unfold Ro hD;show zye
include wT9 in
def Jh.doneB{out:Å}{c:Nat}(h:Jh f a b out c 0)(d:zU8):Ro f a b (hD a b out c 0):=by
 let q:=(J.endB h zMg Ç).rev;rw[ZS a d,ZS b ě]at q;unfold Ro hD;show zye
abbrev Bot(f:è)(a b:Å):Prop:=∀i (h:p9),i=0->∀x∈a.toList,Pm<=f x
include wT9 in
def Jh.doneF{out:Å}{d c:Nat}(n:Bot f a b)(h:k9 d c)(i:d<=a.size)(h1:c=1)(l:zUa):Ro f a b (hF a b out d c):=by
 let q:=(J.lastA sU qP2 zMg jwb).comm.rev
 ·rw[ZS a i,ZS b l]at q;unfold Ro hF;show zye
 ·rw[ZS a i,Iv]at g;rw[ZS b l,Iv]at e;let#[j,m,o,rfl]:=K3 e;let:=n j gI Â x (Dt g);apply-f x<=- vW;lia
#print"-"
set_option autoImplicit false
section
variable{prog:Program}{w:World}{A:Around}{E:Õ}{s:Shared}{κ:SortKind}{M:θ}{f:è}{a b:Å}
structure Lh(f:è)(a b:Å)(na nb:Nat)(out:Å)(n:Nat):Prop where
 j:Jh f a b out na nb
 a1:0<na
 a2:na<=a.size
 b1:1<nb
 b2:nb<=b.size
 n:n<=(a.size-na)+(b.size-nb)
abbrev HL(f:è)(a b:Å)(n:Nat)(t:HnS):Prop:=znf
abbrev HP(f:è)(a b:Å)(n:Nat)(t:HnS):Prop:=zmb\/qUe
abbrev HgL(f:è)(a b:Å)(n:Nat)(t:HgS):Prop:=znf
abbrev HgP(f:è)(a b:Å)(n:Nat)(t:HgS):Prop:=zmb\/HgL f a b n t
abbrev HgR(f:è)(a b:Å)(n:Nat)(r:ForInStep HgS):Prop:=match r with|P4=>HgP f a b n c|kI=>HgL f a b n c
variable(wT9:sE)(hB:Bot f a b)
include wT9 hB in
def Qmo{mg i n:Nat}{t:HnS}{st:SortSt}(C:ĥ)(B:ř)(h:qUe) :
  ò (Qnz a b mg i t) (λr u=>u=st/\match r with|P4=>qrg|kI=>HL f a b (n+1) c):=by
 let#[_,g,d,m,ac,G]:=t;show(jt L h,jY L);let#[j,z,p,y,l,D]:=L;unfold Qnz;show Ax (Zi Â (Qf (Zi É (Qf (jU3 C B)))))
 by_cases o:zj d<zg9 g
 ·rw[yJ o];show(oK,ç (q9 Â));let q:=j.pushA wT9 z p l λj v x=>by let:=pN v (tm d b) Â;omega
  show jjb g q l
  ·show ŭ e;let k:Lh f a b (g-1) d (m.push a[g-1]) (n+1):=#[q,Ñ,BT ju p,y,l,Ñ]
   show zge
   show zo2
 ·show(zV o,ç (q9 Â));let q:=j.pushB wT9 (qz9 y) p l λj v x=>by let:=Ag v (tm g a) Â;omega
  show ϓ e (d-1==1) #[rfl,Ø #[_,rfl,q.doneF wT9 hB p e (Nd ju l)]]
  ·show ŭ e;let k:Lh f a b g (d-1) (m.push b[d-1]) (n+1):=#[q,z,p,Ñ,BT ju l,Ñ]
   show zge
   show zo2
include wT9 in
def QgC{out:Å}{c d mg ac o n:Nat}{st:SortSt}(L:zVj c d)(l:c-1<a.size)(h:∀j (v:BR),jye) :
  ò (Qmn a b c d out mg ac o) (λr g=>g=st/\rj):=by
 let#[j,t,q,p,i,u]:=L;unfold Qmn;show ç (q9 l);let m:=j.pushA wT9 t q i h
 show jjb c m i
 ·show ŭ e;let k:Lh f a b (c-1) d qu9 n:=#[m,Ñ,zXi l,p,i,Ñ]
  show zge
  show zo2
include wT9 hB in
def QgL{out:Å}{o g mg ac U n:Nat}{st:SortSt}(P:ĥ)(O:ř)(L:zVj o g)(c:g-1<b.size)(y:∀j (d:BS),j<o->Ε j<=zj g) :
  ò (Qmh a b o g out mg ac U) (λr x=>x=st/\rj):=by
 let#[j,N,m,Y,X,hn]:=L;unfold Qmh;show ç (q9 c);let I:=j.pushB wT9 (qz9 Y) m X y
 show ϓ e (g-1==1) #[rfl,Ø #[_,rfl,I.doneF wT9 hB m e (NF c)]]
 ·show ŭ e;show Bg (Zi Â (Qf (VT P O zDi Â Â wT9.mb (λi j t d _ q _=>pN t d q) (Ę k l H G))))
  let lo:∀i (t:p9),i<k->Pm<=zg9 o:=by
   intro i t C;let:=H i Â C;simp only[bey,if_true,decide_eq_true_eq,Ef]at this;omega
  let D:∀j (d:BR),k<=j->j<g-1->zg9 o<=vW:=by
   show qP3 d z G;simp only[bey,if_true,decide_eq_false_iff_not,Ef]at this;omega
  by_cases p:g-1-k>0
  ·rw[Ð p];let J2:=I.manyB wT9 (k:=k) l m (NF c) λi t S Q j d q=>by let q1:=D i t S Q;let Z:=Ag d (tm o a) Â;omega
   show ϓ v (k==1) #[rfl,Ø #[_,rfl,J2.doneF wT9 hB m v (NF (Np l c))]]
   ·show ŭ v
    by_cases u:b8
    ·show(zmh u,ϐ #[rfl,Ø #[_,rfl,J2.doneB wT9 m]])
    ·show ŭ u;show QgC wT9 #[J2,N,m,Ñ,zXi (Np l c),Ñ] Â λj d h=>lo j d h
  ·rw[Í p];show QgC wT9 #[I,N,m,Ñ,zXi c,Ñ] É (qUf j d)
include wT9 hB in
def Ql6{out:Å}{y l mg ac U n:Nat}{st d:SortSt}(H:ĥ)(z:PH d=κ)(v:Sg d st)(L:zVj y l) :
  ò (Qlr a b y l out mg ac U) jp6:=by
 let Y:=L;let#[j,a1,P,X,O,hn]:=L;unfold Qlr;show Bg (ZU (Qf (Zi Â (Qf (VT H zog zDh Â É wT9.ma (λi j g t _ u _=>Ag g t u) (Ę k o N I))))))
 let lo:∀i (g:p8),i<k->Ε i<=zj l:=by
  intro i g D;let q:=N i Â D;simp only[bey,Ee,if_false,Fo,decide_eq_false_iff_not,Ef]at q;omega
 let G:∀j (t:BS),k<=j->j<y->zj l<=Ε j:=by
  show qP3 t C I;simp only[bey,Ee,if_false,Lg,decide_eq_true_eq,Ef]at this;omega
 let fin:∀{m:Ė TL},T prog w A E s m (λr c=>c=Wn mg st/\rj) sV->T prog w A E s m jp6 sV:=
  λh=>qfh c v
 by_cases p:y-k>0
 ·rw[Ð p];let J2:=j.manyA wT9 (k:=k) o P O λi g S Q j t u=>by let q1:=G i g S Q;let Z:=pN t (tm l b) Â;omega
  by_cases x:b8
  ·show(zmh x,ϐ #[v.set mg,Ø #[_,rfl,J2.doneA wT9 rfl O]])
  ·show(ŭ x,fin (QgL wT9 hB H zog #[J2,Ñ,BT o P,X,O,Ñ] Â lo))
 ·rw[Í p];show fin (QgL wT9 hB H zog Y É (qUf i g))
include wT9 hB in
def Qjf{i n:Nat}{t:HiS}{st g:SortSt}(P:ĥ)(O:PH g=κ)(C:Sg g st)(h:znf) :
  ò (Qf5 a b i t) (λr d=>Po/\match r with|P4=>jsg|kI=>lr/\zt1 c (n+1)):=by
 let#[_,z,y,u,mg]:=t;show(jt L h,jY L);let h1:=L.a1;let h2:=L.a2;unfold Qf5;let v:∀{z y:Nat} {u:Å} {p q:Nat},q<=p->Lh f a b z y u p->Lh f a b z y u q:=ş B L #[L.j,L.a1,L.a2,L.b1,L.b2,Nd B L.n]
 show ç (yz (VX (I:=λx c d=>d=st/\HL f a b (n+x) c) (Q:=λc d=>d=st/\qrg) ?_ ?_ (cj L)))
 ·rintro x c d _ _ ⟨rfl,D⟩
  refine QY (Qmo wT9 hB P (C.kind.trans O) D) ?_
  rintro(G|G) m ⟨rfl,q⟩
  ·refine zOi
   rcases q with q|⟨e,o⟩
   show ja q #[e,v (zvh uh) o]
  show wG zSb
 ·show zg7 d e o
  show#[rfl,å #[e,v Â o]]
 ·rintro⟨c1,aa,Y,N,ai,af⟩ d ⟨rfl,q⟩
  show qUg S
  show zJ C
  ·dsimp only at e S;show jsh;show ç (yz (VX (I:=λx c d=>Po/\HgL f a b (n+1) c) (Q:=λc d=>Po/\HgP f a b (n+1) c) ?_ ?_ (AJ C S)))
   ·show zcg m l D
    unfold Qn1;split
    all_goals
     show nt (Ql6 wT9 hB P O l D.2) G U
     ·show q
   show jVi
   ·rintro⟨c2,Z,X,H,ab,ah,ae⟩ m ⟨l,q⟩
    show qUg L2
    show zJ l
    ·dsimp only at e L2;subst e;show Qf (ZU (Qh #[l.set _,rfl,L2]))
include wT9 hB in
def Qby{P:Å->Ň}{st:SortSt}(y:ĥ)(v:ř)(o:0<a.size)(G:0<b.size)(z:zU6)
  (h:jq4):ò (Ky a b) P:=by
 rw[Qbb];show ç (YD (Qf (q9 É)))
 let u:Jh f a b #[] a.size b.size:=by
  unfold Jh;rw[II,II];show ju5
 let i:Jh f a b #[a[l7],] cU b.size:=u.pushA wT9 o ÿ ÿ λj D _=>z cU É (Nat.sub_add_cancel o) _ Ç
 show ϓ e (l7==0) (bD (i.doneA wT9 e ÿ))
 ·show ŭ e
  show ϓ g qUd (bD (i.doneF wT9 hB ju g ÿ))
  ·show ŭ g;show ç (Yh (Qf (yz (VX (I:=λx c d=>sZ/\lr/\zt1 c (x+1)) (Q:=jq5) ?_ ?_ #[Sg.refl _,rfl,#[i,jP,by dsimp only;show EC _ _,jP,by dsimp only;show Nu _,jP]]))))
   ·show zcg d l B
    show nt (Qjf wT9 hB y v l B) C p
    ·show q
   ·rintro c d ⟨_,_,L⟩
    let:=L.a1;let:=L.b1;let:=L.n;omega
   ·show(jni N H t,Ţ (h _ _ l t))
#print"-"
set_option autoImplicit false
abbrev Ql5(lo a d:Nat):StateT SortSt Sem AscSt:=
 forIn [a:d] ((nO,a):AscSt) λ_ c=>do
  let e <-ltAt' (lo+c.snd) (lo+c.snd-1)
  match e with
  |Û b=>if pB then pure (zb7 (nO,c.snd))else pure (uS (nO,c.snd+1))
  |_=>pure (zb7 (sO nO,c.snd))
abbrev QcU(lo n a:Nat):Ė Mj:=do
 reverseSlice' lo jw
 let b <-Ql5 lo n a
 match b.fst with
 |Û r=>Pj
 |none=>zUb b
abbrev QeT(lo n e:Nat):StateT SortSt Sem DescSt:=
 forIn [n:e] ((nO,n,0):DescSt) λ_ a=>do
  let d <-ltAt' zHg (zMh-1)
  match d with
  | Û b=>
   if pB then
    if xag then do
     jOc
     jq6
    else jq6
   else do
    let d <-ltAt' (zMh-1) zHg
    match d with
    |Û c=>
     if Τ then pure (zb7 (nO,a.snd.fst,a.snd.snd))
     else pure (uS (nO,qrh,a.snd.snd+1))
    |_=>pure jKg
  |_=>pure jKg
abbrev WO(lo n b:Nat):Ė Mj:=do
 liftM (rule "list.sort.descending-run")
 let a <-QeT lo (n+1) b
 match a.fst with
 |Û r=>Pj
 | none=>
  if xag then do
   jOc
   qx4
  else qx4
def Qez(lo b:Nat):countRun' lo b=(do
  let a <-Ql5 lo 1 b
  match a.fst with
  |Û r=>Pj
  | none=>
   if(a.snd==b)=true then zUb a
   else if a.snd>1 then do
    let i <-ltAt' lo (lo+a.snd-1)
    match i with
    | Û c=>if Τ then zUb a else do
      reverseSlice' lo (lo+a.snd)
      qP4
    |_=>zda
   else qP4):=by
 rw[countRun'_eq];unfold WO QcU QeT Ql5;refine ztc
 ·show zpi
 funext a;show Ď r n a;cases r with
 |some r=>rfl
 | none=>
  dsimp only;refine QW rfl (QW (Zy rfl (æ c)) ?_)
  ·dsimp only;refine QW rfl (Qo fW)
   show jg8
  ·show jg8
abbrev F(f:è)(xs:Å)(i:Nat):Int:=(xs[i]?.map f).getD 0
def Qhe{f:è}{xs:Å}{i:Nat}(h:Mq):Ϧ i=f xs[i]:=by unfold F;rw[getElem?_pos xs i h];rfl
def Xj{f:è}{xs ys:Å}{i j:Nat}(h:zf1=ys[j]?):Ϧ i=Ł j:=by unfold F;rw[h]
abbrev So(f:è)(xs:Å)(i j:Nat):Prop:=∀k l,i<=k->k<=l->l<j->Ϧ k<=Ϧ l
abbrev Ni(f:è)(xs:Å)(i j:Nat):Prop:=∀k l,i<=k->k<=l->l<j->Ϧ l<=Ϧ k
structure Mv(lo hi:Nat)(xs ys:Å):Prop where
 pm:ys.Perm xs
 out:∀k,k<lo\/hi<=k->ys[k]?=xs[k]?
def Mv.refl{lo hi:Nat}(xs:Å):Mv lo hi xs xs:=#[Array.Perm.refl _,Ŕ]
def Mv.trans{lo hi:Nat}{xs ys a:Å}(h:tE)(h':Mv lo hi ys a):Mv lo hi xs a:=#[h'.pm.trans h.pm,λk b=>(h'.out k b).trans (h.out k b)]
def Mv.wide{lo hi lo' hi':Nat}{xs ys:Å}(h:tE)(h1:lo'<=lo)(h2:hi<=hi'):Mv lo' hi' xs ys:=#[h.pm,λk a=>h.out k Â]
def Mv.size{lo hi:Nat}{xs ys:Å}(h:tE):qHj:=by
 let:=(DN.mp h.pm).length_eq;show uX
def XI{xs:Å}{i j:Nat}(a:CN):Mv i j xs zwi:=
 #[mirror_perm _ _ _ _,λk b=>by rw[getElem?_mirror_all a,qg]]
def Qc5{xs:Å}{src d:Nat}(a:xah)(hd:d<=src):Mv (src-d) (src+1) xs qua:=
 #[bubble_perm _ _ _,λk b=>by rw[getElem?_bubble a d hd,qg,qg]]
section
variable{f:è}{xs:Å}
def Wh{i j:Nat}(b:CN)(k:Nat):F f zwi k=if i<=k/\k<j then Ϧ (i+j-1-k)else Ϧ k:=by
 let e:=getElem?_mirror_all (i:=i) b k
 by_cases a:i<=k/\k<j
 ·rw[Ð a]at e ⊢;show Xj e
 ·rw[Í a]at e ⊢;show Xj e
def ZT{i j:Nat}(a:CN)(heq:∀k,i<=k->k<j->Ϧ k=Ϧ (j-1))(k:Nat):F f zwi k=Ϧ k:=by
 rw[Wh a];split
 ·rw[heq _ É É,heq k Â Â]
 ·rfl
def Gs{src d:Nat}(a:xah)(hd:d<=src)(k:Nat):F f qua k=if k=src-d then F f xs src else if src-d<k/\k<=src then Ϧ (k-1)else Ϧ k:=by
 let e:=getElem?_bubble a d hd k
 repeat' split
 all_goals simp_all[F]
#print"-"
section
variable{prog:Program}{w:World}{A:Around}{E:Õ}{s:Shared}{κ:SortKind}{M:θ}{f:è}
abbrev Al(M:θ)(xs:Å):Prop:=∀x∈xs.toList,M x
def Al.at{xs:Å}(h:Al M xs)(i:Nat)(hi:Mq):M xs[i]:=h _ Ç
def Al.mv{lo hi:Nat}{xs ys:Å}(h:Al M xs)(m:tE):Al M ys:=λx a=>h x ((DN.mp m.pm).mem_iff.mp a)
def Qbv{i j:Nat}{P:d7}{st:SortSt}(d:ĥ)(c:ř)(b:qF)(hi:i<qw)(a:j<qw)(h:P (sO (ό (Ľ i<Ľ j))) st):ò qP5 P:=by
 rw[ltAt'_eq];show ç (Yh (Qf (Zi hi (Qf (Zi a (QmL d c (b.at _ hi) (b.at _ a) ?_))))));rw[Qhe hi,Qhe a]at h;show h
def QhQ{i j:Nat}{P:d7}{st:SortSt}{ys:Å}(d:ĥ)(b:ř)(a:Al M ys)(hi:i<ys.size)(c:j<ys.size)(h:P (sO (ό (Ł i<Ł j))) T6):T prog w A E s qP5 P T6:=
 Qbv (st:=Cy) d b a hi c h
def Qea{i j:Nat}{P:zpg}{st:SortSt}(h:P () (setArr st (mirror ϰ i j qd8))):ò (reverseSlice' i j) P:=by
 rw[reverseSlice'_eq];show ZU h
def QmX{lo a b:Nat}{st:SortSt}{P:AscSt->Ň}(C:ĥ)(B:ř)(z:qF)(u:lo+b<=qw)(G:1<=a)(t:a<=b)(y:HE zO2)
  (h:∀n,a<=n->n<=b->HE jw->(n=b\/Ľ jw<Ľ zb8)->P (nO,n) st):ò (Ql5 lo a b) P:=by
 unfold Ql5;refine VX (I:=λx c g=>g=st/\c=(nO,x)/\HE pu) ?_ ?_ (cj y)
 ·rintro x c g r l ⟨rfl,rfl,e⟩
  show Ax (Qbv C B z (p5 l u) (Ng (Np ju (NU l _)) u) ?_)
  by_cases d:F f (arrOf g) pu<F f (arrOf g) cI
  ·rw[yJ d];show Ţ (h x r (NF l) e (õ d))
  ·rw[yF d];refine Qh #[rfl,rfl,Ϭ i j v p D]
   by_cases m:j<lo+x
   ·show e i j v p m
   ·show zl8 o x q
    ·show(jZ4 e v,ES this (pP d))
 ·rintro c g ⟨rfl,rfl,e⟩
  rw[show BX=b by lia]at e ⊢;show h b t ÿ e BL
def QgT{lo n a:Nat}{st:SortSt}{P:SL}(t:ĥ)(q:ř)(p:qF)(l:zpj)(h1:1<=n)(c:n<=a)(o:jVj)
  (h:zk4):ò (QcU lo n a) P:=by
 unfold QcU;let b:zq0:=BT zU4 l
 let mv:=jSe b c;show ç (Qea (Qf (QmX t q (p.mv mv) (by rw[show arrOf (setArr st _)=_ from rfl,mv.size];show l) h1 c ?_ λm g e d _=>Qh (h m _ (Nd h1 g) e mv d))));intro i j v r u;show zD3 xm1 i j;rw[Wh b,Wh b,Bd,Bd];show o _ _ É É É
def Qk8{lo n b:Nat}{st:SortSt}{P:DescSt->Ň}(X:ĥ)(u:ř)(S:qF)(Q:lo+b<=qw)(h1:1<=n)(z:n<=b)(hs:jVj)
  (h:∀m a ys,n<=m->m<=b->Ti (lo+b)->Ni f ys lo zH5->a+1<=m->(∀i,lo+m-(a+1)<=i->i<lo+m->Ł i=Ł (lo+m-1))->P (nO,m,a) T6):ò (QeT lo n b) P:=by
 unfold QeT;refine VX (I:=λx c p=>∃a ys,c=(nO,x,a)/\p=Cy/\Ti (lo+b)/\Ni f ys lo pu/\a+1<=x/\(∀i,lo+x-(a+1)<=i->i<lo+x->Ł i=Ł cI)) ?_ ?_ #[0,kJ,rfl,rfl,zUc,hs,Pe h1,jyf]
 ·rintro x c p N l ⟨a,ys,rfl,rfl,mv,g,t,q⟩
  dsimp only;let r:=mv.size
  let e:∀y:Å,(∀k,F f y k=Ł k)->Ł pu<=Ł cI->Ni f y lo (lo+(x+1)):=by
   intro y u B i j U H hj;rw[u,u]
   by_cases C:j<lo+x
   ·show g i j U H C
   ·show zl8 D x L
    ·show(jZ4 g U,ES B this)
  show ç (QhQ X u xai jod Â ?_)
  by_cases d:Ł pu<Ł cI
  ·rw[yJ d];show oK
   by_cases o:a>0
   ·rw[Ð o];let Y:lo+x<=ys.size:=Ñ
    let Z:∀k,F f (mirror ys qx5 pu ((lo+x-qx5)/2)) k=Ł k:=ZT Y q;show Qf (Qea (Qh #[0,_,rfl,rfl,mv.trans ((XI Y).wide Â (NF (NU l _))),e _ Z zY9,zL2,jyf]))
   ·rw[Í o];show ϐ #[0,ys,rfl,rfl,mv,qY2 zY9,zL2,λi h1 O=>qDh]
  ·show(zV d,ç (QhQ X u xai Â jod ?_))
   by_cases v:Ł cI<Ł pu
   ·rw[yJ v];show Ţ (h x a ys N (NF l) mv g t q)
   ·rw[yF v];refine Qh #[a+1,ys,rfl,rfl,mv,qY2 (pP v),zSe t,Ï i h1 O];rw[show lo+(x+1)-1=lo+x by show rfl]
    by_cases G:i=lo+x
    ·subst G;rfl
    ·rw[q i Â Â];show Oi (pP d) (pP v)
 ·rintro c p ⟨a,ys,rfl,rfl,mv,g,t,q⟩
  rw[show max n b=b by lia]at g t q ⊢;show h b a ys z ÿ mv g t q
#print"-"
set_option autoImplicit false
section
variable{prog:Program}{w:World}{A:Around}{E:Õ}{s:Shared}{κ:SortKind}{M:θ}{f:è}
def Qb2{lo n a:Nat}{st:SortSt}{P:SL}(D:ĥ)(B:ř)(z:qF)(p:zpj)(y:n+1<=a)(I:Ni f ϰ lo (lo+(n+1)))
  (h:zk4):ò (WO lo n a) P:=by
 unfold WO;show Bg (YD (Qf (Qk8 D B z p qec y I λm b ys o c mv l Q O=>?_)));let g:=mv.size
 by_cases d:b>0
 ·rw[Ð d];let H:lo+m<=ys.size:=BT (Nd zU4 p) gG
  let G:∀k,F f zrf k=Ł k:=ZT H O;let e:Mv lo zO2 ϰ zrf:=mv.trans ((XI H).wide Â zU4);show ç (Qea (QgT (st:=setArr st zrf) D B (z.mv e) (by apply jT5;rw[e.size];show p) (mX o) c ?_ λx q v u t r=>h x q v u (Ć e t) r));intro i j N C L;show zD3 xt4 j i;rw[G,G];show l i j N C L
 ·rw[Í d];show QgT (st:=Cy) D B (z.mv mv) (by apply _<=ys.size;show Nd p gG) (mX o) c l λx q v u t r=>h x q v u (mv.trans t) r
def QiV{lo a:Nat}{st:SortSt}{P:SL}(z:ĥ)(t:ř)(y:qF)(x:zpj)(h1:1<=a)
  (h:zk4):ò (countRun' lo a) P:=by
 rw[Qez];show Bg (QmX z t y x (Nu 1) h1 (λi j v e I=>by let:i=j:=Â;subst this;lia) (Ϭ n o d c C))
 show Ā l n a
 ·show(jA gM,Ţ qA1)
 ·rw [if_neg gM];let p:=C.resolve_left l
  by_cases r:n>1
  ·rw[Ð r];show ç (Qbv z t y Â Â ?_)
   by_cases B:F f ϰ lo<Ľ zb8
   ·rw[yJ B];show Ţ qA1
   ·show zV B;let g:zq0:=BT (NR d _) x
    let b:∀k,lo<=k->k<lo+n->Ľ k=Ľ zb8:=by
     intro k L t;let Z:=c lo k ÿ L t;let Y:=c k zb8 L Â É;show Oi Y (ES (pP B) Z)
    let mv:=jSe g d;show ç (Qea (Qb2 (st:=setArr st (mirror ϰ lo jw ((lo+n-lo)/2))) z t (y.mv mv) (by apply jT5;rw[mv.size];show x) Â ?_ λX N U S Q O=>h X N U S (mv.trans Q) O));intro i j v e I;show zD3 xnb j i;rw[ZT g b,ZT g b]
    by_cases u:j<lo+n
    ·rw[b i v (Np e u),b j (Nd v e) u];lia
    ·show zl8 G n q
     ·rw[b i v Â];show Dh p
  ·rw[Í r];let:n=1:=pp (ł r) o
   subst this;refine Qb2 z t y x Â ?_ h;intro i j v e I
   show zqc q i j
   ·let H:i=lo:=Ñ
    let D:j=lo+1:=Ñ
    subst H;subst D;rw[show i+1-1=i by show rfl]at p;show Dh p
def Qfv{lo n ok:Nat}{st:SortSt}{P:Bool->Ň}(C:ĥ)(X:ř)(H:qF)(G:zq0)(O:ok<=n)(N:HE (lo+ok))
  (h:∀ys,Ti jw->qo4->P true T6):ò (binarySort' lo n ok) P:=by
 rw[binarySort'_eq]
 refine Qf (QY (VX (I:=λk c e=>c=HX/\∃ys,e=Cy/\Ti jw/\So f ys lo (lo+zd5))
  (Q:=λc e=>tO/\∃ys,e=Cy/\Ti jw/\qo4) ?step ?fin ?init) ?post)
 case post=>
  rintro c e ⟨rfl,ys,rfl,mv,d⟩
  show Ţ (h ys mv d)
 case init=>
  refine#[rfl,kJ,rfl,zUc,Ϭ i j B y Y]
  by_cases z:ok=0
  ·show zph i j;lia
  ·show N i j B y Â
 case fin=>
  rintro c e ⟨C,ys,rfl,mv,d⟩
  refine#[C,ys,rfl,mv,?_];rwa[show min (max (max ok 1) n) n=n by lia]at d
 case step=>
  rintro k c e Z q ⟨rfl,ys,rfl,mv,d⟩
  rw[show zd5=k by lia]at d;let u:=mv.size
  refine Qf (QY (VX (I:=λx c a=>a=Cy/\∃l r,mm/\l<=r/\r<=k/\r-l<=k-x /\
    jj3/\(jo0 r))
   (Q:=λc a=>a=Cy/\∃l r,mm/\l<=k /\
    jj3/\(jo0 l)) ?istep ?ifin ?iinit) ?ipost)
  case iinit=>show#[rfl,0,k,rfl,qP1,qP6,qP6,λi B=>Ñ,λi z D=>Ñ]
  case ifin=>
   rintro c a ⟨rfl,l,r,rfl,v,o,H,g,m⟩
   let:l=r:=Ñ
   show cF qo5
  case istep=>
   rintro x c a _ L ⟨rfl,l,r,rfl,v,o,S,g,m⟩
   show xa9 t
   ·rw[Ð t];let:l=r:=pp v t
    subst this;show Ţ qo5
   ·rw[Í t];show ç (QhQ C X (H.mv mv) (Ng (p5 q G) zh8) Â ?_)
    by_cases b:Ł fJ<Ł zHh
    ·rw[yJ b];refine Qh #[rfl,l,xa4,rfl,Ñ,Ñ,Ô,g,Ï i z D];let:=d zHh i ŗ z D;show Int.lt_of_lt_of_le b this
    ·rw[yF b];refine Qh #[rfl,xa4+1,r,rfl,Ñ,Pe o,Ô,Ï i z D,m];let:=d i zHh z Â Â;show ES this (pP b)
  case ipost=>
   rintro c a ⟨rfl,l,r,rfl,U,g,m⟩
   apply T _ _ _ _ _ (do moveDown' fJ qRh;jAg) _ _;rw[moveDown'_eq];let p:lo+k<ys.size:=vQ (p5 q G) zh8
   show ç (ZU (Qh #[rfl,bubble ys fJ qx6,rfl,mv.trans ((Qc5 p ju).wide É (NU q _)),?_]));rw[show min (k+1) n=k+1 by lia];intro i j B y Y;rw[qri,qri,show lo+k-qx6=lo+l by lia]
   repeat' split
   all_goals first
    |(exfalso;lia)
    |lia
    |show g _ É Â
    |show Dh (m _ Â É)
    |show d _ _ É Â É
#print"-"
def QfS(s:Nat):∀(l:y7) (n:Nat) (xs:Å),qUh<=xs.size ->
  ((l.zipIdx n).foldl jAh xs).size=xs.size/\∀k,((l.zipIdx n).foldl jAh xs)[k]?=if s+n<=k/\k<qUh then l[xaf]? else xs[k]?:=by
 intro l
 induction l with
 |nil=>
  intro n xs _;show#[rfl,λk=>by show qt;rfl]
 | cons p l d=>
  intro n xs h;rw[NO]at h;let b:=d (n+1) (xs.setIfInBounds (s+n) p) (by rw[LV];lia);rw[YaF,IG];refine#[b.1.trans (LV ..),æ k];rw[b.2 k,NO]
  by_cases c:s+(n+1)<=k/\k<s+(n+1)+l.length
  ·rw[Ð c,Bd,show xaf=(k-(s+(n+1)))+1 by lia,F7]
  ·rw[Í c]
   by_cases e:k=s+n
   ·subst e;rw[Bd,II,List.getElem?_cons_zero,Lc,Ĳ,Bd]
   ·rw[qg,Lc,qg]
set_option autoImplicit false
def QaE(i:Nat):mergeAt' i=(do
 let s <-get
 let(sO (sa,c,power),sO (sb,b,_)):=((pendingOf s)[i]?,(pendingOf s)[i+1]?)|unsupported "internal:list.sort.pending"
 set (setPending s (((pendingOf s).setIfInBounds i (sa,c+b,power)).eraseIdxIfInBounds (i+1)))
 let sO k <-Z2 false (<-elem' km sb) km sa c 0|return false
 let(sa,c):=(sa+k,c-k)
 if c==0 then return true
 let sO b <-Z2 true (<-elem' km (sa+c-1)) km sb b (b-1)|return false
 if b==0 then return true
 let x:=(arrOf s).extract sa sb
 let y:=(arrOf s).extract sb (sb+b)
 let merged <-if c<=b then Kx x y else Ky x y
 modify λs=>setArr s (merged.toList.zipIdx.foldl (zui (sa+j)) km)
 return qda):=rfl
section
variable{f:è}{M:θ}{xs:Å}
def Xk{i j k:Nat}(b:CN)(a:k<wW):∃h:i+k<xs.size,(xs.extract i j)[k]=xs[i+k]:=by
 let:k<j-i:=by simpa[Dg b]using a
 show#[Ô,Ê]
def VN{i j:Nat}(a:CN):wW=j-i:=by simp[Dg a]
def Qg3{i j:Nat}(d:CN)(h:xaj):(xs.extract i j).toList.Pairwise xS:=by
 rw[DT];intro p q m l c;let b:p<wW:=zK2 m
 let a:q<wW:=zK2 l
 let#[g,o]:=Xk d b;let#[e,n]:=Xk d a;rw[VN d]at b a;apply qUi p<=qUi q;rw[o,n,<-Qhe (f:=f) g,<-Qhe (f:=f) e];show h _ _ ŗ (NF (NU c _)) Â
def Wk{i j:Nat}(b:CN){x:Keyed}(h:x∈(xs.extract i j).toList):∃k,∃l:k<xs.size,i<=k/\k<j/\x=xs[k]:=by
 show fy p d h;let a:p<wW:=zK2 d
 let#[c,g]:=Xk b a;rw[VN b]at a;show#[i+p,c,oz,Ô,by rw[<-e,<-g];rfl]
def Kr{sa sb se:Nat}{m ys:Å}(h1:sa<=sb)(h2:sb<=se)(a:se<=xs.size)(d:m.toList.Perm jP0)(g:qHj)
  (c:∀k,ys[k]?=if sa<=k/\k<sa+m.toList.length then m.toList[k-sa]? else xs[k]?):Mv sa se xs ys/\m.size=se-sa:=by
 let h:=d.length_eq;rw[NA,NC,NC,NC,VN (Nd h2 a),VN a]at h;refine#[#[?_,Ò k o],Ñ]
 ·rw[DN]
  let i:ys.toList=qAf++(m.toList++zEd):=by
   refine' Ia;intro k;rw[N5,c k,OY,OY,N4,NC,NC,Dg (Nd (Nd h1 h2) a),List.getElem?_take,Li,N5]
   by_cases b:k<sa
   ·rw[qg,Ð b,Ð b,N5]
   ·rw[Í b]
    by_cases e:k-sa<m.size
    ·rw[Bd,Ð e]
    ·rw[qg,Í e];rw[show se+(k-sa-m.size)=k by lia,N5]
  let j:xs.toList=qAf++(jP0++zEd):=by
   let n:qj0++qj1=(xs.toList.drop sa).take zWg:=by
    rw[Ds,Ds,EE,EE,show se-sa=(sb-sa)+(se-sb) by lia,List.take_add,OK,show sa+(sb-sa)=sb by show FP h1]
   rw[n];let l:zEd=(xs.toList.drop sa).drop zWg:=by rw[OK,show sa+zWg=se by lia]
   rw[l,Ej,Ej]
  rw[i]
  conv=>rhs;rw[j]
  show DJ _ (d.append_right _)
 ·rw[c k,if_neg jU4]
#print"-"
section
variable{prog:Program}{w:World}{A:Around}{E:Õ}{s:Shared}{κ:SortKind}{M:θ}{f:è}
set_option maxHeartbeats 1000000 in
def QcF {i sa z Z sb t pw2:Nat} {l1 l2:Ar} {st:SortSt} {P:Bool->Ň} (hc:ĥ) (I:ř) (hf:tF) (hm:qF)
    (hp:nX=l1++(sa,z,Z)::(sb,t,pw2)::l2) (hi:l1.length=i) (y:sb=sa+z) (h1:1<=z) (h2:1<=t) (b:sb+t<=qw) (s1:So f ϰ sa sb) (s2:So f ϰ sb zeb)
    (h:∀m:SortSt,PH m=κ->failedOf m=nO->(pendingOf m).toList=qfi->Mv sa zeb ϰ (arrOf m)->So f (arrOf m) sa zeb->P true m):ò qL8 P:=by
  rw[QaE];show ç kW
  let e1:(pendingOf st)[i]?=sO (sa,z,Z):=by
    rw[<-N5,hp,<-hi];simp
  let e2:(pendingOf st)[i+1]?=sO (sb,t,pw2):=by
    rw[<-N5,hp,<-hi];simp
  rw[e1,e2];show Ax (QoF ?_)
  let S:(((pendingOf st).setIfInBounds i zJ7).eraseIdxIfInBounds (i+1)).toList=qfi:=by
    rw[Array.toList_eraseIdxIfInBounds,Array.toList_setIfInBounds,hp,<-hi];simp[List.set_append,List.eraseIdx_append];intro hh;lia
  generalize((pendingOf st).setIfInBounds i zJ7).eraseIdxIfInBounds (i+1)=pq at S;let hF:∀k (I:k<qw),Ľ k=f (arrOf st)[k]:=λk I=>Qhe I;show Bg (Zi Â (Qf (VT (st:=qE3) hc I qP7 (Nd (cN oO) b) h1 hm.at (λi j hi L d c u=>by rw[<-hF,<-hF];show s1 i j d c (Ng u oO)) λk H al ak=>?_)))
  let lo1:∀j,sa<=j->j<sa+k->Ľ j<=qh2:=by
    intro j d c;let:=al qE4 Â (DS d c);simp only[bey,Ee,if_false,Fo,decide_eq_false_iff_not,show qE5 by show FP d]at this;rw[TV,TV];omega
  let U:∀j,zdd->j<sb->qh2<Ľ j:=by
    intro j d c;let:=ak qE4 Â Â Â;simp only[bey,Ee,if_false,Lg,decide_eq_true_eq,show qE5 by lia]at this;rw[TV,hF _ (Ng (MB c) b)];omega
  by_cases hz:(z-k==0)=true
  · rw[if_pos hz];show qP8;refine Qh (h jQd I hf S xrd (Ϭ p q d c u));apply Ľ p<=Ľ q
    show qP9 o q d c
    · by_cases n:p<sb
      · let O:=lo1 p d Â;show zHj q (ł o) u
      · show s2 p q SE c u
  · rw [if_neg hz];show qP8;show Bg (Zi Â (Qf (VT (st:=qE3) hc I qP7 b É hm.at (λi j hi L d c u=>by rw[<-hF,<-hF];show s2 i j d c u) λe l aj ai=>?_)));let el:sa+k+(z-k)-1=sb-1:=Ñ
    let ah:∀j,sb<=j->zf8->Ľ j<Ľ zec:=by
      intro j d c;let:=aj qE6 Â (DS d c);simp only[bey,if_true,decide_eq_true_eq,show qE7 by show FP d,el]at this;rw[hF _ (Ng (Ng c M5) b),TV];show this
    let af:∀j,sb+e<=j->j<sb+t->Ľ zec<=Ľ j:=by
      intro j d c;let:=ai qE6 Â Â Â;simp only[bey,if_true,decide_eq_false_iff_not,show qE7 by lia,el]at this;rw[TV,hF _ (Ng c b)];omega
    by_cases C:(e==0)=true
    · show zmh C;exfalso;let O:=U zec Â É;let N:=af sb Â Â;lia
    · show ŭ C;let z1:jV9=z-k:=by rw[VN gP];omega
      let z2:jVa=e:=by rw[VN wO];show E1 ..
      let W:Two f M iB iC:=by
        refine#[λi hi=>?_,λi hi=>?_,Qg3 gP λp q d c u=>s1 p q (vg d) c u,Qg3 wO λp q d c u=>s2 p q d c (Ng u M5)]
        · show jKh;rw[c];show hm.at _ d
        · show jKi;rw[c];show hm.at _ d
      let gA:∀i (hi:i<jV9),f ((arrOf st).extract Tz sb)[i]=Ľ (sa+k+i):=by
        intro i hi;show jKh;rw[c,hF _ d]
      let gB:∀i (hi:i<jVa),f ((arrOf st).extract sb zHi)[i]=Ľ (sb+i):=by
        intro i hi;show jKi;rw[c,hF _ d]
      let hT:Top f iB iC:=by
        intro i hi he x Q;let#[j,L,d,c,rfl]:=Wk wO Q;rw[gA i hi,show sa+k+i=sb-1 by lia,<-hF _ L];show Dh (ah j d c)
      let hB:Bot f iB iC:=by
        intro i hi he x Q;let#[j,L,d,c,rfl]:=Wk gP Q;subst he;rw[gB 0 hi,<-hF _ L];show Dh (U j d c)
      let fin:∀ (r:Å) (m:SortSt),Sg jQd m->Ro f iB iC r ->
          T prog w A E s (do
            modify λs=>setArr s (r.toList.zipIdx.foldl (zui (sa+k+j)) km)
            return qda) P m:=by
        rintro r m ⟨g,rfl⟩ ⟨rp,rs⟩
        let hl:=rp.length_eq;rw[NA,NC,NC,NC,z1,z2]at hl;let#[fs,X]:=QfS Tz r.toList 0 ϰ (by rw[NC];omega);simp only[Yak]at X
        let fin2:∀G:Å,G.size=qw->(∀B,G[B]?=if sa+k<=B/\B<sa+k+r.toList.length then r.toList[B-Tz]? else(arrOf st)[B]?)->P true jNb:=by
         intro G fs X;let#[mv,an]:=Kr (xs:=kJ) (sa:=sa+k) (sb:=sb) (se:=sb+e) zl1 ŗ wO rp fs X
         let key:∀p,sa+k<=p->p<sb+e->∃x∈r.toList,F f G p=f x/\∃j,Ľ j=f x/\zdd/\zf8:=by
           intro p d c;let ae:qdb:=qI0
           refine#[zL3 p,Eu _,?_,?_]
           · unfold F;rw[X p,zoh,Nj ae];rfl
           · show ů (rp.mem_iff.mp (Eu ae)) Q
             · let#[j,L,o,n,Y]:=Wk (j:=sb) gP Q;show#[j,qAg,Pe o,vQ n ŗ]
             · let#[j,L,o,n,Y]:=Wk (j:=sb+e) wO Q;show#[j,qAg,BT zl1 o,Pe n]
         let v:∀p,p<sa+k\/sb+e<=p->F f G p=Ľ p:=λp hp=>Xj (mv.out p hp);refine h jNb I hf S (mv.wide (lo':=sa) (hi':=sb+t) ŗ M5) ?_;apply So f G sa zeb;intro p q d c u
         let left:∀p j,sa<=p->p<sa+k->zdd->zf8->Ľ p<=Ľ j:=by
           intro p j o n D c4
           show qP9 c5 j o qI1
           · let O:=lo1 p o n;show zHj j (ł c5) (Ng c4 M5)
         let right:∀j q,zdd->zf8->sb+e<=q->q<sb+t->Ľ j<=Ľ q:=by
           intro j q o n D c4
           by_cases c5:j<sb
           · let O:=s1 j zec (vg o) Â Â;let N:=af q D c4;show ES O N
           · show s2 j q (ł c5) qI1 c4
         by_cases o:p<sa+k
         · rw[v p (đ o)]
           by_cases n:q<sa+k
           · rw[v q (đ n)];show s1 p q d c (Ng (Ng n qo1) oO)
           · by_cases D:q<sb+e
             · let#[x,_,Y,j,ej,j1,j2]:=key q SE D;rw[Y,<-ej];show left p j d o j1 j2
             · rw[jv5];let O:=left p sb d o zl1 Â;show zHj q (vg (ł D)) u
         · by_cases n:p<sb+e
           · by_cases D:q<sb+e
             · let ab:qdb:=qI0
               let aa:q-Tz<r.toList.length:=by rw[NC];lia
               let ep:F f G p=f (zL3 p):=by
                 unfold F;rw[X p,zoh,Nj ab];rfl
               let eq:F f G q=f (zL3 q):=by
                 unfold F;rw[X q,zoh,Nj aa];rfl
               rw[ep,eq];show Qc4 rs ab aa Â
             · let#[x,_,Y,j,ej,j1,j2]:=key p (ł o) n;rw[Y,<-ej,jv5];show right j q j1 j2 (ł D) u
           · rw[v p (õ SE),v q (õ (Nd SE c))];show s2 p q (vg SE) c u
        show ç (ZU (Qf (Yh (Qh ?_))));apply P ((failedOf st).isNone) _;rw[hf];show fin2 _ fs X
      split
      · show ç (Qck W hT hc I Â Â ?_ fin);rw[gA 0 É,gB 0 É];let:=U (sa+k+0) ŗ Â;rw[Yak sb];show Dh this
      · show Qf (Qby W hB hc I Â É hT fin)
#print"-"
set_option autoImplicit false
section
variable{f:è}{xs ys:Å}
abbrev Ch(f:è)(xs:Å):Ar->Nat->vM
 |[],a,b=>a=b
 |p::r,a,b=>p.1=a/\1<=p.2.1/\So f xs a xb1/\Ch f xs r xb1 b
def Ch.le:∀{l:Ar} {a b:Nat},kg l->a+l.length<=b
 |[],a,b,h=>by let:a=b:=h;simp;show Ny this
 |p::r,a,b,#[_,d,_,c]=>by let:=c.le;rw[NO];lia
def Ch.app:∀{d c:Ar} {a b:Nat},kg zf->∃m,qPb/\qPa
 |[],c,a,b,h=>AJ a h
 |p::r,c,a,b,#[h1,h2,j,i]=>by
  let#[m,g,e]:=i.app;show#[m,#[h1,h2,j,g],e]
def Ch.join:∀{d c:Ar} {a m b:Nat},qPb->qPa->kg zf
 |[],c,a,m,b,h,h'=>by let:a=m:=h;show cF h'
 |p::r,c,a,m,b,#[j,i,g,e],h'=>#[j,i,g,e.join h']
def So.same{i j:Nat}(h:xaj)(e:∀k,i<=k->k<j->Ł k=Ϧ k):So f ys i j:=λk l c b a=>by rw[e k c (Np b a),e l (Nd c b) a];show h k l c b a
def Ch.same:∀{l:Ar} {a b:Nat},kg l->(∀k,a<=k->k<b->Ł k=Ϧ k)->Ch f ys l a b
 |[],a,b,h,_=>h
 |p::r,a,b,#[h1,h2,i,g],e=>by
  let:=g.le;show#[h1,h2,i.same λk d c=>e k d (Ng (MB c) this),g.same λk d c=>e k (vg d) c]
def Ch.pow{l:Ar}{p q:SA}{a b:Nat}(h:kg (l++[p]))(h1:q.1=p.1)(h2:q.2.1=p.2.1):kg (l++[q]):=by
 let#[m,d,c]:=h.app;refine d.join ?_;unfold Ch at c ⊢;rw[h1,h2];show c
#print"-"
section
variable{prog:Program}{w:World}{A:Around}{E:Õ}{s:Shared}{κ:SortKind}{M:θ}{f:è}{a₀:Å}
structure R(κ:SortKind)(M:θ)(f:è)(a₀:Å)(lo:Nat)(st:SortSt):Prop where
 kind:ř
 failed:tF
 al:qF
 mv:Mv 0 a₀.size a₀ ϰ
 le:lo<=a₀.size
 ch:Ch f ϰ nX 0 lo
def GT{i lo:Nat}{st:SortSt}(U:ĥ)(h:Rr)(hi:i+1<C7) :
  ò qL8 (λb a=>pB/\Tn a/\Ca+1=C7/\∀k,lo<=k->(arrOf a)[k]?=(arrOf st)[k]?):=by
 let hl:i+1<(pendingOf st).toList.length:=zEb
 let e:nX=qfj++qm5::qj2::jZ5:=by
  rw[<-ED,<-ED,Ej]
 generalize qm5=p at e;generalize qj2=q at e;let g:((pendingOf st).toList.take i).length=i:=by rw[N4];lia
 generalize qfj=l1 at e g;generalize jZ5=Z at e;let c:=h.ch;rw[e]at c;let#[m,C,B,o,z,j,y,x,n]:=c.app;show j6 I P X p;let#[H,t,pw2]:=q;dsimp only at B o z j y x n;subst B;let Y:=n.le;let l:=h.le;let S:=h.mv.size;refine QcF U h.kind h.failed h.al e g j o y Â (Sq j z) (Sq j x) λa O N r d L=>#[rfl,#[O,N,h.al.mv d,h.mv.trans (d.wide ě Â),l,?_],?_,λk hk=>d.out k (õ Â)]
 ·rw[r];let Q:=C.le;refine(C.same λk v u=>Xj (d.out k (đ u))).join #[rfl,by dsimp only;show Nd o ŗ,?_,?_]
  ·dsimp only;rw[show I+(P+t)=H+t by lia];show L
  ·dsimp only;rw[<-FJ];show n.same λk v u=>Xj (d.out k (õ (Nd (E2 (Ny j) _) v)))
 ·let G:=RP r;let D:=RP e;simp only[NA,NO,NC]at G D;lia
def R.push{lo n:Nat}{st:SortSt}(h:Rr)(b:1<=n)(c:zI0)(a:HE jw):R κ M f a₀ jw (setPending st ((pendingOf st).push zP1)):=by
 refine#[h.kind,h.failed,h.al,h.mv,c,?_];apply Ch f ϰ ((pendingOf st).push zP1).toList 0 jw;rw[DP];show h.ch.join #[rfl,b,a,rfl]
def R.pow{lo a:Nat}{st:SortSt}(h:Rr):Tn (setPending st ((pendingOf st).modify (C7-1) λx=>tV)):=by
 refine#[h.kind,h.failed,h.al,h.mv,h.le,?_];apply Ch f ϰ ((pendingOf st).modify (C7-1) λx=>tV).toList 0 lo;let c:=h.ch;rw[Array.toList_modify]
 rcases List.eq_nil_or_concat nX with e|⟨l,x,e⟩
 ·rw[e]at c ⊢;show yq c
 ·let z:=RP e;rw[NC,OM,NA,N1]at z;rw[e,OM]at c ⊢;rw[z,Nat.add_sub_cancel]
  let:(l++[x]).modify l.length (λx=>tV)=l++[tV]:=by
   clear c z e
   induction l with
   |nil=>rfl
   |cons y l b=>show congrArg (y::·) b
  rw[this];show c.pow rfl rfl
#print"-"
set_option autoImplicit false
section
variable{prog:Program}{w:World}{A:Around}{E:Õ}{s:Shared}{κ:SortKind}{M:θ}{f:è}{a₀:Å}
def Qqc{a:Type}{m b:Ė a}{P:a->Ň}{st:SortSt}(e:m=b)(h:ò b P):ò m P:=e▸h
def Qgz{size lo n:Nat}{st:SortSt}(D:ĥ)(h:Rr)(m:1<=n)(o:zI0)(l:HE jw){P:ForInStep (xb2×Nat)->Ň}
  (u:∀a,R κ M f a₀ jw a->P zA0 a):T prog w A E s (do
   let st <-get
   match zC6 with
   | some (s1,e,_)=>do
    let t <-forIn [0:size] (HX:xb2×Unit) λ_ _=>do
     let st <-get
     match (if C7>1 then(pendingOf st)[C7-2]? else nO)with
     | some (_,_,d)=>if d<=jP1 then pure qo2 else do
       let b <-mergeAt' (C7-2)
       if(!b)=true then pure (Ĥ (sO (),()))else pure (.yield HX)
     |_=>pure qo2
    match t.1 with
    |Û r=>pure (Ĥ (sO r,lo))
    |none=>do
     modify λs=>setPending s ((pendingOf s).modify ((pendingOf s).size-1) λx=>(x.1,x.2.1,jP1))
     jJ5
     pure zA0
   |_=>do
    jJ5
    pure zA0) P st:=by
 show ç kW;cases S:zC6 with
 |none=>show Qf (ZU (Qh (u _ (h.push m o l))))
 | some p=>
  show j6 s1 e H p;show Ax (yz (VX (I:=λx c a=>jyg) (Q:=λc a=>jyg) ?_ (MX q) #[rfl,h,l]))
  ·rintro x c a _ _ ⟨rfl,i,g⟩
   show ç kW
   by_cases j:Ca>1
   ·rw[Ð j];cases O:(pendingOf a)[Ca-2]? with
    |none=>show Ţ zL4
    | some B=>
     show(j6 G L d B,zYg)
     ·show Ţ zL4
     ·show ç (yz (GT D i Â))
      rintro b v ⟨rfl,z,_,y⟩
      show ϐ #[rfl,z,g.same λk C N=>Xj (y k C)]
   ·rw[Í j];show Ţ zL4
  ·show zg7 a i g
   show Qf (ZU (Qf (ZU (Qh (u _ (i.pow.push m o g))))))
def QaA{st:SortSt}{P:zpg}(u:ĥ)(hk:ř)(hf:tF)(hm:Al M a₀)(O:kJ=a₀)(hp:pendingOf st=#[])
  (h:∀a,(arrOf a).Perm a₀->failedOf a=nO->So f zK1 0 a₀.size->P () a):T prog w A E s sortRuns' P st:=by
 rw[sortRuns'_eq];show Bg kW;rw[O];show ç (yz (VX (I:=λx c a=>∃lo,c=(nO,lo)/\Tn a/\min x a₀.size<=lo) (Q:=λc a=>c=(nO,a₀.size)/\wI) ?_ ?_ #[0,rfl,#[hk,hf,O▸hm,O▸zUc,NN _,by rw[hp];rfl],by show IP _ _]))
 ·rintro x c a _ hx ⟨lo,rfl,q,N⟩
  dsimp only;let g:=q.le;let aa:=q.mv.size
  by_cases j:lo >= a₀.size
  ·rw[Ð j];let:qUj:=pp g j
   subst this;show Ţ (yV q)
  ·rw[Í j];show Bg (QiV u q.kind q.al Â Â λm X L ab mv hs=>?_)
   let Z:∀{n:Nat} {y:Å},zI0->Mv lo jw zK1 y->Tn (setArr a y):=λ{n y} hn z=>
    #[q.kind,q.failed,q.al.mv z,q.mv.trans (z.wide ě hn),g,q.ch.same λk k1 k2=>Xj (z.out k (đ k2))]
   by_cases o:m<minRun' a₀.size a₀.size 0
   ·rw[Ð o];show ç qL4;let z:=mv.size;show ç (Qfv (st:=setArr a X) u q.kind (q.al.mv mv) (show lo+zt5<=X.size by lia) (show m<=zt5 by omega) hs (Ï y C H));show zF9;refine Qqc ?_ (Qgz (size:=a₀.size) (n:=zt5) u (Z (n:=qV0) Â (mv.trans (C.wide ÿ É))) Â Â H jlc)
    show jC6
   ·rw[Í o];refine Qqc ?_ (Qgz (size:=a₀.size) (n:=m) u (Z (n:=qV0) Â (mv.wide ÿ ÿ)) L Â hs jlc)
    show jC6
 ·rintro c a ⟨lo,rfl,q,N⟩
  let g:=q.le;let:qUj:=Ñ
  show cF zSb
 ·rintro c a ⟨rfl,q⟩
  show Ax (yz (VX (I:=λx c a=>tO/\wI/\Ca<=a₀.size-x) (Q:=λc a=>tO/\wI/\Ca<=1) ?_ ?_ #[rfl,q,?_]))
  ·rintro x c d _ hx ⟨rfl,r,G⟩
   show ç kW
   by_cases S:qx7<=1
   ·rw[Ð S];show ϐ #[rfl,r,S]
   ·rw[Í S]
    let go:∀i,i+1<qx7->T prog w A E s (do
      let b <-mergeAt' i
      if(!b)=true then pure (zb7 (sO (),()))else jAg) (λr a=>match r with|.done v=>v=HX/\wI/\Ca<=1|.yield v=>v=HX/\wI/\Ca<=a₀.size-(x+1)) d:=by
     intro i hi;show ç (yz (GT u r hi))
     rintro b B ⟨rfl,r1,r2,_⟩
     show ϐ #[rfl,r1,Ñ]
    refine QY (go _ ?_) ?_
    ·repeat' split
     all_goals omega
    ·rintro(v|v) B Y
     ·show Y
     ·show Y
  ·show zg7 d r G
   show#[rfl,r,Ñ]
  ·let:=q.ch.le;show pH;omega
  ·show zg7 d r G
   refine Qh (h d r.mv.pm r.failed ?_);let c:=r.ch;let D:(pendingOf d).toList.length<=1:=ĝ G
   match e:(pendingOf d).toList,D with
   |[],_=>
    rw[e]at c;let:0=a₀.size:=c;intro k l q1 q2 q3;lia
   |[p],_=>
    rw[e]at c;show ŧ c1 c2 c3 c4 c;let U:0+p.2.1=a₀.size:=c4;rw[U]at c3;show c3
#print"-"
def pw2{a:Type}{R:a->a->Prop}:∀{l:À a},l.length<2->l.Pairwise R
 |[],_=>.nil
 |[_],_=>List.pairwise_singleton _ _
set_option autoImplicit false
section
variable{prog:Program}{w:World}{A:Around}{E:Õ}{s:Shared}
def QeV{a:Addr}{vs:È}{n:Nat}{κ:SortKind}{f:Value->Int}{P:PySem.Fin->Ω}(D:gY=sO (seqObj "list" vs.toArray n))(hz:zCf)
  (hk:zMi->∀g:Heap,zjd->jk9)
  (hc:∀g:Heap,zjd->∀x∈vs,∀y∈vs,jbe A)
  (h:∀(g:Heap) (tk c:Nat) (us:È),fg->zl3->zjd->AK g=sO jP2->zWd P (.done jTb) g) :
  CH A (Builtin.«list.sort» zgi) P E s:=by
 let la:a<s.heap.objs.size:=NL D;obtain⟨H,g1⟩:∃H,(s.heap.update a zjf).get? a=qkc:=#[_,get?_update_seq D λ_=>#[]]
 rw[list_sort_plain];show Ë (listItems_at D rfl (Nc (listUpdate_at D rfl ?_ (by rw[Nz];show hz) ě)));show Ë (seqEpoch_at g1 rfl (Nc (wpAny_newTuple ?_ (by apply vs.length<=_;show hz))));show Ë (Lp (Es ?_) ě);apply wpAny Ņ A _ P E { s with heap:=jD2 };let v:∀b o,b≠a->ji->(((s.heap.update a zjf).push ztj).push uQ).get? b=sO o:=λb o G e=>ŕ (Nt _ (qKf G));let g2:(((s.heap.update a zjf).push ztj).push uQ).get? a=qkc:=ŕ (Nt _ g1);generalize jD2=g at v g2;dsimp only
 let fin:∀(st:SortSt) (tk:Nat) (us:È),fg->zl3->(arrOf st).map (·.2)=us.toArray->tF->wpAny Ņ A (do
   let l:=(<-seqEpoch a) != H
   Builtin.List.listUpdate ĭ λ_=>(arrOf st).map (·.2)
   if let sO e:=xb0 then rule "list.sort.comparison-raised";throw e
   if l then rule "list.sort.modified";raiseError "ValueError" "list modified during sort"
   ret .none) P E { s with heap:=g,toks:=tk }:=by
  intro st tk us U u2 q1 q2;rw[q1,q2];show Ļ (seqEpoch_at g2 rfl (Nc (listUpdate_at g2 rfl ?_ ě (by rw[Nz,U.length_eq];show Nd hz ŗ))));simp only[bne_self_eq_false,Ee,if_false];refine Nl ?_;show h _ tk _ us U u2 (λb o G e=>(EM _ _ (EO G)).trans (v b o G e)) (get?_update_seq g2 λ_=>us.toArray)
 by_cases r:vs.toArray.size<2
 ·rw[Ð r,Ð r];show Ë ϻ;rw[StateT.run_pure];let hl:vs.length<2:=by rwa[Nz]at r
  show Ë (Nl (fin (SortSt.mk' general' (vs.toArray.zip vs.toArray) #[] 7 nO) s.toks vs (List.Perm.refl _) ?_ ?_ rfl))
  ·show pw2 hl
  ·apply(vs.toArray.zip vs.toArray).map (·.2)=vs.toArray;refine' Array.ext
   ·simp
   ·intro i h1 Y;simp
 ·rw[Í r,Í r];let Y:zMi:=by rw[Nz]at r;show NQ.mp r
  show Ļ (N7 (hk Y g v (λm I=>m=κ/\I={ s with heap:=g }) jp) (Ϗ m I z) AH);show cM z;let hC:Cmp prog w A { s with heap:=g } m (λp=>p.1=p.2/\p.1∈vs) qL9:=λx y B hy tk C q=>hc g v x.1 B.2 y.1 hy.2 tk C q;show Ļ (N7 (QaA (E:=E) (P:=λ_ d=>(arrOf d).Perm qLa/\failedOf d=nO/\So qL9 (arrOf d) 0 qAh) (st:=SortSt.mk' m qLa #[] 7 nO) (a₀:=pairsOf vs) hC rfl rfl (λx B=>by rw[pairsOf_toList]at B;show Yao B) rfl rfl (λd u M L=>ź u M L) s.toks) ?_ xx)
  rintro⟨⟨⟩,d⟩ I ⟨⟨t,rfl⟩,u,M,L⟩
  let pl:(arrOf d).toList.Perm (vs.zip vs):=by rw[<-pairsOf_toList];show DN.mp u
  let N:(arrOf d).size=qAh:=u.size_eq;refine fin d t ((arrOf d).toList.map (·.2)) ?_ ?_ ?_ M
  ·let:=pl.map (·.2);rwa[List.map_snd_zip ÿ]at this
  ·rw[LC,DT];intro i j X O S;rw[NC]at X O;let q:=L i j ě (NF S) (Ng O (Ny N));rw[Qhe X,Qhe O]at q;let m1:=jP3 i;let m2:=jP3 j;apply f (arrOf d)[i].2<=f (arrOf d)[j].2;rw[<-m1.1,<-m2.1];show q
  ·refine' Array.ext';simp
def sorted_any{l:Addr}{vs:È}{κ:SortKind}{f:Value->Int}{Q:Õ}(p:qh3)(hz:zCf)
  (q:zMi->∀(A:Around) (g:Heap),zk3->jk9)
  (r:∀(i:Around) (g:Heap),i=A.in1.in1->zk3->∀x∈vs,∀y∈vs,jbe i)
  (h:∀(D:Addr) (g:Heap) (tk c:Nat) (us:È),fg->zl3->zk3->jF6) :
  ù jN8:=by
 refine jK8;unfold Builtin.«sorted»;refine Nc (m:=qic) ϻ;show(Ë (collect_list p ?_ hz),Ë (Lp ?_ hz))
 let a:((s.heap.push uQ).update s.heap.objs.size (Obj.mapSeq (·++vs.toArray))).objs.size=C9:=by
  rw[Heap.size_update,size_push']
 let d:(((s.heap.push uQ).update s.heap.objs.size (Obj.mapSeq (·++vs.toArray))).push uP).get? jM=sO uP:=by
  rw[<-a];show ų
 let old:∀b o,ji->(((s.heap.push uQ).update s.heap.objs.size (Obj.mapSeq (·++vs.toArray))).push uP).get? b=sO o:=λb o e=>
  ŕ ((EM _ _ (EF Cz)).trans kC)
 apply wpAny _ _ _ _ _ { s with heap:=((s.heap.push uQ).update s.heap.objs.size (Obj.mapSeq (·++vs.toArray))).push uP };rw[a];let ne:∀b o,ji->b≠C9:=λb o e=>NS (Fl Cz)
 refine Nc (Es (EH slot_list_sort zhj entry_list_sort (QeV (A:=A.in1.in1) (κ:=κ) (f:=f) (s:={ s with heap:=((s.heap.push uQ).update s.heap.objs.size (Obj.mapSeq (·++vs.toArray))).push uP }) d hz
  (λu g kp=>q u _ g jAi) (λg kp=>r _ g rfl jAi) λg tk c us n j kp hD=>Mc) qre))
 show ϩ #[_,rfl,h _ g tk c us n j (λb o e=>jK9) Tq hD]
#print"-"
#print"-Ts"
namespace Sb
open L2 PySem.W SeqAt
section
variable{prog:Program}{w:World}{A:Around}{E:Õ}{s:Shared}{b:Bool}{Q:Sm}
def Qft(hu:qI)(i:Nat)(hi:(b&&i==0)=false)(p:Hu)(q:Tb)(r:zvf)(t:zvg)(h:Q zzj s):KatLex prog w A b false Q zMf i s:=by
 induction p generalizing ls us vs i with
 |nil=>show B7 q r;cases t;show kat_nil h
 |@cons _ k _ ks o y x=>
  show jd9 j d e;rw[FZ];refine kat_cons (Ql7 n A hu k m u v (uk d) (uk a) _ _ _ _ ?_);show jhd (x (i+1) Ç g f e h)
  ·show jmh;rw[hi];show kat_one u v (Qpe n A hu _ k m u v o j d a _ _ _ _ h)
abbrev ty0:Sh->String
 |.i=>"int"
 |.s=>"str"
 |.t _=>"tuple"
 |.l _=>"tuple"
def Qml (hu:A.units+(n+1)<cLine) (p:jZ2 x) (q:jZ2 y) (r:lK (n+1) x u) (t:lK (n+1) y v) (h:Q (ltN (n+1) x y) s) :
  ù (keyLt' (tuples' jQ1) u v):=by
 let#[M,rfl,p]:=p;let#[ls,rfl,q]:=q;let#[a,z,rfl,P,r]:=r;let#[b,j,rfl,O,t]:=t;let N:=QgG p q r t;let#[o1,Y,_,n1,X]:=P;let#[Z,U,_,n2,S]:=O;refine kat_lt Y X U S ?_;rw[N];simp only[N2,decide_false];simp only[ltN]at h;generalize z.toList=C at r;generalize j.toList=B at t;cases p with
 | cons g L=>
  cases q with
  | cons o I=>
   cases r with
   | cons f H=>
    cases t with
    | cons d D=>
     rename_i k M m ms u C v B;rw[FZ];refine kat_cons (Ql7 n A Â k m u v (uk f) (uk d) _ _ _ _ ?_);show jhd (Qft Â 1 Ç L I H D h)
     ·show jmh;cases n with
      |zero=>show jB g
      | succ n=>
       cases sh0 with
       |i=>
        show(Am g o,Ϯ f G d);refine oneLt_int ?_;show tj
       |s=>
        show(Am g o,Ϯ f G d);refine oneLt_str ?_;show tj
       |t l=>show jGf
       |l e=>show jGf
def QeF:∀(vs:È),(∀v∈vs,∃t,IsQ h (n+2) t v/\Wf (n+2) jLd t)->∃fs,KatTups h vs fs/\fs.length=vs.length/\∀f∈fs,Looks Ņ h (typeOf f) (.type qx8):=by
 intro vs
 induction vs with
 |nil=>
  intro _;show#[[],trivial,rfl,λ_ m=>BK m]
 | cons v vs H=>
  intro D;let#[t,r,p]:=D v Nw;let#[fs,f1,f2,N]:=H (BJ b M D);let#[G,rfl,p]:=p;let#[a,j,rfl,#[o,I,L,l,hd],r]:=r;obtain⟨z,rfl⟩:∃z:È,j=z.toArray:=#[j.toList,Ê]
  rw[FO]at r;cases p with
  | cons y P=>
   cases r with
   | cons q O=>
    rename_i k G u z;refine#[u::fs,KatTups.cons I L hd Ç f1,yh f2,Ò f m]
    show ϲ m
    ·cases sh0 with
     |i=>
      show jd4
     |s=>
      show jd4
     |t l=>
      show jld
     |l e=>
      show jld
    ·show N f m
open Classical in
abbrev trV(h:Heap)(v:Value):Tr:=if x:∃t,sG then x.choose else .i 0
def WB(x:sG):trV h v=t:=by
 let a:∃t,sG:=ĺ t x
 unfold trV;rw[z6 a];show Gf _ _ _ (Yk _ _ a.choose_spec) (uk x)
noncomputable abbrev QdQ(h:Heap)(us:È):Prop:=us.Pairwise λx y=>zI1 y x=false
noncomputable abbrev QcN(h:Heap)(sh0:Sh)(shs:List Sh)(vs:È):Prop:=∀v∈vs,∃t,sG/\Wf 8 jLd t
def Qcg(i:qE8)(e:x∈vs)(d:y∈vs):(n6 x<n6 y)↔zI1 x y=true:=
 rk_lt (sh:=.t zZb) (λt g=>by
  show jk v f g;let#[t,c,a]:=i v f
  rw[WB c];show a) (N3 e) (N3 d)
def Qes(e:qE8)(p:fg)(o:us.Pairwise λx y=>(n6 x:Int)<=n6 y):QdQ h us:=by
 refine LW ?_ o;intro x y d a f;cases c:zI1 y x with
 |false=>rfl
 |true=>
  let:=(Qcg e (CQ a) (CQ d)).mpr c;lia
def sorted_tups{Q:Õ}(hu:qE9)(G:qh3)(hz:zCf)(a:QcN s.heap sh0 shs vs)
  (h:∀(D:Addr) (g:Heap) (tk c:Nat) (us:È),fg->QdQ s.heap us->Ex s.heap g->jF6) :
  ù jN8:=by
 refine Ts.sorted_any (κ:=tuples' jQ1) (f:=λv=>(zvi v:Int)) G hz ?_ ?_ λD g tk c us p o k hD H=>h D g tk c us p (Qes a p o) k hD H
 ·intro L P g kp U j
  let#[fs,f1,f2,M]:=QeF (prog:=prog) (w:=w) (h:=g) (n:=6) vs λv B=>by
   let#[t,i,d]:=a v B;show#[t,Kw kp _ _ i,d]
  show kat_kind (s:={ s with heap:=g }) f1 (Ng (Ng à L) (ħ f2)) M Ç j
 ·rintro P g rfl kp x q y m tk C I
  let#[i,u,O]:=a x q;let#[d,r,N]:=a y m;refine Qml (n:=7) (s:={ s with heap:=g,toks:=tk }) (by apply CL+1+8<cLine;lia) O N (Kw kp _ _ u) (Kw kp _ _ r) ?_
  let e:decide ((zvi x:Int)<zvi y)=ltN 8 i d:=by
   let:=Qcg a q m;rw[WB u,WB r]at this ⊢;cases c:ltN 8 i d with
   |true=>rw[decide_eq_true_eq];let:=this.mpr c;lia
   |false=>
    rw[decide_eq_false_iff_not];intro z;let:=this.mp É;show Bv c
  let:=I tk;show sF e
#print"-"
#print"-Sb"
namespace Mi
open L2 Sb
set_option backward.eqns.deepRecursiveSplit false in
abbrev plN:Nat->zMa
 |0,_=>nO
 |_+1,Ä i=>sO (.i i)
 |_+1,Æ x=>sO (.s x)
 |n+1,Ĩ=>(ws.mapM (plN n)).map .t
 |_+1,_=>nO
set_option backward.eqns.deepRecursiveSplit false in
mutual
abbrev toW:Tr->W
 |.i n=>Ä n
 |.s x=>Æ x
 |.t ks=>Ì (Qj5 ks)
abbrev Qj5:Ŧ->À W
 |[]=>[]
 |k::ks=>toW k::Qj5 ks
end
set_option backward.eqns.deepRecursiveSplit false in
abbrev plL:À W->Option (List Tr)
 |[]=>sO []
 |Ĩ::r=>(plN 8 BP).bind λt=>(plL r).map (t::·)
 |_::_=>nO
def mapM_cons(e:(a::l).mapM f=sO ks):∃k r,f a=sO k/\l.mapM f=sO r/\ks=k::r:=by
 rw[De]at e;show(ļ c g i e,ļ b d h i,ß (show sO (c::b)=sO ks from h) #[_,_,g,d,rfl])
def Qm7:∀(n:Nat) (w:W) (t:Tr),qV1->w=toW t:=by
 intro n
 induction n with
 |zero=>
  intro _ _ e;show zg8
 | succ n f=>
  intro w t e;cases w with
  |int i=>show RD;simp[toW]
  |str x=>show RD;simp[toW]
  | tup a=>
   show(zUd,Cq b c e);rw[toW];congr 1;clear e
   induction a generalizing b with
   |nil=>cases(zLj b c);rw[Qj5]
   |cons w a d=>
    let#[k,r,h,g,rfl]:=mapM_cons c;rw[Qj5,<-f w k h,<-d r g]
  |_=>show zg8
section
variable{X:Cx}{pins:Ö}{σ:L2.St}{H:Hp}{s:Shared}{R:Rn}{h:MH}
def QnF(I:Ù)(z:ζ):∀(n:Nat) (w:W) (v:V) (u:Value) (t:Tr),xG->qV1->ô v->lK n t u:=by
 intro n
 induction n with
 |zero=>
  intro _ _ _ _ _ e _;show zg8
 | succ n E=>
  intro w v u t r e b;cases w with
  |int i=>
   show RD;rw[r.int_eq]at b;show b
  |str x=>
   show RD;rw[r.str_eq]at b;show b
  | tup g=>
   show(zUd,xJ l m L e,zb2 a p q d z);cases b;show xo c j G q;refine#[a,c.toArray,rfl,pl,?_];rw[FO];clear e r q pl G
   induction g generalizing l p c with
   |nil=>
    show(Ϙ d,B7 (zLj l m) j,.nil)
   |cons x g D=>
    let#[C,f,P,O,rfl]:=mapM_cons m;show ϕ d y o B A;cases j with
    |cons N M=>show Ē (E x y _ C B P N) (D f O o A _ M)
  |_=>show zg8
abbrev Qny(K:Nf)(R:Rn)(g:Heap)(t:Tr)(u:Value):Prop:=∃a,u=Ã a/\IsQ g 8 t u/\ui (toW t) ĭ
def QmP(I:Ù)(d:ζ):∀{ws:À W} {b:Ŧ} {xs:À V} {us:È},plL ws=sO b->zHb->ϟ->Paired (Qny X.K R s.heap) b us/\ws=b.map toW:=by
 intro ws
 induction ws with
 |nil=>
  intro b xs us e r v;cases e;show(Ϙ r,ß v #[.nil,rfl])
 | cons w ws m=>
  intro b xs us e r v;cases w with
  | tup u=>
   unfold plL at e;show(ļ t g q e,Cq j p q,ϕ r y x c l);cases v with
   |cons v1 i=>
    let#[o,n]:=m p l i;let#[a,xs,rfl,_]:=d.tupAt c;let f:=Qm7 8 _ _ g;refine#[Ē #[a,v1,QnF I d 8 _ _ _ _ c g v1,by show PN f c] o,?_];rw[NH,<-f,<-n]
  |_=>simp[plL]at e
def Qax{l₁:À e}{l₂:À d}(p:Cl F):∀y∈l₂,∃x∈l₁,F x y:=by
 induction p with
 |nil=>show λ_ h=>BK h
 |cons r t c=>
  intro y h
  show ϲ h
  show Š #[_,Nw,r]
  ·let#[x,b,a]:=c y h;show#[x,ϧ b,a]
def Ql0{K:Nf}:∀{a:Ŧ} {us:È},Paired (Qny K R g) a us->us.map (trV g)=a:=by
 intro a us p
 induction p with
 |nil=>rfl
 |cons h t b=>let#[_,_,q,_]:=h;rw[NH,b,WB q]
def QiU{K:Nf}:∀{us:È},(∀u∈us,∃t,Qny K R g t u)->∃xs:À V,ϟ/\(∀R',ω->Rws K R' ((us.map (trV g)).map toW) xs)/\qsc:=by
 intro us
 induction us with
 |nil=>
  intro _;show#[[],.nil,λR' _=>pD,rfl]
 |cons u us i=>
  intro hu;let#[t,a,rfl,q,r]:=hu u Nw;let#[xs,e,d,c]:=i λf j=>hu f (Φ j);refine#[Ã a::xs,.cons rfl e,Ò R' b,yh c];rw[NH,NH,WB q];show Rws.cons_iff.mpr #[_,_,rfl,BI b r,d R' b]
#print"-"
abbrev One(c:Ŧ):Prop:=∃b a,∀t∈c,Wf 8 (.t (b::a)) t
open Classical in
abbrev XQ(ws:À W)(h:MH):Ü:=match ws with
 |[a]=>(lsW h a).bind λc=>(plL c).bind λb=>if One b then sO (İ h,h++[Î ((srtT b).map toW)])else nO
 |_=>nO
section
variable{X:Cx}
def Ur(hu:Ż):CallR X zx8 (Fs X.K XQ):=by
 intro M s σ H P b Q I r q;let#[R,h,ws,w,h',C,y,e,k]:=q;unfold XQ at e;split at e
 ·show jl9 n E
  ·rename_i l;show pI i f l;cases E;show(BF v r1 y,vc P q1 r2 C r1 e1);let#[u,rfl,ru]:=Kk r;cases ru;let#[d,G,pl,hl]:=Ρ q1;let#[L,_]:=QmP I C e3 r2 G;let N:∀u∈d,∃t∈n,Qny X.K R s.heap t u:=Qax L;let j:d.length<=sizeLine:=by show(B5 G,hl)
   refine Sb.sorted_tups (sh0:=i) (shs:=f) (vs:=d) (by first|show Ea jHg hu|(apply ci+12<cLine;omega)) pl.isList j (λu hu=>?_) λD g tk c b p o kx hD hg=>?_
   ·let#[t,t1,a,_,x,_]:=N u hu;show#[t,x,l t t1]
   ·let#[m,Y,U,S]:=QiU (us:=b) (g:=s.heap) (K:=X.K) (R:=R) λu hu=>let#[t,_,x]:=N u (p.mem_iff.mp hu);#[t,x]
    let pt:(b.map mj).Perm n:=by
     rw[<-Ql0 L];show p.map _
    let eq:srtT n=b.map mj:=Qi9 l pt (LC.mpr o);rw[eq]at k;let hp:=I.hok.fresh hD;let#[R3,O,B,z]:=C.new (mo:=Î ((b.map mj).map toW)) (o:=Î m) hp (ş R' Z #[_,rfl,U R' Z])
    refine#[Ã D,_,I.laid (t':=tk) kx hD (nc tK  #[?_,b,c,Y,hg]),rfl,j7 R3 O B z];rw[S,p.length_eq];show j
  ·cases E
 ·cases e
#print"-"
#print"-Mi"
namespace L2
abbrev Itq(a:Addr)(n:Nat):It:=#[λi H=>i<n/\jAj,λi H x c=>c=H/\∀b,qga->∃p,b[i]?=sO p/\x=vx p,λi H=>n<=i/\jAj]
def Qcf(I:Ĝ c)(e:H a=cP) :
  ∃es:TQ,RawD s.heap a es kx.length/\qAi/\wL/\∀(i:Nat) p,kx[i]?=sO p->∃hi:zTj,zU0=vx p:=by
 let#[z,y,u,r,o,es,x,t,n,m,f,v,l]:=I.hok _ _ e;let j:=N6 r;let b:qAi:=by rw[<-NC,f,ND,j]
 refine#[es,#[o,t,n,by rw[m,l,b]],b,y,Ï i p d];let hi:zTj:=by rw[b];show(Nk.mp d).1
 let#[q,h,g]:=JY r d;refine#[hi,?_];let:es.toList[i]?=sO (entryOfKey zG2 q):=by rw[f,NB,h];rfl
 rw[N5,NW hi]at this;rw[NY this,g.2.1];rfl
def Qls{K:Nf}(a it:Addr)(n:Nat):Turn P w K tg (Itq a n) [it] it (λi h=>i<=n/\h.IsKeyIter it a i n n) where
 mem:=Ê
 obj:=λi h st b j=>by
  show zgg
 keep:=jI1 A
 item:=by
  intro X G hw L Z i f s S H E I y st D;subst G hw L;show(jd6,qx9,sK p U B i #[B[i]'(Ng x zh8),Nj _])
  show jd2;let#[C,ek]:=Y i p U;show zei;rw[u]at q l;refine Qac (es:=m) (ep:=n) qo6 q C λA g sb=>?_;rw[l]at g;let I1:Hm f S A:=I.turned (t':=s.toks) (λb o j e=>(sb.2 b j).trans e) Q f1 O N M;show TY g;refine#[m[i].key,rfl,ip A #[vx p,H,I1,ek,#[rfl,λaa r=>?_],ĺ x g,qU j y]];rw[t]at r;show ß r #[p,U,rfl]
 done:=by
  intro X G hw L Z i f s S H E I y st D;subst G hw L;show jd6;obtain rfl:i=n:=Er st.1 x;show(qx9,jd2,zei);rw[u]at q l;show QdB (es:=m) (ep:=i) (u6 Z) qo6 q λA eb=>#[rfl,I.turned (t':=s.toks) zhe Q f1 O N M]
 self:=λ_ _ _ _ _ st h=>OT st.2 h
#print"-L2"
namespace Mi
open L2
abbrev ZA(m:ME):MI:=λb h=>(m b h).bind λp=>match p.1 with
 |Ã n=>match p.2[n]? with|jf2=>sO (a.map (·.1),sO bV,p.2)|_=>nO
 |_=>nO
def Qfr{K:Nf}(o:n<R.N):ItOk K R (Itq œ ws.length) ws (sO bV) where
 go:=λi w s h H x b g e=>by
  show zl4;rw[zW9]at a;refine#[ú e,c,a,?_];rw[<-N6 j,<-l,ND]
 yld:=λi w s h H x D e b g u A=>by
  show(jt B A,zl4);rw[e.ρ n o]at a;let#[p,z,rfl]:=B c a;rw[<-l,NB]at u;show Cq q v u;let#[C,t,y]:=JY j v;rw[z]at t;show ß t #[s,BH,b,y.1]
 stop:=λi s h H x b g r=>by
  show zl4;rw[zW9]at a;show#[r,c,a,by rw[<-N6 j,<-l,ND]]
section
variable{X:Cx}{tg a:Expr}{ma:ME}
def Qdd(Q:χ):PF a (ZA ma):=by
 intro i s B H C I q;let#[R,r,h,items,u,Y,D,st,e,k]:=q;show ϔ w p e1 l e;show jf (Q i s B H (λv H1=>∃R1 n j c,Ϩ R1/\Rh X.K R1 p H1/\v=Ã bQ/\n<R1.N/\p[n]?=sO (yo c)/\H1 bQ=sO (.dT j)/\items=c.map (·.1)/\j.length=items.length/\u=sO bV/\Y=p) I #[R,r,h,w,p,D,st,e1,Ϻ v t f z]) (Ï v m #[x,H1,I1,G,R1,n,j,c,t,f,M,g,y,L,ei,Z,A,eh])
 ·cases w with
  |ref n=>
   show zQ0 l
   ·show(BW c y l,wP j U S f y,zG z g);show#[R1,n,j,c,t,f,rfl,g,y,U,rfl,by rw[<-N6 S,ND],rfl,rfl]
   ·cases l
  |_=>cases l
 ·subst M A eh;cases G;let#[A,E,O,lo,hk]:=Qcf I1 L;refine GQ lo E ?_;refine#[m.heap.objs.size,TZ m,_,Itq bQ items.length,H1,rfl,wq m,Qls bQ _ items.length,#[NN _,_,ų,rfl,?_],Ò b P,BZ t f (Qfr g)]
  ·rw[<-Z,O];rfl
  ·show zji m P
#print"-"
open Sb
abbrev U3(a b:W)(h:MH):Ü:=(Ks h a).bind λc=>(nrm b).bind λk=>(XX c k).map λv=>(v,h)
section
variable{X:Cx}{o i e a b:Expr}{mo mi mv ma mb:ME}{pos pos':Pos}
def QlI(hu:Ż)(ha:χ)(hb:kt)(hs:Qox b):ì R7 (Qc U3 ma mb):=by
 intro d s C H Q I q;refine QdA LG.lookup hs (Č (ha d s C H _ I li) u P j);show ı x U q1 j;refine thn (hb d P C H1 _ I1 q1) λiv s2 j=>?_;let#[y,H2,I2,S,R,h,a,b,w,h',l,D,Z,e,k]:=j;unfold U3 at e;let#[aa,e1,e2]:=Ĺ e;show je E e3 e4 e2 v g e6;cases e6;show zDf;let#[kx,xs,hx,dr,zl,lo,Y,dd]:=Yy I2 l hn;show(TH f I2 l Z S e3,jv3 D U);let G:=YJ (k:=E) Y;refine#[dd.typeIs,?_]
 rcases KL (k:=E) dr with z|⟨w',O,N,M,L⟩
 ·rw[z.1]at g;cases g
 ·show ä N g;rw[M]at G;let#[u',r,m]:=RelO.some_of G;show(xJ p B t r,wpAny_getItem_heap zb3 f dd B #[O,H2,I2.tok _,m,qpd l L])
#print"-"
def Qnc{a:Type}(l:À a):∀k:Nat,(List.replicate k l).flatten.length=l.length*k:=by
 intro k
 induction k with
 |zero=>
  show rfl
 |succ k b=>
  rw[EI,Df,NA,b,Nat.mul_succ];show LO _ _
def Qin{K:Nf}{R:Rn}{ws:À W}{xs:À V}(r:Κ):∀k:Nat,Rws K R (List.replicate k ws).flatten qd4:=by
 intro k
 induction k with
 |zero=>
  unfold Rws;rfl
 |succ k a=>
  rw[EI,EI,Df,Df];show Rws.append r (a)
abbrev YL(C:Addr)(h:MH)(w:W):Option (List (Str×W)):=match w with
 |Ã n=>match h[n]? with|some (.ins a fs)=>if a=C then sO fs else nO|_=>nO
 |_=>nO
set_option backward.eqns.deepRecursiveSplit false in
abbrev Gx(f:Str)(v:W):ž W->ž W
 |[]=>zYh
 |qS7=>if g=f then(g,v)::r else(g,x)::Gx f v r
abbrev ZR(C:Addr)(f:Str)(a:W)(h:MH):Ü:=(YL C h a).bind λfs=>(fs.lookup f).map λw=>(w,h)
abbrev Ww(C:Addr)(f:Str)(o v:W)(σ:MSt)(h:MH):yc:=match o with
 |Ã n=>(YL C h Η).bind λfs=>if tx then sO (Ĕ σ qaj)else nO
 |_=>nO
abbrev Xu(C:Addr)(f:Str)(mo mv:ME):SM:=λa h=>(mv a h).bind λv=>(mo a v.2).bind λo=>Ww C f o.1 v.1 a o.2
abbrev Jt(C:Addr)(m:Str)(n:Nat)(g:FM)(mo:ME)(ms:MA):ME:=λb h=>(mo b h).bind λo=>(YL C o.2 o.1).bind λfs=>if(fs.lookup m).isNone then
 (ms b o.2).bind λa=>if(o.1::a.1).length=n then g (o.1::a.1) a.2 else nO else nO
abbrev Wl(C:Addr)(n:Nat)(g:FM)(ms:MA):ME:=λb h=>(ms b h).bind λa=>if a.1.length+1=n then
 (g (.ref zRf::a.1) (a.2++zvj)).bind λr=>match r.1 with|.non=>sO (.ref zRf,r.2)|_=>nO else nO
section
variable{K:Nf}{R:Rn}{h:MH}{H:Hp}
noncomputable abbrev FR(K:Nf)(R:Rn):ž W->ž V->Prop:=Paired zs4
def FR.get(r:lm b)(e:pb f=sO w):∃v,b.lookup f=sO v/\ë w:=by
 induction r with
 |nil=>cases e
 |@cons p q fs b z t d=>
  show jfb c;cases a:f==g with
  |true=>rw[a]at e;show uv e (AJ y c)
  |false=>rw[a]at e;show d e
def FR.none(r:lm b)(e:pb f=nO):b.lookup f=nO:=by
 induction r with
 |nil=>rfl
 |@cons p q fs b z t c=>
  show jfb d;cases a:f==g with
  |true=>show ä a e
  |false=>rw[a]at e;show c e
def FR.put(r:lm a)(z:ë w):FR K R (Gx f w fs) (Wp f v a):=by
 induction r with
 |nil=>show .cons zi3 .nil
 |@cons p q fs a y t c=>
  show(jw0 e d,jt b y);unfold Gx Wp;split
  ·show Ē zi3 t
  ·show Ē (yV b) c
def Ge(c:Ą)(e:YL C h w=sO fs)(r:ë w):∃n b a,w=Ã n/\n<R.N/\gj/\H œ=sO (.ins C b a)/\lm a:=by
 unfold YL at e;split at e
 ·show ll n e
  ·rename_i l j d;split at e
   ·rename_i f;show ym f e;let#[b,a,i,g]:=kO c d;show(ż r,#[n,b,a,rfl,r.1,r.2,i,g])
   ·cases e
  ·cases e
 ·cases e
def Qc7(i:Ą)(e:Ww C f o v σ h=sO r)(g:ui o x)(t:ui v y):∃n c a fs,o=Ã n/\n<R.N/\x=Ã œ/\H œ=sO (.ins C c a)/\a.length<1000/\r=.nx σ qaj/\lm a:=by
 unfold Ww at e;split at e
 ·rename_i n;let#[fs,s,b]:=Ĺ e;split at b
  ·show Β j b;let#[u,c,a,q,p,m,l,d]:=Ge i s g;show ß q #[n,c,a,fs,rfl,p,m,l,by rw[<-N6 d];show j,rfl,d]
  ·cases b
 ·cases e
#print"-"
section
variable{X:Cx}{C:Addr}{f m:Str}{o e value:Expr}{es:é}{mo mv me:ME}{ms:MA}{pos pos' apos tpos:Pos}
def Qla(c:kq)(g:tw)(i:zU1)(j:jMf:=by rfl):ì zB4 (mUn (ZR C f) me):=
 QD (Ql3 i j) λI H Q q=>Z3 (un1 q) λx H1 z=>by
  let#[R,h,a,w,O,b,d,E,k]:=z;let#[fs,D,B]:=Ĺ E;show uC L A y B;let#[n,G,u,N,M,t,s,r]:=Ge b D d;show(ν v p l r A,#[_,C,G,u,v,t,s,c,g,p,k R H1 v Θ b l])
def Qi8(c:kq)(u:tw)(B:ku)(z:PM X value mv)(A:jHj:=by rfl):yu jN0 (Xu C f mo mv):=
 Vk (Qkz B z A) λD U H q=>by
  let#[R,a,h,r,t,st,e,k]:=q;show ϔ v l S Q e;show jC w E P O Q #[R,a,h,v,l,t,st,S,λR1 H1 y g i j=>#[R1,a,l,w,E,i,yl g,P,λR2 H2 x d b s=>?_]];let#[n,p,N,fs,g1,g2,g3,M,L,I,G]:=Qc7 b O s (CS d j);subst I;refine#[_,C,p,N,g3,M,c,u,L,j7 R2 (Ć g d) (b.put g2 #[p,_,rfl,G.put (CS d j)]) ((st.mono g).mono d)]
#print"-"
structure Mal(P:Program)(w:World)(K:Nf)(mg:ý)(base:Heap)(k:Nat)(C:Addr)(x:Str)(ps:Á)(g:FM):Prop where
 ex:∃(f:Addr) (fd:FuncData),zsb/\qV2/\Cj
structure MetAt(K:Nf)(C:Addr)(x q:Str)(st:Stmt)(ps:Á):Prop where
 ex:∃(f:Addr) (fd:FuncData),mf q/\qV2/\Cj
structure ClsAt(K:Nf)(mg:ý)(C:Addr)(c:Str):Prop where
 cl:zd3
 ms:s0
 kp:zAj
 mg:mg c=ō C
def Z7{K:Nf}{C:Addr}{x q:Str}{st:Stmt}{f:Addr}{h:Value}{kV d pm cd ct:Value}
  (a:E5 K SB x=sO kX) (i:Ra) (l:ϣ f=sO #[h,m,.func (EL x q qX ψ Ŵ .none kV d pm g cd ct),j]) (c:DV K cd q=true) (k:qB)
  (b:∀(kV d pm:Value) (g:ϝ) (e ct:Value) (us:È),zub (zja q d g e)):qub:=
 #[f,_,G9 l c k,ź a i k,qwa]
section
variable{P:Program}{w:World}{K:Nf}{mg:ý}{base:Heap}{C:Addr}
def Qlb{st:Stmt}(d:qub)(S:C4)(hN:wQ)
  (c:∀(f:Addr) (b:Value) (A:Around) (a:ŷ) (s:Shared) (H:Hp) (E:XK),AN k q b->GK (Qbg CX0 P w K mg base N q Ŵ f b A a s H E).nox ψ m) :
  Mal P w K mg base (k+1) C x ps zy6:=by
 show bW g h d;show#[f,fd,QlW F S hN (λb A a s H E e=>c f b A a s H E e),g,h]
#print"-"
section
variable{X:Cx}{C:Addr}{k n:Nat}{g:FM}{x c:Str}{ps:Á}{p pos apos:Pos}{o e:Expr}{es:é}{mo:ME}{ms:MA}
def Qid(cl:kq)(M:Mal X.prog X.w X.K X.mg X.base k C x ps g)(I:BN k)(L:ku)(Y:qD)(N:MJ:=by rfl)(S:μ:=by rfl)(m:η:=by rfl)
  (G:pc zw4=(do
   let z <-pc o
   zCg
   let(f,first) <-holding [z] (getMethod z x pl)
   callWith pos f first (backTo pos jPg) (backToKw pos jT8)):=by rfl):ì zw4 (Jt C x n g mo ms):=by
 show bW O U M;subst N;refine QD (QhG L cl O F I U .nil QaJ Y (QS S) (Zw m) G) (Ę σ H Q q);let#[R,d,h,w,Z,E,st,e1,k]:=q;show ϔ a D e2 e3 e1;let#[fs,e4,s]:=Ĺ e3;split at s
 ·rename_i b;let#[#[as,B],e6,r]:=Ĺ s;split at r
  ·rename_i P;refine#[R,d,h,a,D,E,st,e2,Ϻ v u i y];let#[n,dx,fx,g1,g2,g3,g4,g5]:=Ge i e4 y;refine#[_,dx,fx,g3,g4,g5.none (Option.isNone_iff_eq_none.mp b),R1,d,D,as,B,i,yl u,e6,λR2 H2 vs t l j=>?_];show#[R2,a::as,B,w,Z,P,l,Rws.cons (CS t y) (by rw[Eb];show j),r,k.ext (Ć u t)]
  ·cases r
 ·cases s
def Qh6(D:qxa)(M:jR8)(Y:Su)(hg:Gl X c)(ha:qD)(Z:MJ:=by rfl)
  (u:jyb:=by decide) (he:μ:=by rfl) (t:η:=by rfl):ì (.Call (pR c p) qo [] pos) (Wl C n g ms):=by
 let#[f,fd,F,N,hb]:=M.ex;subst Z;refine QD (Qik #[D.ms,N.at_,N.fn,D.kp] F Y hg D.mg hb .nil QaJ ha u (QS he) (Zw t)) (Ę σ H Q q);let#[R,d,h,w,h',S,st,e1,k]:=q;show oP y e2 B e1;split at B
 ·rename_i hl;show jC r h2 e4 z B #[R,d,h,as,y,S,st,e2,λR1 H1 vs P s i x O nx U ne=>?_];let#[E,m]:=s.fix (o:=.own x) U;let#[R3,I,l,b]:=jIb m O
  rw[Eb];split at z
  ·show(Β a z,jY a);subst a;refine#[R3,İ y::as,y++zvj,.non,h2,by rw[NO];show hl,l,Rws.cons b (Rws.mono (Ć E I) _ _ i),e4,λR4 H4 v G j L=>#[Ao L,?_]];show k R4 H4 _ (Ć P (yG E I G)) j (CS G b)
  ·cases z
 ·cases B
#print"-"
def G5{K:Nf}{h:Heap}{c:Str}{C:Addr}(X:uj)(G:Bu)(d:DZ K mainGlobals c=sO (sO SB))(a:qp8)(hd:mZ)(po:zO5)
  (sa:zrd) (mk:s0) (b:zAj):ClsAt K mg C c:=
 #[#[a,hd,po,sa],mk,b,DM X G d]
def Qpn{l:PySem.W.OpenLaw}{d:DefRec}{K:Params->Nf}{st:Stmt}{ι:Type}{sem:ι->FM}{k:Nat}(t:l.most=sO 63)(A:zBh)(U:zJ1)(y:d.name="law")
  (hY:∀(w:World) (h:Heap),YP w h->r9)
  (Z:∀(kV c pm:Value) (B:ϝ) (g ct:Value) (s:Shared) (u:Value),BindsTo s (EL "law" "law" qX ψ Ŵ .none kV c pm B g ct) qn8 [("script",u)])
  (F:∀(w:World) (mg:ý) (h:Heap),r9->Bu ->
   DefAt cz mg "law" st fh/\∀base:Heap,qr4->nK->∃C,Cal l.prog w cz mg base k "law" fh (sem C))
  (main:∀(C:ι) (ns:Ŝ),qPc->∃h',sem C [zy7] []=sO (ŵ,h')) :
  YaQ q r XP YP l.row.toRowW d [] zC9:=by
 refine L2.QjK (n:=63) (k:=k) (x:="script") (CX:=λ_=>CX0) (sp:=λw vs H Q E=>vs.length=1/\∀C,spM cz 1 (sem C) vs H Q E) t à A U hY ?_ ?_ λ_ _ _ _ _ z=>z
 ·intro w mg fa h KX G b;let#[D,Fn]:=F w mg h KX G;let#[f,fd,Fu,p,_]:=D.ex;rw[y]at b;show ä p b;let#[oc,od,kV,c,pm,B,g,ct,M,e,lk,Y]:=Fu.ex;refine#[fd,Ò s u,λbase S P=>?_]
  rotate_left
  ·let#[C,CC]:=Fn base S P;let#[f',aa,F',j,_,_,O,N,I,i]:=CC.ex;show ä p j;rw[lk]at i;cases i;show F'.imp λ_ _ _ _ z=>z.2 C
  rw[e];show Z kV c pm B g ct s u
 ·intro w H a ns X hO hS;refine#[rfl,æ C];let#[h',e]:=main C ns X;refine#[#[λ_=>0,0,H,ŀ],[zy7],[],ŵ,h',rfl,#[rfl,jq z,λn t=>B6 t zea,λm n p=>B6 p zea,(λn o z=>qY z),jsi,Ml,jsi],?_,e,λR' H' v _ _ L=>L.bl_eq];refine Rws.cons ?_ Rws.nil;show#[a,_,rfl,hS,Gy ns]
#print"-Mi"
namespace Qd
open L2
section
variable{prog:Program}{w:World}{A:Around}{R:oF}{I:Addr}{fp wr:Ŷ}{n:Nat}{P:zi7}{St:zhd}{G:M0}{S:Addr}
def nm:(toString "min"++toString ".loop":String)="min.loop":=Ú
#print"-"
open Mi
section
variable{prog:Program}{w:World}{A:Around}{E:Õ}
noncomputable abbrev Kv:=Tr×zNj
abbrev PairQ(prog:Program)(w:World)(h:Heap)(v:Value)(p:Kv):Prop:=∃a o n,ϒ/\ux/\zpb/\o.data=.seq #[vx p,p.2.2,] n/\Hr h p
abbrev mrgQ(a ps:P5):P5:=ps.foldl (λb p=>storedH b p.1 p.2.1 p.2.2) a
def Qkw(b:P5)(k:Tr)(a:Addr)(v:Value):(storedH b k a v).length<=b.length+1:=by
 unfold storedH;show jcb
def QoB(h1:∀x∈c,Hr h x)(h2:(Qk prog w).is h k a):∀x∈storedH c k a v,Hr h x:=by
 unfold storedH;intro x b;split at b
 ·show jk y d b;unfold Yay;split<;>show h1 y d
 ·show Hv b
  ·show h1 x b
  ·cases ĸ b;show h2
def QcH(e:Sb.Ex h h'):∀{n:Nat} (k:Tr) (v:Value),lj k->qRb
 |0,_,_,x=>x.elim
 |_+1,.i _,_,x=>x
 |_+1,.s _,_,x=>x
 |n+1,.t _,_,x=>by
  show CY a b h1 h2 x;show#[a,b,rfl,h1.at λo q=>e a o q,Paired.mapP h2 λk v z=>QcH e k v z]
def QcR(e:bE)(d:∀x∈a,Hr g x)(b:∀o,zlg D)(m:zaa h a):zaa h' a:=by
 let#[o,q,r,p,n,l,j,_,i,f]:=m;show#[o,q,r,b _ p,n,l,j,λx c=>QcH e _ _ (d x c),i,f]
def QnU{ps:P5}(hu:qE9)(hh:rA)(M:l≠I)(r:D≠I)(P:D≠l)(H:∀b o,zo3->b≠I/\b≠D)(y:qrj)(hp:∀(j:Nat) (v:Value) (p:Kv),qJg->qYd->PairQ prog w g v p) :
  ∀(k i:Nat) (s:Shared) (c:P5),items.size-i=k->i<=items.size->s.heap.IsListIter I l i->zB6->Sb.Ex g s.heap->(∀x∈c,Hr g x)->DctE prog w s.heap D c->c.length+k<=sizeLine ->
  (∀h' tk,zaa h' (mrgQ c (ps.drop i))->bE->zWd R qbh h')->∀t,Hd (.builtin "dict.update.loop" #[[Ã D,Ã I,zbd,.none],[]]) R s:=by
 intro k;let W:=Walks.list (prog:=prog) (w:=w) (A:=A.in1) hh I l M items
 induction k with
 | zero=>
  intro i s c hk hi m h ex f hD hz O t;let N:i=items.size:=Ñ
  subst N
  refine Dm Dc.e_upd (by
   rw[qPd];refine(show dM from Nc (W.done s _ _ (ĺ m h) λh' tk kp=>?_));let d:bE:=jB0;refine(show wpAny _ A.in1 (Builtin.Dict.addKeywords D []>>=_) _ _ _ from Nc (Nl (Nl (O h' tk ?_ d))));rw[List.drop_of_length_le (Ny y)]
   show jJ6)
 | succ k ih=>
  intro i s c hk hi m h ex f hD hz O t;let q:i<items.size:=Ñ
  refine Dm Dc.e_upd (by
   rw[qPd];refine(show dM from Nc (W.item i s _ _ q (ĺ m h) λv h' tk hv u kp=>?_));let d:bE:=jB0;let z:i<ps.length:=Ϲ y q
   let#[a,o,n,rfl,h1,Y,X,h4]:=hp i v ps[i] hv (Nj z);let B:=d a o h1;refine(show wpAny _ A.in1 (holding [BA a] _>>=_) _ _ _ from Nc (Es (Nc (wpAny_tryCatch (Sf (Builtin.Dict.pairItems ĭ))))));show(Ë (Fx (T:="tuple") (ź o B Y) ?_),nH,Ë (Sf (seqItems? ĭ)),je0 B);rw[X];show BU (Nl (show wpAny _ A.in1 (holding [.ref sH,sI] (dictSet D (.ref sH) sI)) _ _ _ from Es ?_));let U:zaa h' c:=jJ6;refine WW (s:={ s with heap:=h',toks:=tk }) (show CL+8<cLine by lia) (QcH d _ _ h4) U Â (Ï Y S G);let Z:Sb.Ex g Y:=λb o e=>by rw[G.2 b (H b o e).2];show d b o e
   show BU #[qPe,ih (i+1) _ (storedH c (ps[i]).1 sH sI) Â q (u.1.at λo e=>fo G I (EO r) e) (u.2.at λo e=>fo G l (EO P) e) Z (QoB f h4) S (by let:=Qkw c (ps[i]).1 sH sI;lia) (λX C Q L=>?_) _];refine O X C ?_ L;rw[ED z]
   show Q)
variable{s:Shared}
def call_pairsQ{ps:P5}(hu:A.units+16<cLine)(G:ϸ)(B:gh=sO { cls:=Ι,dict:=nO,data:=.seq items m,slots:=M })(z:qrj)(hz:qr1)
  (I:∀(j:Nat) (v:Value) (p:Kv),qJg->qYd->PairQ prog w s.heap v p)
  (h:∀h' tk,DctE prog w h' s.heap.objs.size (mrgQ [] ps)->Sb.Ex s.heap h'->jK1):ù (call qEa [Ã l]):=by
 refine callType_codes (Q₁:=λobj c=>obj=ϗ s/\c={ s with heap:=dJ }) F.kt_called_dict (F.kt_typeCall_dict_1 _) F.entry_dict_init (kt_code_dict_new _ jp) λobj c i=>?_;show cM i;let a:DctE prog w (s.heap.push { cls:=Tv,data:=mR }) s.heap.objs.size []:=#[_,_,_,ų,wZ,rfl,rfl,Ê,Ê,rfl]
 let ty:Shared.TypeIs { s with heap:=dJ } yB "dict":=Heap.DictOfH.typeIs (s:={ s with heap:=dJ }) a.of;let f:qw5:=NL B;let d:=Nt { cls:=Tv,data:=mR } B;refine#[ty,F.args_dict_init_2 _ _,?_];show(Ļ (Nc (Fz ty (show By (pure (s.heap.objs.size,[BA l])) from Nl (Sf (Builtin.Dict.updateFrom "dict.__init__" s.heap.objs.size gx [] .none))))),Ë (Fx (T:="list") zhj ?_),nH,Ļ (Dc.keys_miss d gE (Ï q t n)),jA zb4,Ļ (DC (yt (Lz (s:={ s with heap:=q,toks:=t }) #[_,Ō n d,rfl,_,rfl] ?_))));let y:Sb.Ex s.heap jhb:=λb o e=>ŕ (n _ _ kC)
 let u:s.heap.objs.size<q.objs.size:=by
  let#[o,_,_,e,_]:=a;show NL qXg
 let D:DctE prog w jhb s.heap.objs.size []:=QcR y Ç (λo e=>ŕ qXg) a;show BU #[qPe,QnU (l:=l) (g:=s.heap) (items:=items) (ps:=ps) (by apply CL+12<cLine;lia) gE (NS (Ea f u)) (NS u) (EF f) (λb o e=>#[NS (Ea Cz u),NS Cz]) z I qDa 0 _ [] rfl ě pX #[_,Ō y B,rfl,_,rfl] y Ç D (by simpa using hz) (λL r C x=>?_) _];show#[rfl,h L r (Ŏ C) x]
#print"-"
#print"-Qd"
namespace Mi
open L2
set_option backward.eqns.deepRecursiveSplit false in
abbrev prQ:À W->Option (List qV3)
 |[]=>sO []
 |Ì [k,x]::r=>(nrm k).bind λt=>(prQ r).map ((t,k,x)::·)
 |_=>nO
abbrev mgQ(a:jr)(ps:t0):jr:=ps.foldl (λb p=>Qb9 b p.1 p.2.1 p.2.2) a
abbrev mgX(a:ņ)(ps:ņ):ņ:=ps.foldl (λb p=>QaP b p.1 p.2.1 p.2.2) a
abbrev KN(ws:À W)(h:MH):Ü:=match ws with
 |[a]=>(lsW h a).bind λc=>(prQ c).bind λb=>if b.length<=10000000 then sO (İ h,h++[qb (mgQ [] b)])else nO
 |_=>nO
section
variable{X:Cx}{pins:Ö}{σ:L2.St}{H:Hp}{s:Shared}{R:Rn}{h:MH}
noncomputable abbrev PrR(K:Nf)(R:Rn):t0->ņ->Prop:=Paired λp q=>zcj/\Rw K R p.2.1 zw1/\nrm p.2.1=z8/\Rw K R p.2.2 q.2.2
def QjM(I:Ù)(i:ζ):∀{ys:À W} {ps:t0} {xs:À V} {us:È},prQ ys=sO ps->Rws X.K R ys xs->ϟ ->
  ∃(kx:ņ) (vs:zRg),PrR X.K R ps kx/\QaZ kx vs/\vs.length=us.length/\∀(j:Nat) (u:Value) (p:Qd.Kv),us[j]?=sO u->vs[j]?=sO p->Qd.PairQ X.prog X.w s.heap u p:=by
 intro ys
 induction ys with
 |nil=>
  intro ps xs us e r v;cases e;show Ϙ r;show ß v #[[],[],.nil,.nil,rfl,λj u p hu=>by simp at hu]
 | cons d ys P=>
  intro ps xs us e r v
  obtain⟨k,x,rfl⟩:∃k x,d=Ì [k,x]:=by
   cases d with
   |tup l=>
    cases l with
    |nil=>cases e
    |cons k l=>
    cases l with
    |nil=>cases e
    |cons x l=>
    cases l with
    |nil=>show#[k,x,rfl]
    |cons _ _=>cases e
   |_=>cases e
  show ļ y A Y e;let#[qs,U,S]:=yr Y;subst S;show Mn r;let#[z,zs,rfl,m,L]:=r;cases v with
  |@cons _ u _ us hu C=>
  let#[kx,vs,d1,d2,d3,Z]:=P U L C;show ż m;let#[a,vz,rfl,N,M]:=m;let#[O,Q,#[o,g1,g2,n,g3],_]:=I.tuple (JA i.sub N);let#[z1,B,rfl,g,G]:=Qot M;let#[u1,f,rfl,E,D]:=Qhu Q;show TH b I i g E A;obtain rfl:SI:=hu;refine#[(y,c,B)::kx,(y,c,f)::vs,Ē #[rfl,g,A,G] d1,Ē (cj D) d2,yh d3,Ϭ j u p t q];cases j with
  |zero=>
   let f1:BA a=u:=ĝ t
   let f2:(y,c,f)=p:=ĝ q
   subst f1;show ϑ f2 #[a,o,n,rfl,g1,g2,g3,b]
  |succ j=>show Z j u p (Ŏ t) (Ŏ q)
def QbV{K:Nf}:∀{ps:t0} {kx:ņ} {c:jr} {e:ņ},PrR K R ps kx->DctR K R c e->DctR K R (mgQ c ps) (mgX e kx)
 |_,_,_,_,.nil,d=>d
 |_,_,_,_,zze,d=>by
  apply DctR K R (mgQ (Qb9 _ p.1 p.2.1 p.2.2) _) (qs0 q);rw[h.1];show QbV t (U7 d h.2.1 zdb zZ9)
def QbC:∀{kx:ņ} {vs:zRg} {c:ņ} {e:zRg},QaZ kx vs->QaZ c e->QaZ (mgX c kx) (Qd.mrgQ e vs)
 |_,_,_,_,.nil,d=>d
 |_,_,_,_,zze,d=>by
  apply QaZ (qs0 p) (Qd.mrgQ (storedH _ q.1 q.2.1 q.2.2) _);rw[h.1,h.2.1];show QbC t (UU d h.2.2)
def Qif:∀(kx a:ņ),(mgX a kx).length<=a.length+kx.length:=by
 intro kx
 induction kx with
 |nil=>
  intro a;show Nu _
 |cons p kx c=>
  intro a;let e:=c qj3;let d:=We (kx:=a) (k:=p.1) (b:=p.2.1) (v:=p.2.2);apply(mgX qj3 kx).length<=_;rw[NO];lia
def Wv(hc:ţ)(hu:Ż):CallR X qEa (Fs X.K KN):=by
 intro pins s σ H L us Q I r q;let#[R,h,ws,w,h',l,d,e,k]:=q;unfold KN at e;split at e
 ·show jl9 y t
  ·rename_i hz;cases t;show(BF v Y d,vc L Z U l Y e1,zPh S);obtain rfl:u=Value.ref ad:=S;let#[n,P,pl,hl]:=Ρ Z;let#[D,N,G,E,d3,d4]:=QjM I l e3 U P;show Pc l1 G l2 E;let#[#[oc,ab,ae,aa],m,pl,C,B,c]:=pl;dsimp only at C B c;subst C B c;let af:10000000<=sizeLine:=Ú
   refine Qd.call_pairsQ (ps:=N) (items:=n.toArray) iA zDg pl (Ŏ d3) (by rw[Nz];lia) (λj u p h1 h2=>d4 j u p (Ŏ h1) h2) λg O dd kp=>?_;let hp:=zw0;let#[R3,M,i,f]:=l.new (mo:=qb (mgQ [] y)) (o:=.dT (mgX [] D)) hp (ş R' x #[_,rfl,Paired.mapP (QbV G .nil) (jT2 x)])
   let#[o,es,ep,b1,b2,b3,b4,_,b6,b7]:=dd;refine#[ϗ s,_,I.laid (t':=O) kp ÿ (nc (.dT _) #[?_,?_,_,QbC E .nil,o,es,ep,b1,b2,b3,b4,b6,b7]),rfl,j7 R3 M i f]
   ·let:=Qif D [];show pH;lia
   ·show beq_eq_false_iff_ne.mpr λz=>absurd I.big (by rw[<-z];show N2 _)
  ·cases t
 ·cases e
#print"-"
abbrev UC(a:HY):ME:=P9 (İ h,h++[.dic (QkM [] (a.map zrc))])
section
variable{X:Cx}
def QfA{k n:Nat}{C:Addr}{c:Str}{ps:Á}{g:FM}{p pos:Pos}(s:qxa)(M:jR8)(L:Su)(P:Gl X c)(N:MJ:=by rfl)
  (j:jyb:=by decide):ì (.Call (pR c p) [] [] pos) (Wl C n g Qe):=by
 show bW y S M;subst N;refine QD (Qe9 #[s.ms,y.at_,y.fn,s.kp] F L P s.mg S .nil QaJ j) (Ę σ H Q q);let#[R,B,h,w,h',G,st,e1,k]:=q;show oP h1 Z m e1;cases Z;split at m
 ·rename_i O;show ϔ r U Y l m;intro x z nx I ne;let#[D,i]:=G.fix (o:=.own x) I;let#[R3,E,e,b]:=jIb i z
  rw[Eb];split at l
  ·show(Β a l,jY a);subst a;refine#[R3,[İ h],h++zvj,.non,U,O,e,Rws.cons b (by rw[Rws.nil_iff]),Y,λR4 H4 v t d u=>#[Ao u,?_]];show k R4 H4 _ (yG D E t) d (CS t b)
  ·cases l
 ·cases m
def Qm9{pos:Pos}:∀{c:HY} {ks:Tm} {vs:é},jHb->ks.all (·.isSome)=true->ks.length=vs.length->ks≠[]->ks.length<=15->c.length<=15->ì (.Dict ks vs pos) (UC c):=by
 intro c ks vs t B A y x v;refine QD (Qhp t B A y x) λj H Q q p u=>?_;let#[R,i,h,w,G,n,st,e,k]:=q;cases e
 let key:∀(c:HY) (H:Hp) (C:si->Ű),C (c.map λp=>qq1) H->GU jIh j H C:=by
  intro c
  induction c with
  |nil=>show λ_ _ z=>z
  |cons p r g=>show λH C z=>g H (λs H3=>C (qq1::s) H3) z
 refine key c _ _ #[ZL,c.map zrc,by rw[FD];rfl,M9 v,?_];rw[QhE]
 let rel:∀(c:HY) (a:č W) (b:č V),DicR X.K R a b->DicR X.K R (QkM a oB) (Yb b oB):=by
  intro c
  induction c with
  |nil=>show λ_ _ z=>z
  |cons p r g=>show λa b z=>Ō g (Qjh z zb4)
 let#[D,l,f,d]:=n.new (mo:=.dic (QkM [] oB)) (o:=.dK (Yb [] oB)) u (ş I m #[_,rfl,Paired.mapP (rel c [] [] .nil) λ_ _ z=>jUj m])
 show j7 D l f d
#print"-"
def Qco:∀{vs:È} {ys:Ŝ},IntsAre vs ys->Vals (ys.map V.int) vs
 |_,_,.nil=>.nil
 |_,_,.cons _ t h=>Ē gC (Qco h)
def Ql9{K:Nf}{h:Heap}{x:Str}{c:Addr}{n:Nat}(X:uj)(G:Bu)(a:zoa)
  (l:jmb) (hz:zFd) (d:IntsAre b.toList ys):zeh (Ŋ (ys.map .int)):=
 #[Ã c,_,p7,rfl,λR=>by
  show#[c,_,rfl,å #[_,b,n,l,rfl,rfl,hz,Qco d],Gy ys]]
abbrev Vq(a b:W)(h:MH):Ü:=match a,b with
 |Î c,Ä n=>if 0<=n/\n<=1000/\c.length<=1000 then sO (.lst (qGe n c),h)else nO
 |_,_=>nO
def Qee{X:Cx}:â HH (F2 X.K Vq):=by
 intro c s l H x y v u Q I r o q;let#[R,h,a,b,w,L,i,z,t,e,k]:=q;unfold Vq at e;split at e
 ·split at e
  ·rename_i G n D;cases e;let#[ad,g,rfl,A,j]:=i.lstAt z;let E:=t.int_eq;subst E;refine QkR c s l H _ _ v u Q I r o #[ad,n,g,rfl,rfl,A,Ñ,Ô,?_,Ò p C]
   ·show ű B j;let:g.length*n.toNat<=1000*1000:=OF (Nd (ħ B) D.2.2) Â;let e:r0:=Ú
    lia
   ·show(zd R1 m f d i C (Qin j n.toNat),j7 R1 m f d)
  ·cases e
 ·cases e
@[simp]def Qoe{ws:À W}{n:Int}{h:MH}:Vq jT (Ź n) h=if 0<=n/\n<=1000/\ws.length<=1000 then sO (.lst (List.replicate n.toNat ws).flatten,h)else nO:=q0
structure FunD(K:Nf)(x qual:Str)(st:Stmt)(f:Addr)(fd:FuncData):Prop where
 ex:∃(oc:Value) (od:ϝ) (dV kV doc pm:Value) (an:ϝ) (cdv ct:Value) (osl:Ho),
  fd=EL x qual qX ψ Ŵ dV kV doc pm an cdv ct/\zt6/\qvi
 kp:qB
structure DefAtD(K:Nf)(mg:ý)(x:Str)(st:Stmt)(ps:Á):Prop where
 ex:∃(f:Addr) (fd:FuncData),FunD K x x st f fd/\RC/\Cj/\qg0
def QgV{K:Nf}{fd:FuncData}{ps:Á}{a:È}{T:Addr}{o:Obj}{items:ľ}{n:Nat}(hd:fd.defaults=Ã T)(d:ϣ T=sO o)(b:o.data=zMe)
  (h:∀us:È,(us++a).length=ps.length->∃k,jw3=seqItems? fd.defaults>>=k/\k qs1=pure (ps.zip (us++a))):Binds K fd ps a:=λ_ us X c=>by
 let#[k,f,e]:=h us c;show PySem.W.binds_K X hd d b f e
def QbX{K:Nf}{h:Heap}{x:Str}{st:Stmt}{f T:Addr}{m:Value}{j g:ϝ}{i:Ho}{kV d pm cd ct:Value}{o:Obj}{items:ľ}{n:Nat}(X:uj)(G:Bu)
  (a:wE=sO kX) (l:ϣ f=sO #[m,j,.func (EL x x qX ψ Ŵ uH kV d pm g cd ct),i]) (c:qK4) (k:qB)
  (q:ϣ T=sO o) (p:o.data=zMe)
  (b:∀(kV d pm:Value) (g:ϝ) (e ct:Value) (us:È),qj4->∃k,jDe (ps.zip (us++[])))
  (r:∀(kV d pm:Value) (g:ϝ) (e ct:Value) (us:È),(us++zNg).length=ps.length->∃k,jDe (ps.zip (us++zNg))):quc:=
 #[f,_,#[#[m,j,Ã T,kV,d,pm,g,cd,ct,i,rfl,l,c],k],p7,qxb b,qxb r]
structure CalD(P:Program)(w:World)(K:Nf)(mg:ý)(base:Heap)(k:Nat)(x:Str)(ps:Á)(g:FM):Prop where
 ex:∃(f:Addr) (fd:FuncData),zsb/\RC/\qB/\qg0
section
variable{P:Program}{w:World}{K:Nf}{mg:ý}{base:Heap}
def QmI{st:Stmt}{N ps:Á}{m:SM}(F:FunD K x c st f fd)(S:C4)(hN:wQ)
  (g:∀(b:Value) (A:Around) (a:ŷ) (s:Shared) (H:Hp) (E:XK),AN k c b->GK (Qbg CX0 P w K mg base N c Ŵ f b A a s H E).nox ψ m) :
  jHd:=by
 let#[M,L,O,kV,G,pm,U,b,ct,z,rfl,lk,n]:=F.ex;refine Qkb lk n S (λy H Q E q=>?_) λA a s H y Q E B q=>?_
 ·let#[R,v,h,w,D,l,j,d,_]:=q;show(B5 d,l)
 ·refine#[_,(g b A a s H E B).nox,?_];let#[R,v,h,w,D,l,j,d,e,p]:=q;show jK6
  ·rename_i I C o;show ß e #[R,_,h,_,j,st,o,p]
  ·rename_i r C o;show ß e #[R,_,h,_,j,st,o,qtc t u p]
  ·cases e
def Qhc{st:Stmt}(d:quc)(S:C4)(hN:wQ)
  (c:∀(f:Addr) (b:Value) (A:Around) (a:ŷ) (s:Shared) (H:Hp) (E:XK),AN k x b->GK (Qbg CX0 P w K mg base N x Ŵ f b A a s H E).nox ψ m) :
  jeh/\zQ2 (k+1) zy6:=by
 let#[f,fd,F,i,p,h]:=d.ex;let O:=QmI (P:=P) (w:=w) (mg:=mg) (base:=base) (k:=k) (m:=m) F S hN λb A a s H E n=>c f b A a s H E n;let#[l,j,r,kV,q,pm,t,b,ct,g,e,lk,o]:=F.ex;show#[#[f,fd,O,i,F.kp,p,l,j,g,lk],f,fd,O,i,F.kp,h]
def CalD.box(a:W->ĉ)(C:zQ2 k g):zQ2 k qK6:=by
 show(qO3,#[f,fd,F.imp qwe,r])
#print"-"
abbrev KI(n:Nat)(g:FM)(ms:MA):ME:=mFn (λa h=>if a.length+1=n then g (a++[.non]) h else nO) ms
def Qfo{K:Nf}(q:p4 qPf):Qey qNh [.non] E qT4 σ H Q:=by
 refine Ko zTe (Ï j H1 b);let#[R,h,c,w,i,d,a,e,k]:=b;show Sn e
 ·rename_i f;show#[R,c++[.non],h,w,i,by show PP f,d,a.append (Rws.cons Rw.non Rws.nil),e,k]
 ·cases e
section
variable{X:Cx}{k n:Nat}{g:FM}{x:Str}{ps:Á}{p pos:Pos}{e:Expr}{es:é}{ms:MA}
def QeU(C:CalD X.prog X.w X.K X.mg X.base k x ps g)(c:BN k)(j:Ş)(o:qD)(d:MJ:=by rfl)
  (b:ŏ:=by decide) (l:μ:=by rfl) (a:η:=by rfl) :
  ì dg qPf:=by
 let#[f,fd,F,h,i,m]:=C.ex;subst d;show QD (Qb1 F c j h i m (show Vals [V.non] zNg from .cons rfl .nil) QaJ o b ze7 ze8) λ_ _ _=>Qfo
#print"-"
abbrev Qei:SM:=λ_ _=>nO
def Qf7{X:Cx}{st:Stmt}:PMS X st Qei:=λ_ _ _ _ _ _ q=>by
 let#[R,a,h,r,b,s,e,k]:=q;cases e
def QrI{P:oS}{ps:Á}(e:xb4)(h:∀a b c,P zZ1)(us:È)(d:qj4):P us:=by
 rw[e,Eb]at d
 match us,d with
 |zZ1,_=>show h a b c
def QqM{P:oS}{ps:Á}{x:Value}(d:xb4)(h:∀a b,P [a,b])(us:È)(c:(us++[x]).length=ps.length):P us:=by
 rw[d,NA]at c
 match us,c with
 |[a,b],_=>show h a b
abbrev Y5(ma:ME):ME:=λa h=>(ma a h).bind λp=>(Qbi p.2 p.1).map λb=>(ö (!b),p.2)
section
variable{X:Cx}{a:Expr}{ma:ME}{pos:Pos}
def Qj1{ta:TE}(l:yb):ď nQ (λσ H Q=>ta σ H λx d=>∃k,Qnw X.K x d k/\Q (.bl (!k)) d):=by
 show Đ b σ Q;refine UnaryOp_ (qh l b σ f e);show ı x g j e;refine not_of ?_;show thn (QgA b f σ H1 x v (λc d=>Q (.bl (!c)) d) I1 g j) λc m #[H2,I2,i]=>#[ö (!c),H2,I2,rfl,i]
def Qil(l:χ):ì nQ (Y5 ma):=QD (Qj1 l) <|by
 intro q H Q f;let#[R,d,h,w,s,j,st,e,k]:=f;show(qj r n p,ϱ b m o p,ß o #[R,d,h,a,_,j,st,n,kf g c i #[_,Qgl c i m,BZ g c zb4]])
#print"-"
section
set_option genInjectivity false
set_option backward.match.sparseCases false
abbrev JK:Expr->Nat
 | .Call f a _ _=>match a with
  |[]=>match f with
   |qPg=>1
   |_=>2
  |_=>1
 |qT3=>3
 |.Compare ..=>4
 |.BoolOp ..=>4
 |.IfExp ..=>4
 |.UnaryOp o _ _=>match o with
  |.Not=>4
  |_=>1
 |.Tuple ..=>5
 |.Name ..=>1
 |.Constant ..=>1
 |.BinOp ..=>1
 |.Subscript ..=>1
 |qPg=>1
 |.List ..=>1
 |.Dict ..=>1
 |_=>0
structure EOk(e:Expr):Prop where
 fold:∀env x,foldedSetIterable e env x=pure x
 ix:Y0 e
 star:μ
 stE:∀env r,starEach (e::r) env=jA8::starEach r env
 mark:∀op,behindInMarks op e=false
 put:∀env o p v,assign (.Subscript o e p) env v=(do
   let ov <-holding [v] (u5 o)
   let iv <-holding [v,ov] (u5 e)
   standAt p
   holding [v,ov,iv] (setItem ov iv v)
   release [v,ov,iv] [])
 comp:l9->f9
 attr:JK e≠2->∀env f,jOg
 tru:JK e≠4->∀env whole,PySem.isTrue e env whole=(jH5 e)
 sto:JK e≠5->∀env es k p,swappedStores [.Tuple es k p] e env=zda
def Zh{e:Expr}(h:BM):EOk e:=by
 let no:∀n:Nat,n≠n->False:=λ_ z=>z rfl;cases e with
 |Call f a k p=>
  refine#[Ŕ,Ŕ,rfl,Ŕ,ς,zJ8,ς,?_,mJ,rC];intro b v g;cases a with
  |cons=>show A8 f
  |nil=>cases f<;>first|rfl|show(b rfl).elim
 |UnaryOp o a p=>cases o<;>show#[Ŕ,Ŕ,rfl,Ŕ,ς,zJ8,ς,mJ,jQe,rC]
 |_=>first|show(h rfl).elim|show#[Ŕ,Ŕ,rfl,Ŕ,ς,zJ8,by first|show ς|show zDj,mJ,jQe,by first|show rC|show zDj]
structure Fc where
 d:Nat
 x:Str
 C:Addr
 k:Nat
 ps:Á
 g:FM
structure Wd where
 P:Program
 w:World
 K:Nf
 mg:ý
 base:Heap
abbrev Fc.okd(Z:Wd)(x:Str)(f:Fc):vM
 |0=>Z.mg x=nO
 |1=>jUd
 |2=>xb5/\Mal Z.P Z.w Z.K Z.mg Z.base f.k f.C x f.ps f.g
 |6=>jUd/\CalD Z.P Z.w Z.K Z.mg Z.base f.k x f.ps f.g
 |5=>∃v,f.g [] []=z7 v/\Glob Z.K Z.mg x v
 |3=>ClsAt Z.K Z.mg f.C x/\Mal Z.P Z.w Z.K Z.mg Z.base f.k f.C "__init__" f.ps f.g
 |_=>xb5/\NoAttr Z.K f.C x
abbrev Fc.ok(Z:Wd)(f:Fc):Prop:=f.okd Z f.x f.d
structure Cf where
 N:Á
 sc:Scope
 k:Nat
 fn:Bool
 t:BY
structure CxOk(c:Cf)(X:Cx):Prop where
 N:X.N=c.N
 nd:X.N.Nodup
 sc:X.env.scope=c.sc
 cal:ţ
 xe:w9
 rm:Room c.k X.A
 fn:c.fn=true->∀x,cg
 ce:∀x,(qA=π\/qA=y9)->∃a,rJ x=sO a
 tb:∀f∈c.t,f.ok qb0
def CxOk.hu(k:Δ):Ż:=k.rm.units
noncomputable abbrev MM(a:Type):=Nat->Option (a×Nat)
structure RM(c:Cf)(α:Type)(p:Cx->α->Prop) where
 m:α
 h:∀X,Δ->p X m
section
variable{α β:Type}
abbrev Q9(x:MM α)(f:α->MM β):MM β:=λn=>match x n with
 |some (a,n)=>f a n
 |none=>nO
abbrev Za(a:α):MM α:=λn=>ā a n
abbrev coMo(o:Υ α)(f:α->MM β):MM β:=λn=>match o with
 |Û a=>f a n
 |none=>nO
abbrev GS(f:Nat->MM α):MM α:=λn=>f (n%32) (n/32)
abbrev J6(p:Prop)[Decidable p](f:p->MM α):MM α:=λn=>if h:p then f h n else nO
#print"-"
abbrev KF(x:Str):(l:Á)->Option {i:Nat // l[i]?=sO x}
 |[]=>nO
 |y::l=>if h:y=x then sO #[0,kz h]else(KF x l).map (ύ r #[r.1+1,r.2])
abbrev Yi(d:Nat)(x:Str):(t:BY)->Option {f:Fc // f∈t/\zMj}
 |[]=>nO
 |f::t=>if h:zMj then sO #[f,.head _,h]else(Yi d x t).map (ύ r #[r.1,.tail _ r.2.1,r.2.2])
def CxOk.fc(k:Δ)(r:{f:Fc // f∈c.t/\zMj}):r.1.okd qb0 x d:=by
 let#[f,h,rfl,rfl]:=r;show k.tb f h
def CxOk.gl(k:Δ)(h:qA=Tk):Ş:=by
 apply dI=_;rw[k.sc];show h
abbrev Qnn{a:Type}(c:Cf)(x:Str)(f:(∀X,Δ->Ş/\yW=nO)->MM a):MM a:=
 J6 (qA=Tk) λh=>coMo (Yi 0 x c.t) λr=>f (ş X k #[k.gl h,k.fc r])
abbrev coLoB(c:Cf)(x:Str):Prop:=qA=yT\/(c.fn=true/\qA=π)
noncomputable instance:Decidable qPh:=by unfold coLoB;show zej
def coLoB.loc(h:fE)(k:Δ):jFi:=by
 unfold L2.Loc;rw[k.sc]
 rcases h with h|⟨f,h⟩
 show jd #[Ø h,å h] #[å h,Ø (k.fn f x)]
abbrev Qh8(a:Scope)(x:Str):Prop:=Vis a x
noncomputable instance:Decidable (Qh8 sc x):=by unfold Qh8 Vis;show zej
def CxOk.ix(k:Δ)(i:{i:Nat // c.N[i]?=sO x}):X.N[i.1]?=sO x:=by rw[k.N];show i.2
noncomputable abbrev RE(c:Cf)(e:Expr):=RM c ME λX m=>uI
noncomputable abbrev RT(c:Cf)(e:Expr):=RM c MT λX m=>PMT X e m
noncomputable abbrev RA(c:Cf)(es:é):=RM c MA λX m=>PMA X es m
structure Ih where
 e:∀c e,xb6
 t:∀c e,xb7
abbrev QrH(c:Cf)(x:Str)(p:Pos):MM nN:=
 coMo cV λi=>J6 (Qh8 c.sc x/\zug=false/\(x=="__classdict__")=false) λh=>
  Za #[Qb i.1,λX k=>QmN i.1 zUe (by rw[k.sc];show h.1) h.2.1 h.2.2]
abbrev QcZ(i:Ih)(c:Cf):(es:é)->MM (RA c es)
 |[]=>Za #[Qe,λ_ _=>Qip]
 |e::es=>J6 (JK e≠0) λh=>Q9 o6 λa=>ϖ zL5 r #[Qa a.m r.m,λX k=>Qfz í xA zP2]
structure OB where
 op:Operator
 f:qe
 h:∀c X,Δ->â zIj zi5
structure QB where
 op:CmpOp
 f:qe
 h:∀c X,Δ->â jQb zi5
structure FB where
 x:Str
 f:Ū
 h:∀c X,Δ->Ş->yW=nO->∀{e es ms p pos},qD->μ->η->zo6
structure YB where
 x:Str
 T:String
 id:String
 f:zE
 pa:cB
 sl:Slot T x id
 ty:SX
 h:∀c X,Δ->zR5
abbrev fbB{x:Str}{id:String}{f:Ū}(b:zpc)(h:∀c X,Δ->CallR X zre qTf)(d:qL:=by decide)(hd:ŏ:=by decide):FB:=
 #[x,f,λc X k g m _ _ _ _ _ a s n=>Qfq (h c X k) Qaa g m b a d hd s n]
abbrev fbT{x:Str}{T:String}{f:Ū}(b:zpa)(h:∀c X,Δ->zE3 qTf)(d:qL:=by decide)(hd:ŏ:=by decide):FB:=
 #[x,f,λc X k g m _ _ _ _ _ a s n=>Qdv (h c X k) Qaa g m b a d hd s n]
structure Tbl where
 o:List OB
 q:List QB
 f:List FB
 y:List YB
abbrev coTbl:Tbl where
 o:=[#[_,_,λ_ _ _=>Qiw],#[_,_,λ_ _ _=>QhS],#[_,_,λ_ _ _=>QhO],#[_,_,λ_ _ _=>QfC],#[_,_,λ_ _ _=>Qhv],#[_,_,λ_ _ _=>Qee],#[_,_,λ_ _ _=>Qim]]
 q:=[#[_,_,λ_ _ k=>Qm0],#[_,_,λ_ _ k=>QlZ],#[_,_,λ_ _ k=>Qll k.hu],#[_,_,λ_ _ k=>Qlg k.hu],#[_,_,λ_ _ k=>Qkh k.hu],#[_,_,λ_ _ k=>QbP k.hu],#[_,_,λ_ _ k=>Qkx],#[_,_,λ_ _ k=>QaC k.hu],#[_,_,λ_ _ k=>QbY],#[_,_,λ_ _ k=>Qjn k.hu]]
 f:=[fbB PySem.boot_len λ_ _ k=>QbR,fbT PyProof.Rows.boot_int λ_ _ k=>QdH,fbT PyProof.Rows.boot_tuple λ_ _ k=>UY,fbT Oy λ_ _ k=>QaO,fbT Oy λ_ _ k=>UW k.cal,fbB Yaq λ_ _ k=>Ur k.hu,fbT PyProof.Rows.boot_dict λ_ _ k=>Wv k.cal k.hu]
 y:=[#[_,_,_,_,Dw,IH,PySem.F.type_list_append,λ_ _ k=>QaF],#[_,_,_,_,Dw,Yai,PySem.F.type_list_pop,λ_ _ k=>Qji],#[_,_,_,_,Dw,Fy,LX,λ_ _ k=>U9],#[_,_,_,_,Dw,Fy,LX,λ_ _ k=>Qa4],#[_,_,_,_,Dw,L4,PySem.F.type_list_index,λ_ _ k=>Qcl k.hu],#[_,_,_,_,L6,Lb,PySem.F.type_dict_setdefault,λ_ _ k=>QhP k.hu],#[_,_,_,_,L6,OG,PySem.F.type_dict_get,λ_ _ k=>QfW k.hu]]
abbrev Gd(a:Scope):Á:=(a.names.filter (·.2==.free)).map (·.1)
abbrev Gg(b a:Scope):Scope:={ a with names:=a.names.map λ(n,k)=>if(k==.free&&b.kind==.function&&wB b n==π)then(n,.cell)else(n,k) }
abbrev Cf.inn(c:Cf)(Nb:Á)(a:Scope):Cf:={ c with N:=Nb,sc:=Gg c.sc a,fn:=false }
abbrev Qe8(c:Cf)(a:Scope)(cp:ϙ)(Nb:Á):Prop:=
 qD1/\Qbn a=true/\Qf8 a (Gd a).reverse=true/\zCb/\QkT c.N c.sc a cp Nb=true/\Nb.Nodup /\
 (a.names.all λy=>qTg ||qq2==π ||qq2==y9)=true
noncomputable instance:Decidable (Qe8 c scope cp Nb):=by unfold Qe8;show zej
def QjR{env:Env}(b:zBi):(∀y∈b,y.2=.free->∃a,zId y=sO a)->∀c:Bz,(∀p∈c,zId p=pA) ->
  ∃d,(forIn b c (λ(p:Str×NameKind) (r:Bz)=>if(p.2==.free)=true then(do let a <-cellOf env p.1;pure (uS ((p.1,a)::r)):Sem _)else jec))=pure d /\
   d.map (·.1)=((b.filter (·.2==.free)).map (·.1)).reverse++c.map (·.1)/\∀p∈d,zId p=pA:=by
 induction b with
 |nil=>show λ_ c h=>#[c,rfl,rfl,h]
 | cons y r o=>
  intro h c q;show Ď n k y;cases f:(k==NameKind.free)with
  |false=>
   let#[d,m,l,j]:=o jXf c q;refine qPi
   ·rw[IC,if_neg (by rw[f];nofun)];show m
   ·rw[l,Ir,if_neg (by rw[show qkd=false from f];nofun)]
  | true=>
   let#[a,s]:=h (n,k) xb8 (DF f)
   let#[d,m,l,j]:=o jXf ((n,a)::c) (λp i=>by
    rcases NI.mp i with e|i
    ·show ī e s
    ·show q p i)
   refine qPi
   ·rw[IC,Ð f,show cellOf env n=pure a from by unfold cellOf;rw[s]];show m
   ·rw[l,Ir,if_pos (show qkd=true from f)];simp
def QmO(k:Δ)(h:Qe8 c a cp Nb):∃d,cZ a d/\∀b e C v i,CxOk (c.inn Nb a) (blk X a d Nb b e C v i):=by
 let#[u,t,s,r,q,p,o]:=h
 let#[d,B,A,z]:=QjR (env:=X.env) a.names (λy j n=>k.ce y.1 (by
  let:=DX.mp o y j;show ut n
  show uX)) [] (λ_ m=>BK m)
 let g:cZ a d:=QmH (by unfold closureFor;show congrArg (·>>=pure) B) u t (Ć A (Eb _)) s z k.N k.sc r q;let f:relabel a X.env=Gg c.sc a:=by unfold relabel Gg Env.kindOf;rw[k.sc]
 show#[d,g,λ_ _ _ _ _=>#[rfl,p,f,k.cal,.never,k.rm,nofun,λx l=>g.has x (Sq f l),k.tb]]
abbrev QoS:Nat->Á->MM qr8
 |0,_=>Za []
 |n+1,fs=>GS λd=>coMo fs[d]? λx=>ϖ (QoS n (fs.eraseIdx d)) r CA
abbrev QcA:Expr->Á
 |zUg=>[x]
 |qPj=>es.filterMap λ|zUg=>sO x|_=>nO
 |_=>[]
noncomputable abbrev RG(c:Cf)(a:Expr):=RM c MG λX m=>PMG X a m
abbrev QmV(c:Cf):(es:é)->Option {is:ĉ // ∀X,Δ->zC7/\jy8/\(assignEach es X.env).findIdx? (·.1)=nO}
 |[]=>sO #[[],zXg #[Qe2,rfl,rfl]]
 | pk p::es=>(KF x c.N).bind λi=>if h:fE then(QmV c es).map λr=>#[i.1::r.1,λX k=>
   have#[a,b,d]:=r.2 X k
   #[Qcq k.nd zUe zP3 a zP4,congrArg (·+1) b,by
    apply List.findIdx? _ ((false,_)::assignEach es X.env)=nO
    rw[List.findIdx?_cons,d];rfl]]else nO
 |_=>nO
abbrev Qqu(c:Cf):(f:Expr)->MM (RG c f)
 |pk p=>coMo cV λi=>J6 qPh λh=>Za #[Zn i.1,λ_ k=>Qeb k.nd zUe zP3 zP4]
 | .Tuple es _ p=>GS λd=>coMo (QmV c es) λr=>Za #[VC r.1,λX k=>
   have#[a,b,e]:=r.2 X k
   Qep k.cal a b e]
 |_=>ŀ
noncomputable abbrev RI(c:Cf)(a e:Expr):=RM c MI λX m=>PMI X a e m
abbrev QpX(i:Ih)(c:Cf)(l e:Expr):MM (RI c l e):=GS λd=>match d with
 |0=>Ai #[Qv a.m,λX k=>QjC í]
 |1=>Ai #[ZA a.m,λX k=>Qdd í]
 | d=>match e with
  | .Call SZ o [] pos=>Qnn c x λg=>Q9 (QcZ i c o) λr=>match o with
   | [a]=>J6 (JK a≠0) λh=>match d with
    |2=>J6 (x="range") λf=>Za #[QaM r.m,λX k=>by subst f;show QlE pL CU xA zEe]
    |3=>J6 (x="reversed") λf=>Za #[Qb8 r.m,λX k=>by subst f;show Qi7 pL CU xA zEe]
    |5=>match l with
     |.Tuple _ _ _=>J6 (x="enumerate") λf=>Za #[J7 r.m,λX k=>by subst f;show QdE pL CU xA zEe]
     |_=>ŀ
    |_=>ŀ
   | [a,b]=>J6 (x="range"/\JK a≠0/\zWi) λh=>Za #[Qj4 r.m,λX k=>by
     let#[f,h,j]:=h
     subst f;show Qkf pL CU xA (by rw[CG h,CG j];rfl) ((Zh j).stE _ _)]
   | [a,b,q]=>J6 (x="range"/\JK a≠0/\zWi/\JK q≠0) λh=>Za #[Qj2 r.m,λX k=>by
     let#[f,h,j,n]:=h
     subst f;show Qma pL CU xA (by rw[CG h,CG j,CG n];rfl) (by rw[CG j,CG n];rfl)]
   |_=>ŀ
  |_=>ŀ
abbrev Qmj(X:Cx)(m:MT):é->Prop
 |[]=>True
 |[q]=>PMT X q m
 |_=>False
noncomputable abbrev RlH(X:Cx)(a:Scope)(i:Bz)(Nb:Á)(j h:Expr)(f:é)(b:MG)(m:ME)(t:MT):Prop:=∀c d C g e,PMG (blk X a i Nb c d C g e) j b/\PM (blk X a i Nb c d C g e) h m/\Qmj (blk X a i Nb c d C g e) t f
structure RL(c:Cf)(elt tg iter:Expr)(ifs:é)(scope:Scope) where
 fin:Ū
 i:MI
 b:MG
 t:MT
 m:ME
 cp:ϙ
 Nb:Á
 hf:∀K,Ym K fin
 h:∀X,Δ->∃cl,Bq/\PMI X tg iter i/\(∀x,jX3)/\RlH X scope cl Nb tg elt ifs b m t
abbrev Qnq(a:é)(fin:Ū)(i:MI)(cp:ϙ)(b:MG)(q:MT)(m:ME):ME:=Zz fin i cp b (match a with|[]=>Uo|_=>q) m
def Qke(i:k8)(j:ţ)(B:cZ c l)(hi:PMI X f iter a)(h:RlH X c l Nb f e d b m t)(g:yC):ì (.ListComp e [mP f d] c pos) qke:=by
 cases d with
 |nil=>show Qfc i j B hi nu iX g
 |cons q r=>cases r with
  |nil=>show Qfd i j B hi nu qg1 iX g
  |cons=>show jVb
def Qly{w:Bool}(hN:X.N.Nodup)(e:Ν)(f:jFi)(p:k8)(s:ţ)(B:cZ c u)(hi:PMI X n iter a)(h:RlH X c u Nb n l d b m t)(o:yC)
  (hw:swapsWith jO9 (sO RJ) g.line X.env=pure w):yu (.Assign [pk j] jO9 g) (QA i qke):=by
 cases w with
 |false=>show Qd9 hN e f.1 (Qke p s B hi h o) hw f.2
 | true=>cases d with
  |nil=>show Qdr hN e f.1 f.2 p s B hi nu iX o hw
  |cons q r=>cases r with
   |nil=>show QbG hN e f.1 f.2 p s B hi nu qg1 iX o hw
   |cons=>show jVb
abbrev Qq8(i:Ih)(c:Cf):(a:é)->MM (RM c MT λX m=>Qmj X m a)
 |[]=>Za #[Uo,λ_ _=>True.intro]
 |[q]=>ϖ bR t #[t.m,t.h]
 |_=>ŀ
abbrev Qp4(i:Ih)(c:Cf)(n j iter:Expr)(l:é)(b:Scope):MM (RL c n j iter l b):=GS λd=>
 Q9 (QoS (Gd b).length (Gd b)) λf=>J6 (Qe8 c b ((QcA j).map zQh++f.map λx=>c.N.findIdx? (·==x)) qed/\JK iter≠0) λh=>
 Q9 (QpX i c j iter) λa=>Q9 (Qqu zy8 j) λg=>
 Q9 (Qq8 i zy8 l) λt=>
 Q9 (i.e zy8 n) λe=>Za #[if d=0 then XN else Qp9,a.m,g.m,t.m,e.m,_,_,λK=>by split;show(Qg8,QjE),λX k=>
  have#[p,B,o]:=QmO k h.1
  #[p,B,a.h X k,(Zh h.2).fold _,λ_ _ _ _ _=>#[zUh g,zUh e,zUh t]]]
def Qm1{env:Env}{o e:Expr}{es:é}{x:Str}{apos pos:Pos}(h1:zWj)(h2:zWh)(c:(apos.endLine==pos.line)=true)(d:qq3)(h:wk) :
  zc8 zw4=(do
   let a <-zc8 o
   zCg
   let(f,first) <-holding [a] (getMethod a x (do return(<-importBound o env).getD true))
   callWith pos f first zte ztg):=by
 let g:methodCallForm (iK+zz0) zte ztg=true:=by
  unfold methodCallForm
  rw[show(backTo pos jL8).all (!·.1)=true from by
   show(qr5 d,uX)]
  show h
 apply(do
  let a <-attributeBase o x env (u5 o)
  zCg
  methodCall o x apos pos env a (iK+zz0) zte ztg)=_
 rw[(Zh h1).attr h2];let b:methodCallPos true o env apos pos=pure pos:=if_pos (ja9 c);unfold methodCall;rw[g,b];rfl
noncomputable abbrev RO(c:Cf)(e:MD):=RM c MOp λX m=>PMO X e m
abbrev QpW(i:Ih)(c:Cf):(e:MD)->MM (RO c e)
 |none=>Za #[Vn,λ_ _=>Qeu]
 |Û e=>Ai #[Vr a.m,λX k=>Qeq í]
abbrev QrD(c:Cf)(j:Nat)(p:Pos):(v:Const)->MM (RE c (.Constant v j p))
 |Ä i=>Za #[mC Ŀ,λ_ _=>Qm4]
 |Æ x=>Za #[mC Ě,λ_ _=>QkA]
 |zd0=>Za #[mC yY,λ_ _=>QnO]
 |.none=>Za #[mC .non,λ_ _=>QkF]
 |_=>ŀ
abbrev QpV(i:Ih)(c:Cf)(a b:Expr)(op:CmpOp):MM (RM c ME λX m=>∀pos,ì Ha m/\PMT X Ha (Qm m)):=
 GS λd=>coMo coTbl.q[d]? λq=>J6 (q.op=op/\zWi) λh=>Q9 Bh λg=>Q9 gQ λj=>Za #[Qc q.f g.m j.m,λX k pos=>by
  show my
  show#[Qk5 (Px q) GI zid zie qAj,Qhr (Px q) GI zid zie qAj]]
abbrev QnJ(g:Str)(es:é):Option {e:Expr×Pos×Pos // es=[.Call (.Name g e.2.1) [e.1] [] e.2.2]}:=match es with
 |[.Call SZ [e] [] q]=>if h:x=g then sO #[(e,p,q),by rw[h]]else nO
 |_=>nO
abbrev QrT(i:Ih)(c:Cf)(x:Str)(p:Pos)(es:é)(pos:Pos):MM (RE c (.Call SZ es [] pos)):=GS λd=>match d with
 |0=>coMo (Yi 1 x c.t) λr=>J6 zoi λh=>match es with
  |[]=>Za #[Qg HU r.1.g Qe,λX k=>Qbq (k.fc r) Ck Mm rfl h.2.2]
  |e::es=>oa #[jv6,λX k=>Gm (k.fc r) Ck Mm í rfl h.2.2 cv z.2]
 |1=>coMo (Yi 3 x c.t) λr=>J6 (r.1.k+1<=c.k/\jD4) λh=>match es with
  |[]=>Za #[Wl r.1.C HU r.1.g Qe,λX k=>QfA bF bG Ck Mm rfl h.2.2]
  |e::es=>oa #[Wl r.1.C HU r.1.g a.m,λX k=>Qh6 bF bG Ck Mm í rfl h.2.2 cv z.2]
 | 2=>coMo (QnJ "set" es) λr=>Qnn c x λg=>Qnn c "set" λb=>J6 (x="sorted"/\JK r.1.1≠0) λh=>Q9 (i.e c r.1.1) λa=>Za #[mFn ZX (Qa a.m Qe),λX k=>by
   let#[r,rfl]:=r;show my
   show Wq k.cal pL CU (b X k).1 (b X k).2 í zP2]
 |3=>ŀ
 |4=>ŀ
 |28=>coMo qLb λr=>J6 zoi λh=>match es with
  |[]=>ŀ
  |e::es=>oa #[jv6,λX k=>Gm bF Ck Mm í rfl h.2.2 cv z.2]
 |29=>coMo qLb λr=>J6 zoi λh=>match es with
  |[]=>ŀ
  |e::es=>oa #[KI HU r.1.g a.m,λX k=>QeU bG Ck Mm í rfl h.2.2 cv z.2]
 | d=>coMo coTbl.f[d-5]? λr=>Qnn c x λg=>match es with
  |[]=>ŀ
  |e::es=>J6 (r.x=x/\BM/\η) λh=>Q9 im λa=>Za #[mFn r.f a.m,λX k=>by
   let#[rfl,h,z]:=h
   show r.h c X k pL CU í zP2 z]
abbrev QqK(i:Ih)(c:Cf)(o:Expr)(x:Str)(p:Pos)(es:é)(pos:Pos):MM (RE c (.Call qs2 es [] pos)):=GS λd=>match d with
 |0=>coMo (Yi 2 x c.t) λr=>J6 (qh4/\jM7) λh=>match es with
  |[]=>ŀ
  |e::es=>J6 (BM/\η/\qq3/\wk) λz=>Q9 SG λcoMo=>ϖ im a #[Jt r.1.C x HU r.1.g coMo.m a.m,λX k=>Qid bF bG Ck zL6 í rfl cv z.2.1 (Qm1 h.2.1 zdb zZ9 z.2.2.1 z.2.2.2)]
 | d=>coMo coTbl.y[d-1]? λr=>J6 (r.x=x/\jM7) λh=>Q9 SG λcoMo=>match es with
  |[]=>Za #[mMt r.T r.f coMo.m Qe,λX k=>by
   show qZ0
   show Qmw r.pa r.sl r.ty (Px r) zL6 qq4 b]
  |e::es=>J6 (wk/\BM/\η) λz=>Q9 im λa=>Za #[mMt r.T r.f coMo.m a.m,λX k=>by
   show qZ0
   show Qoq r.pa r.sl r.ty (Px r) zL6 í qq4 z.1 b (Zh z.2.1).star z.2.2]
abbrev QrU(c:Cf)(x:Str)(p:Pos):MM nN:=ŀ
abbrev QrZ(c:Cf)(x:Str)(p:Pos):MM nN:=coMo (Yi 5 x c.t) λr=>J6 (qA=Tk/\zug=false) λh=>match e:r.1.g [] []with
 | Û q=>Za #[mC q.1,λX k=>by
   let#[v,a,G]:=k.fc r;rw[e]at a;rw[(Prod.ext_iff.mp (NY a)).1]
   show QfJ G (k.gl h.1) h.2]
 |none=>ŀ
abbrev Qrf(c:Cf)(x:Str)(p:Pos):MM nN:=λn=>match QrH c x p n with
 |Û r=>sO r
 |none=>match QrZ c x p n with
  |Û r=>sO r
  |none=>QrU c x p n
abbrev Qp6:(ks:Tm)->(vs:é)->Option {c:HY // ∀X pos,jHb}
 |[],[]=>sO #[[],λ_ _=>Qjz]
 |some (.Constant jvj _ _)::ks,.Constant Bf _ _::vs=>(Qp6 ks vs).map (ύ r #[(a,b)::r.1,λX pos=>Qfg Qcv Qcv (r.2 X pos)])
 |_,_=>nO
abbrev QmW(i:Ih)(c:Cf):(e:Expr)->xb6
 |pk p=>Qrf c x p
 |.Constant v j p=>QrD c j p v
 | .BinOp a op b _=>GS λd=>coMo coTbl.o[d]? λo=>J6 (o.op=op) λh=>Q9 Bh λy=>Q9 gQ λw=>Za #[Qc o.f y.m w.m,λX k=>by
   subst h;show QoO (Px o) GI (yQ y) (yQ w)]
 |.UnaryOp .USub a _=>Χ Bh a #[mUn Qa0 a.m,λX k=>Qkm í]
 |qB0=>Χ Bh a #[Y5 a.m,λX k=>Qil í]
 |.IfExp q a b _=>Q9 bR λq=>Q9 Bh λa=>Χ gQ b #[mIf q.m a.m b.m,λX k=>QnK zif í jE]
 |qh5=>ϖ qxc q #[q.m,λX k=>(q.h X k p).1]
 |.BoolOp _ [a] _=>Χ Bh a #[a.m,λX k=>Qlo í]
 |.BoolOp .And xa0 p=>Q9 Bh λa=>Χ (Ci (.BoolOp .And ze3 p)) b #[QdO a.m b.m,λX k=>Qkk í jE]
 |.BoolOp .Or xa0 p=>Q9 Bh λa=>Χ (Ci (.BoolOp .Or ze3 p)) b #[mOr a.m b.m,λX k=>Qpr í jE]
 |qPj=>ϖ zL5 a #[mFn Qz a.m,λX k=>Qm6 í]
 |.List es _=>GS λd=>ϖ zL5 a #[mFn (if d=0 then Zs else Yf) a.m,λX k=>by split;show(Qlt í,Qk6 í)]
 |.Dict zO9 vs _=>coMo (Qp6 zO9 vs) λr=>J6 ((sO k::ks).all (·.isSome)=true/\qB1=vs.length/\qB1<=15/\r.1.length<=15) λh=>Za #[UC r.1,λX _=>Qm9 (r.2 X _) h.1 h.2.1 nofun zdb zZ9]
 |.Dict [] [] _=>GS λd=>Za #[if d=0 then Qlq else Z9,λX k=>by split;show(QjS,Qix)]
 |.Subscript a (.Slice lo hi nO _) _=>Q9 Bh λa=>Q9 (QpW i c lo) λl=>Χ (QpW i c hi) u #[mSl a.m l.m u.m,λX k=>Qec í (yQ l) (yQ u)]
 |.Subscript a b _=>GS λd=>J6 (JK b≠0) λh=>Q9 Bh λa=>Q9 gQ λb=>match d with
  |0=>Za #[Qc wIx a.m b.m,λX k=>QoN í jE zUi]
  |1=>Za #[Qc QeR a.m b.m,λX k=>QkS k.hu í jE zUi]
  |_=>Za #[Qc U3 a.m b.m,λX k=>QlI k.hu í jE zUi]
 |qEb=>coMo qLc λC=>J6 (zWj/\zWh) λh=>Χ SG a #[mUn (ZR C.1.C f) a.m,λX k=>Qla (k.fc C).1 (k.fc C).2 í ((Zh h.1).attr h.2 _ _)]
 | .ListComp s [mP z n] g _=>Q9 (Qp4 i c s z iter n g) λr=>Za #[Qnq n r.fin r.i r.cp r.b r.t r.m,λX k=>
   have#[_,B,p,f,h]:=r.h X k
   Qke (r.hf _) k.cal B p h f]
 |.Call SZ es [] pos=>QrT i c x p es pos
 |.Call qs2 es [] pos=>QqK i c o x p es pos
 |_=>ŀ
abbrev QnP(i:Ih)(c:Cf)(p:Pos):(o:BoolOp)->(es:é)->MM (RM c MT λX m=>PMW X (.BoolOp o es p) m)
 |.And,[a]=>ϖ fu a #[a.m,λX k=>QfV í]
 |.Or,[a]=>ϖ fu a #[a.m,λX k=>QjG í]
 |.And,a::b::r=>Q9 fu λa=>Χ (QnP i c p .And ze3) b #[Vo a.m b.m,λX k=>Qhq í jE]
 |.Or,a::b::r=>Q9 fu λa=>Χ (QnP i c p .Or ze3) b #[QiG a.m b.m,λX k=>QkP í jE]
 |_,_=>ŀ
abbrev QoT(i:Ih)(c:Cf)(e:Expr):xb7:=match e with
 |qB0=>ϖ fu a #[Qc0 a.m,λX k=>Qhj í]
 |.BoolOp o d p=>Χ (QnP i c p o d) a #[a.m,λX k=>(a.h X k).pt]
 |qh5=>ϖ qxc q #[Qm q.m,λX k=>(q.h X k p).2]
 |e=>J6 (BM/\JK e≠4) λh=>Χ (QmW i c e) a #[Uq a.m,λX k=>Qha í ((Zh h.1).tru h.2 _)]
abbrev Qoy(n:Nat):Ih:=n.rec #[xb9,xb9] λ_ i=>#[QmW i,QoT i]
noncomputable abbrev RS(c:Cf)(st:Stmt):=RM c SM λX m=>PMS X st m
noncomputable abbrev RB(c:Cf)(l:j0):=RM c SM λX m=>GK X l m
abbrev Qj3(s:zz4)(c:Cf):(l:j0)->MM (RB c l)
 |[]=>Za #[QN,λ_ _=>QiE]
 |[st]=>Χ (s c st) a #[a.m,λX k=>Qjb í]
 |st::d::l=>Q9 (s c st) λa=>Χ (Qj3 s c (d::l)) b #[Qn a.m b.m,λX k=>Qek í jE]
abbrev Qpp(c:Cf)(x:Str)(p b:Pos)(a:Scope):Bool:=qA==yT&&qLd&&!(a.names.any λ(n,k)=>n==x&&(k==.local ||k==.cell))
def QqT{d:Expr}{g:List Comprehension}{a:Scope}{x:Str}{p b:Pos}{l:Nat}(k:Δ)(h:qud) :
  swapsWith (.ListComp d g a p) (sO (pR x b)) l X.env=pure (Qpp c x p b a):=by
 apply pure (X.env.blockKind==.function&&dI==yT&&qLd&&_)=_;rw[show X.env.blockKind=.function from by unfold Env.blockKind;rw[k.sc,h];rfl,k.sc];rfl
structure UB where
 op:Operator
 f:qe
 h:∀c X,Δ->â zHa zi5
abbrev coTbU:List UB:=[#[_,_,λ_ _ _=>Qfi]]
abbrev QnS(i:Ih)(s:zz4)(c:Cf):(st:Stmt)->MM qj5
 |.Return lg _=>Ai #[Zg a.m,λX k=>Qit í]
 |.Raise _ _ _=>Za #[Qei,λ_ _=>Qf7]
 |.If q a b _=>Q9 bR λq=>Q9 (Qj3 s c a) λa=>Χ (Qj3 s c b) b #[ZE q.m a.m b.m,λX k=>QmZ zif í jE]
 |.Expr e _=>J6 (BM/\l9) λh=>Ai #[QM a.m,λX k=>Qe5 í qq5]
 |.For u it body [] _=>J6 (JK it≠0) λh=>Q9 (QpX i c u it) λa=>Q9 (Qqu c u) λg=>ϖ qEc b #[ZM a.m g.m b.m,λX k=>Qiz k.xe k.cal í zid jE ((Zh h).fold _)]
 |.While q body [] _=>GS λd=>Q9 bR λq=>ϖ qEc b #[QV q.m b.m (if d=0 then 1000000 else 20000000),λX k=>QbM _ k.xe zif jE]
 | .AugAssign (.Name x _) op e _=>coMo (coTbU.find? (·.op=op)) λo=>J6 (o.op=op/\fE) λh=>coMo cV λj=>Q9 o6 λa=>Za #[Qjy j.1 o.f a.m,λX k=>by
   show my
   show QiA k.nd zUf zP3 (Px o) GI í zP4]
 | .Assign [pk w] (.ListComp v [mP u n] l p) sp=>J6 (fE/\qud) λh=>coMo cV λj=>Q9 (Qp4 i c v u iter n l) λr=>Za #[QA j.1 (Qnq n r.fin r.i r.cp r.b r.t r.m),λX k=>
   have#[_,B,q,f,g]:=r.h X k
   Qly k.nd zUf (h.1.loc k) (r.hf _) k.cal B q g f (QqT k h.2)]
 |.Assign [zUg] e _=>J6 (fE/\BM/\l9) λh=>coMo cV λj=>Ai #[QA j.1 a.m,λX k=>QhH k.nd zUf (h.1.loc k).1 í qj6 (h.1.loc k).2]
 |.Assign [qEb] e _=>J6 (BM/\l9) λh=>coMo qLc λC=>Q9 SG λo=>Ai #[Xu C.1.C f o.m a.m,λX k=>Qi8 (k.fc C).1 (k.fc C).2 (yQ o) í (KB qq5)]
 |.Assign [.Subscript o j _] e _=>GS λd=>J6 (JK j≠0/\BM/\l9) λh=>Q9 SG λo=>Q9 (Ci j) λj=>Q9 o6 λa=>match d with
  |0=>ŀ
  |1=>ŀ
  |_=>Za #[YM o.m j.m a.m,λX k=>Qfw k.hu (yQ o) zie í qj6]
 |_=>ŀ
abbrev QnI(n:Nat):zz4:=n.rec (λ_ _ _=>nO) λ_ s=>QnS (Qoy 50) s
structure Rc where
 x:Str
 ps:Á
 st:Stmt
 C:Option (Nat×Str)
 fr:Option (W->ĉ)
 ch:Nat
abbrev QcJ(a:Scope):Á:=(a.names.filter λy=>y.2==.local ||y.2==.cell).map (·.1)
abbrev QhV(N ps:Á)(a:Scope):Prop:=qD1/\a.isCoroutine=false/\a.isGenerator=false/\N.Nodup/\N.take ps.length=ps/\(∀x∈ps,jcf)/\∀y∈a.names,qYc
noncomputable instance:Decidable (QhV N ps sc):=by unfold QhV;show zej
abbrev Qsa(n:Nat)(t:BY)(st:Stmt)(ps:Á)(ch:Nat):Option {m:FM // ∀Z:Wd,que->(∀x,DefAt Z.K Z.mg x st ps->jTc)/\(∀C x q,qV4 C->Mal Z.P Z.w Z.K Z.mg Z.base (n+1) C x ps m)
   /\ ∀x,qm6->jTc/\CalD Z.P Z.w Z.K Z.mg Z.base (n+1) x ps m
   }:=
  match GS (λd=>if d=0 then Za qs3 else QoS (QcJ Ŵ).length qs3) ch with
  | some (N,ch)=>if h:QhV N ps Ŵ then match Qj3 (QnI 50) qo9 ψ ch with
    | some (b,_)=>sO #[Qs qoa b.m,λZ j=>
      have S:C4:=#[h.1,h.2.1,zdb,h.2.2.2.1,h.2.2.2.2.1,h.2.2.2.2.2.1,h.2.2.2.2.2.2]
      have i:N.length=ps.length+qoa:=by
        show qa4;omega
      have O:∀(q:Str) (f:Addr) (c:Value) (A:Around) (a:ŷ) (s:Shared) (H:Hp) (E:XK),AN n q c->CxOk qo9 (Qbg CX0 Z.P Z.w Z.K Z.mg Z.base N q Ŵ f c A a s H E).nox:=
        λq f c A a s H E e=>#[rfl,S.nd,rfl,rfl,.never,e,Ŕ,λx g=>g.elim YS λg=>jy1 g,j]
      #[λx d=>QkX d S i λf c A a s H E e=>zuj,λC x q d=>Qlb d S i λf c A a s H E e=>zuj
      , λx d=>Qhc d S i λf c A a s H E e=>zuj
      ]]
    |none=>nO
    else nO
  |none=>nO
abbrev Rc.fc(a:qZ)(n:Nat)(r:Rc)(g:FM):Fc:=match r.C with
 |none=>#[1,r.x,a 0,n+1,r.ps,match r.fr with|none=>g|Û f=>box f g]
 |some (C,b)=>
  if b="="then#[6,r.x,a 0,n+1,r.ps,match r.fr with|none=>g|Û f=>box f g]else
  if r.x="__init__"then#[3,b,a C,n+1,r.ps,g]else#[2,r.x,a C,n+1,r.ps,g]
abbrev Rc.at(b:qZ)(Z:Wd)(r:Rc):Prop:=match r.C with
 |none=>DefAt Z.K Z.mg r.x r.st r.ps
 |some (C,a)=>
  if a="="then DefAtD Z.K Z.mg r.x r.st r.ps else
  ClsAt Z.K Z.mg (b C) a/\∃q,MetAt Z.K (b C) r.x q r.st r.ps
abbrev QcP(a:qZ)(n:Nat)(t:BY):P6->lA->Option (List FM)
 |r::l,g::gs=>(Qsa n t r.st r.ps r.ch).bind λm=>(QcP a (n+2) qB2 l gs).map (m.1::·)
 |_,_=>sO []
abbrev Qds(a:qZ)(n:Nat)(t:BY):P6->lA->BY
 |r::l,g::gs=>Qds a (n+2) qB2 l gs
 |_,_=>t
def Qpj {e:qZ} {Z:Wd} {n:Nat} {r:Rc} {g:FM} (a:r.at e Z) (M:(∀x,DefAt Z.K Z.mg x r.st r.ps->jSf)/\(∀C x q,MetAt Z.K C x q r.st r.ps->Mal Z.P Z.w Z.K Z.mg Z.base (n+1) C x r.ps g)
   /\ ∀x,DefAtD Z.K Z.mg x r.st r.ps->jSf/\CalD Z.P Z.w Z.K Z.mg Z.base (n+1) x r.ps g
   ):(r.fc e n g).ok Z:=by
  let#[x,ps,st,C,i,ch]:=r;cases C with
  | none=>cases i with
    |none=>show M.1 _ a
    |some f=>show(M.1 _ a).box f
  | some c=>
    let#[c,d]:=c
    by_cases hd:d="="
    · let b:qm6:=by
        let:(nY:Prop):=a;rwa[za9]at this
      clear a;apply(nY:Fc).ok Z;rw[za9];cases i with
      |none=>show M.2.2 _ b
      |some f=>show#[(M.2.2 _ b).1.box f,(M.2.2 _ b).2.box f]
    let a:ClsAt Z.K Z.mg (e c) d/\∃q,qV4 (e c):=by
      let:(nY:Prop):=a;rwa[if_neg hd]at this
    let#[a,q,b]:=a;apply(nY:Fc).ok Z;rw[if_neg hd];split
    · rename_i h;show#[a,h▸qQ0]
    show Š #[a.cl,qQ0]
def Qk1(b:qZ)(Z:Wd)(l:P6):∀(n:Nat) (t:BY) (gs:lA),que->(∀r∈l,r.at b Z)->QcP b n t l gs=sO gs->∀f∈Qds b n t l gs,zf9:=by
 induction l with
 |nil=>show λn t gs h _ _=>h
 | cons r l d=>
  intro n t gs h c e;cases gs with
  |nil=>show h
  |cons g gs=>
   show je m v s e u q p;let#[o,j]:=YaR p;refine d _ _ gs (qa f a) (λr i=>c r (.tail _ i)) (Ć q (by rw[j]))
   show ϲ a
   ·show Qpj (c r xb8) (o▸m.2 Z h)
   ·show h f a
abbrev Wo:FM:=λ_ _=>nO
abbrev oks(Z:Wd):BY->Prop
 |[]=>True
 |f::l=>zf9/\oks Z l
abbrev ats(a:qZ)(Z:Wd):P6->Prop
 |[]=>True
 |r::l=>r.at a Z/\ats a Z l
def Qm5{b:qZ}{Z:Wd}{l:P6}{t:BY}{gs:lA}{f:Fc}(h:oks Z t)(d:ats b Z l)(e:QcP b 0 t l gs=sO gs)(hd:(Qds b 0 t l gs).head?=sO f):zf9:=by
 refine Qk1 b Z l 0 t gs ?_ ?_ e f (List.mem_of_mem_head? hd)
 ·clear e hd
  induction t with
  |nil=>show je8
  |cons a t c=>show qce h
 ·clear e hd
  induction l with
  |nil=>show je8
  |cons a t c=>show qce d
#print"-"
#print"-Mi"
namespace My
open L2 Mi
set_option maxRecDepth 100000
abbrev top(i:Nat):Stmt:=LD.main.body.getD i jYe
noncomputable abbrev VH:W:=Ì (QfE [])
noncomputable abbrev XB:W:=Ì (QfE jW0)
abbrev ZK:FM:=Qs 1
  (Qn (ũ (Qm (Qc wLt ñ dL)) (Ċ (Qc ZD (á î ñ) (Qc Qj6 jVc qe4))))
  (Qn (QA 2 (ŋ xp2 (Qc Gh (Qc Gh zqj ñ) ñ)))
  (Qn (ũ (Qm (Qc wGt dL Į)) (QA 2 (ŋ þ (Qc Gh (Qc ZD (á î (Qc ZD ñ dL)) (mC (.int 1000003))) (Qc Q7 ñ jFa)))))
  (Zg (Qc Z0 (Qc ZD (Qc Gh þ (mC (.int 48271))) (mC (.int 2147483647))) zH9)))))
abbrev Qy:FM:=box frN ZK
abbrev J8:FM:=Qs 4
  (Qn (QA 3 (á ñ (zA6 (zde qk4))))
  (Qn (QA 4 (á ñ (zA6 (zde (mC (.int 60))))))
  (Qn (QA 5 (á ñ (zA6 (zde (mC (.int 300))))))
  (Qn (QA 6 (á þ (zB1 (zde (mC (.int 1500))))))
  (Ċ (Qc wIx (mFn Zs (Qa (Ř jHh) (Qa (Ř jHh) (Qa (ģ (Qa uL (da (SH zq1)))) (Qa (Ř (ve Hh)) (Qa (Ř (ve wK)) (Qa (Ř (Qa Hh (Bo ă))) (Qa (Ř (Qa wK zq1)) (Qa (Ř (ve nn)) (Qa (Ř (Bo zxh)) (Qa (Ř (Bo xV)) (Qa (Bb (Qa xV g8)) (ð (Ř (Qa Hh zq1))))))))))))))) (Qc ZD î qk4)))))))
abbrev Jy:FM:=jz J8
noncomputable abbrev Zr:SM:=(Qn jGi
  (ZE jCe (Qn (ę (Ϫ jV (ð (á (mFn Zs (Qa dX (ą T7))) (zX0 jv7)))))
  (ę (Ϫ Ś (ð (ģ (ą (á jV AU))))))) (ZE (Vo (ń (Ń jI4 ϯ)) dZ) (Qn (QA 9 (m5 jV))
  (Qn (ę (Ϫ Ś (ð (Ř (ą (Qc QeR (UC jSg) cJ))))))
  (ũ (Qm (Ń cJ T7)) (ę (Ϫ jV (ã rl)))))) (ę (Ϫ Ś (ã (Qg 3 Jy (ve jv7))))))))
noncomputable abbrev JQ:SM:=(Qn (ũ (ń (Ń (m5 jV) T7)) (ę (Ϫ Ś (ð (Ř (ą rl))))))
  (ę (Ϫ Ś (ð (Ř (ą xZ))))))
abbrev J1:FM:=Qs 5
  (Qn (QA 5 Bw)
  (Qn (QA 6 Bw)
  (Qn (ZM zxg zed
  Zr)
  (Qn (QV dZ JQ 1000000)
  (Zg Ś)))))
abbrev Zj:FM:=jz J1
abbrev JM:FM:=Qs 0
  (Ċ (á (mFn Zs (Qa (mFn Zs (Qa (mC (.str "a")) (Qa (mC (.str "ab")) (Qa (mC (.str "abc")) (Qa (mC (.str "b")) (ã (mC (.str "ba")))))))) (Qa (mFn Zs (Qa (mC (.str "x")) (Qa (mC (.str "y")) (Qa (mC (.str "z")) (Qa (mC (.str "u")) (ã (mC (.str "v")))))))) (ð (mFn Zs (Qa (ŋ xZ (mC (.str "s"))) (Qa (mC (.str "e")) (Qa (mC (.str "pairs")) (Qa (mC (.str "p")) (ą (mC (.str "q")))))))))))) (dF î)))
abbrev ZF:FM:=box frN JM
abbrev V8:FM:=Qs 9
  (Qn (QA 4 (gU jq7))
  (Qn (QA 5 (á þ (zB1 Ž)))
  (Qn (QA 6 (á þ (zB1 (lS zH9))))
  (Qn (QA 7 (á ă (Qc ZD (lS (mC (.int 25))) xkf)))
  (Qn (QA 8 (mFn Zs (ð (Qg 3 Jy (Qa (gU (Bl (ą (jJ ñ)))) zq2)))))
  (Qn (QA 9 (á (mFn Zs (Qa (ģ (Qa uL (Qa Ś (Qa Ϥ (Qa Ś g9))))) (ð (ģ (Qa uL (Qa Ś (Qa Ϥ (SH (ą Ś))))))))) (zX0 (lS (mC (.int 125))))))
  (Qn (QA 10 (á (mFn Zs (Qa (Ř (Qa Hh jSa)) (ã (Ř (Qa wK jSa))))) (zX0 (lS (mC (.int 250))))))
  (Qn (QA 11 (Qc ZD (lS xoc) zH9))
  (Qn (QA 12 (ŋ (Qc Q7 qB4 dy) jG9))
  (Qn (QA 12 (ŋ (Qc Q7 jQg jGa) dy))
  (Zg jx1)))))))))))
abbrev Z5:FM:=jz V8
abbrev Vm:FM:=Qs 7
  (Qn (QA 2 (gU (Bl (ã Į))))
  (Qn (QA 3 (mSl jW1 Vn jXj))
  (Qn (QA 4 (mSl jW2 Vn jY0))
  (Qn (ZE (Qm jk1) jEj jF0)
  (Qn (ZE jCf jF1 QN)
  (Qn (QA 6 (Qc ZD (vJ qk5) (jJ jJc)))
  (Qn (ũ (ń (Qc wNe (Qc ZD jv8 wj) ϯ)) (Ċ (Ř (ã jGc))))
  (Qn (QA 7 (Qg 5 Zj ji5))
  (Qn (QA 8 (mFn Zs jai))
  (Qn (QA 8 (mSl ya Vn jY1))
  (Qn (ZE jv9 jDb QN)
  (Qn (QA 5 (ŋ (Qc Q7 qB6 jTd) jGb))
  (Ċ (ģ (Qa jGc (Qa (mFn Qz (Qa zx3 (ð (mFn KW (ą Ϥ))))) (ð (mFn Qz (Qa qcf (ą (mFn KW (Qa ya Qe))))))))))))))))))))))
abbrev Jr:FM:=box frN Vm
noncomputable abbrev V6:SM:=(ę (mMt "list" Kl ñ (yx jB2)))
abbrev Vd:FM:=Qs 2
  (Qn nP
  (Qn (ZM qxd pw
  V6)
  qw0))
abbrev QT:FM:=box frN Vd
abbrev VB:FM:=Qs 0
  (Ċ (mFn ZX (ð (Zz XN wm [nO] ΢ df Si))))
abbrev J4:FM:=box frN VB
abbrev ZC:FM:=Qs 0
  (Qn (ZE df (Ċ (mFn Zs (oE (Qa jB1 (ð (á î wj)))))) QN)
  (Qn (ũ (ń (Qc zMc Bm (Ř (Qa Hh (Qa wK (Qa nn (Qa zxh (ã xV)))))))) (Zg (mFn QeH (ã jTe))))
  qw1))
abbrev KQ:FM:=box frN ZC
noncomputable abbrev Z4:SM:=(ę (mMt "list" X6 ñ (yx (Qg 1 KQ zmc))))
abbrev Vw:FM:=Qs 2
  (Qn nP
  (Qn (ZM wm pw
  Z4)
  (An (mFn ZX jD))))
abbrev Va:FM:=box frN Vw
abbrev VL:FM:=Qs 1
  (Qn (QA 3 (á Bm ϯ))
  (Ċ (ŋ (ģ (ð (mFn Qz (Qa (á Bm Į) (ą (Qc Q7 (Qc Q7 (mSl ă Vn qw7) (mFn Qz Rb)) (mSl ă qw7 Vn))))))) jTe)))
abbrev Jq:FM:=box frN VL
noncomputable abbrev V3:SM:=(ę (mMt "list" X6 ñ (ð (Zz XN (QaM (ą zoj)) zab ΢ Uo (ģ jbf)))))
abbrev Vh:FM:=Qs 2
  (Qn nP
  (Qn (ZM (QaM zq3) pw
  V3)
  qw0))
abbrev JB:FM:=box frN Vh
abbrev Jj:FM:=Qs 0
  (Qn (ZE (Qm (Qc zOe ñ (jW4 J4))) Qei QN)
  (ZE (Qm (Qc zOe þ zw8)) Qei QN))
abbrev V9:FM:=box frN Jj
abbrev Jm:FM:=Qs 1
  (Qn jEg
  (Qn (ZE (QiG qg2 (ń (Ń zki xhb))) zCa QN)
  (Ċ (á þ (TR AM)))))
abbrev Zc:FM:=box frN Jm
abbrev JO:FM:=Qs 0
  (Ċ (ģ (Qa (mFn Qz Qe) (Qa Į (Qa Į (ã HJ))))))
abbrev XF:FM:=box frN JO
abbrev X7:FM:=Qs 0
  (Ċ (ģ (Qa Bm (oE (uK (ã HJ))))))
abbrev Je:FM:=jz X7
abbrev Xi:FM:=Qs 0
  (Ċ (ģ (Qa Bm (oE (uK (ã wv))))))
abbrev XS:FM:=box frN Xi
abbrev QF:FM:=Qs 0
  (Qn (ZE (QiG (Qm (uJ T7)) (Qm (uJ dX))) qw2 QN)
  (Ċ (mIf (Qm (uJ xZ)) AU Į)))
abbrev Jk:FM:=box frN QF
noncomputable abbrev Kg:SM:=(Qn (Qjy 2 Qdl (Qg 1 Jk (ð (á î ă))))
  (ZE (ń (Ń þ ϯ)) zIc QN))
abbrev Xm:FM:=Qs 2
  (Qn (QA 2 Į)
  (Qn (ZM (Qj2 jia) vZ
  Kg)
  zCa))
abbrev VO:FM:=box frN Xm
noncomputable abbrev JX:SM:=(Qn (ũ (Vo (Qm (dC ă)) (ń (Ń (á (wJ Ž) Į) þ))) (Zg Ž))
  (Qjy 3 Qdl (Qg 1 Jk (ð (á î Ž)))))
abbrev Z1:FM:=Qs 2
  (Qn (QA 3 Į)
  (Qn (ZM (Qj4 joe) zee
  JX)
  zCa))
abbrev Zl:FM:=jz Z1
abbrev K7:FM:=Qs 0
  (Ċ (Qg 3 Zl (Bl (uK (ã rl)))))
abbrev YY:FM:=jz K7
abbrev X5:FM:=Qs 0
  (Ċ (Qg 3 Zl (Bl (uK (ã xZ)))))
abbrev Vx:FM:=jz X5
abbrev QE:SM:=(Qn (ũ (ń (Ń ă T7)) (Ċ (mFn Zs (Qa jH3 (ð (Qg 2 Je (jG (ą (jJ (Qg 2 YY (jL Rb)))))))))))
  (Qn (ũ (ń (Ń ă rl)) (Ċ (mFn Zs (ð (Qg 2 Je (jG (ą (jJ (Qg 2 Vx (jL Rb))))))))))
  (Qn (ũ (ń (Ń ă dX)) (An (mFn Zs (yx (Qg 2 XS zh1)))))
  (Qn (ũ (Vo (ń (Ń ă xZ)) (ń (Ń (á (wJ jN1) Į) dX))) (Ċ (mFn Zs (ð (Qg 2 XS (uK (ą jN1)))))))
  (Zg (mFn Zs (ã jH3)))))))
abbrev Zb:FM:=Qs 2
  (Qn (QA 2 zki)
  (Qn (QA 3 (á (wJ þ) Į))
  QE))
abbrev Jo:FM:=box frN Zb
abbrev Z6:FM:=Qs 1
  (Qn (QA 1 Bm)
  (Qn (ZE (Qc0 (Uq ñ)) qw1 QN)
  (Ċ (mFn Zs (ð (ģ (Qa (mSl ñ Vn (Vr AU)) (Qa (á (TR AU) Į) (Qa (jJ (á (TR AU) ϯ)) (ą HJ))))))))))
abbrev Vv:FM:=jz Z6
abbrev Ji:FM:=Qs 0
  (Ċ (mMt "list" W4 (Zz XN qxd [nO] ΢ Uo Bm) jD))
abbrev JN:FM:=box frN Ji
abbrev QI:FM:=Qs 3
  (Qn jEg
  (Qn (ZE qg2 (Ċ (mFn Zs (Qa (Qg 2 Je (jG (ð (jJ (Qg 2 Vx (Qa þ jm4)))))) (ð (Qg 2 Je (jG (ą (jJ zki)))))))) QN)
  (Qn (QA 3 (Qg 2 Zc jq7))
  (Qn (ũ (ń (Qc wIs ă wh)) (An (Qg 1 Vv jD)))
  (Qn (ZE (ń (Ń zk8 iH)) (Qn (QA 4 (ŋ zn2 (ģ (ð (mFn Qz (Qa (á ñ ϯ) jm4))))))
  (Ċ (mFn Zs (ð (ģ (Qa Ž (Qa (Qg 2 JN (Bl (ą zlh))) (Qa Į (ą HJ))))))))) QN)
  (Ċ (Qg 2 Jo (Qa þ jD))))))))
abbrev QH:FM:=box frN QI
noncomputable abbrev Yr:SM:=(ę (Ϫ þ g8))
noncomputable abbrev XU:SM:=(Qn (QA 3 (m5 þ))
  (ZE (ń (Qc zJj ă ñ)) (Qn (YM ñ ă wv)
  (ZM (Qb8 (ã zt7)) zee
  Yr)) QN))
abbrev Ya:FM:=Qs 4
  (Qn (QA 1 Z9)
  (Qn (QA 2 (mFn Yf (ã (Qg 0 XF Qe))))
  (Qn (QV zIe XU 20000000)
  (An (mFn Xa jD)))))
abbrev VR:FM:=box frN Ya
abbrev Zp:FM:=Qs 0
  (Qn (jg9 (QiG jx2 jx3) (An Si))
  (Zg (xba (Qm (uJ xV)))))
abbrev Y3:FM:=box frN Zp
abbrev KZ:FM:=Qs 0
  (Zg jF7)
abbrev VW:FM:=box frN KZ
abbrev V2:FM:=Qs 1
  (Qn (QA 2 (Zz XN qxe [nO,sO 0] ΢ Uo jN2))
  (Ċ (Zz XN qxf zab ΢ jCg î)))
abbrev XC:FM:=jz V2
noncomputable abbrev JL:SM:=(Qn (ZE jp7 jJ9 QN)
  (ę (mMt "list" X6 þ (ð (Zz XN zv0 zUj ΢ (Qm jY5) (ģ (jG (Qa Bm (ą zL)))))))))
abbrev Vg:FM:=Qs 3
  (Qn nP
  (Qn (QA 2 Bw)
  (Qn (ZM qxi vZ
  JL)
  (An (Bb (Qa (mFn XQ jD) (yx (mFn XQ zmc))))))))
abbrev QK(a:Addr):FM:=Qs 0
  (Qn (Xu a "rules" î ñ)
  (Qn (Xu a "things" î Z9)
  (Qn (Xu a "tied" î Z9)
  (Xu a "waiting" î Bw))))
abbrev Qt(a:Addr):FM:=Qs 1
  (Qn (QA 3 (iD jrj))
  (ZE jfc (Qn jNh
  (ę (Ϫ (ϵ qb1) (yx (Bb zh1))))) QN))
noncomputable abbrev Vz(a:Addr):SM:=(ę (Jt a "put" 3 lG î (Qa þ g8)))
abbrev JR(a:Addr):FM:=Qs 2
  (Qn (QA 3 (iD (ϵ qI2)))
  (ZE jfc (Qn jNh
  (ZM (Qv (jr2 a)) zee
  (Vz a))) QN))
noncomputable abbrev Ju(a b:Addr):SM:=jJa
noncomputable abbrev JI(a b:Addr):SM:=jJa
noncomputable abbrev Jx(a b:Addr):SM:=(ę (Jt a "put" 3 lG î (da jb7)))
noncomputable abbrev Jw(a b:Addr):SM:=(ę (Jt a "tie" 3 (JR a) î (Bo jB2)))
abbrev ZP(a b:Addr):FM:=Qs 2
  (Qn (ZM (Qv (dw (zy1 (ZR b "kept")))) vZ
  (Ju a b))
  (Qn (ZM (ZA (zs3 (ϵ qI2))) vZ
  (JI a b))
  (Qn (ZM (Qv (dw (zy1 (ZR b "wrapped")))) qEd
  (Jx a b))
  (ZE (Qm (Qc wNe þ fi)) (ZM (Qv (jFj (zy1 (ZR b "unwrapped")))) vZ
  (Jw a b)) QN))))
noncomputable abbrev JZ(a b:Addr):SM:=(ę (Jt a "put" 3 lG ñ (Qa þ (ã fi))))
noncomputable abbrev JU(a b:Addr):SM:=(Qn (QA 3 (m5 jR2))
  (ę (Jt a "spread" 3 (ZP a b) ñ (Qa zk8 (yx zlh)))))
abbrev ZZ(a b:Addr):FM:=Qs 3
  (Qn (QA 1 (Wl a 2 (QK a) Sy))
  (Qn (ZM (Qv (ϵ (ZR b "ends"))) pw
  (JZ a b))
  (Qn (QV (Uq jR2) (JU a b) 20000000)
  (Zg (mUn (zF5 a) ñ)))))
abbrev QQ(a:Addr):FM:=Qs 0
  (Qn (Xu a "ends" î Bw)
  (Qn (Xu a "kept" î Z9)
  (Qn (Xu a "wrapped" î Z9)
  (Xu a "unwrapped" î Z9))))
abbrev VD:FM:=Qs 0
  (Ċ (mIf (Uq jB1) wh (Bb (oE (yx Si)))))
abbrev Xl:FM:=box frN VD
noncomputable abbrev Xq:SM:=(ę (Ϫ ă (ð (ģ (Qa Ž (SH (Qa (Qc U3 þ Ϥ) (ą (Qg 1 Xl (Qa Ϥ Qe))))))))))
noncomputable abbrev Xr:SM:=(Qn (QA 6 (Qg 2 Zc (Bl (ã Ś))))
  (ZM (Qv jN3) zed
  Xq))
abbrev Vy:FM:=Qs 7
  (Qn (QA 1 jJ1)
  (Qn (QA 2 (mFn KN (ð (Zz XN (J7 jyh) zZc qEe Uo (ģ jbf)))))
  (Qn (QA 3 Bw)
  (Qn (ZM (J7 jD) (VC [4,5])
  Xr)
  zIc))))
abbrev Vj:FM:=box frN Vy
abbrev JV:FM:=Qs 0
  (Zg (xba (Qm (Qc zMc Bm (mC XB)))))
abbrev Y1:FM:=box frN JV
abbrev Zt(a:Addr):FM:=Qs 0
  (ę (Ϫ (jU5 (ϵ (ZR a "kept"))) zl9))
abbrev Zu(a:Addr):FM:=Qs 0
  (ę (Ϫ (jU5 (ϵ (ZR a "wrapped"))) (ð (Ř zq2))))
abbrev ZI:FM:=Qs 0
  (Qn (ZE jx2 qw2 QN)
  (Ċ (mIf jx3 AM wh)))
abbrev ZV:FM:=box frN ZI
abbrev Zx(a:Addr):FM:=Qs 0
  (ę (Ϫ (mMt "dict" Uk (ϵ (ZR a "unwrapped")) (Qa (Bb zh2) (ã Bw))) (ã ă)))
abbrev Zq(a:Addr):FM:=Qs 0
  (ZE (ń (Ń zn2 nn)) (QM (jsj (Bo jGd))) (ZE (ń (Ń zn2 uL)) (Qn (ę (Jt a "wrap" 4 zZd î (Qa (ŋ þ (ģ (ð (á ñ zqj)))) (Bo ϯ))))
  (ę (Jt a "wrap" 4 zZd î (Qa (ŋ þ (ģ (ð (á ñ wj)))) (Bo AM))))) (ũ (Qm (lT jW5)) (QM (Jt a "unwrap" 4 (Zx a) î (Qa jGd (Bo jW5)))))))
noncomputable abbrev J9(a:Addr):SM:=(ũ (ń (Qc wNe jV Ś)) (ę (jsj (Qa (ŋ ă (Bb g9)) (ð (ŋ Ž (ģ (ą jV))))))))
abbrev VF(a:Addr):FM:=Qs 2
  (Qn (QA 5 xbb)
  (Qn (ZM qxg (Zn 6)
  (J9 a))
  (ũ (Qm (lT Ś)) (ę (Qg 4 (Zq a) (Bl (Qa þ (da (ð (ŋ Ž (ģ (ą Ś))))))))))))
abbrev QR:FM:=Qs 0
  (Ċ (mIf (Vo (Qm (lT î)) df) Si wh))
abbrev Jz:FM:=box frN QR
abbrev ZG(a:Addr):FM:=Qs 0
  (ę (Ϫ (ϵ (ZR a "ends")) jD))
noncomputable abbrev Jd(a:Addr):SM:=(ę (Qg 5 (VF a) (da (Qa Ž (SH (Qa (ģ (Qa zcb (ã Ś))) (ð (ģ (Qa (xbc zcb) (ą Ϥ))))))))))
noncomputable abbrev ZH(a:Addr):SM:=(Qn (QA 9 jHc)
  (Qn (ZM (Qv (ģ (Qa Į (ã ϯ)))) (Zn 10)
  (Jd a))
  (ũ (ń (Ń (Qg 1 Jz g9) ñ)) (ę (Jt a "end" 2 (ZG a) ă (ð (ģ (Qa (xbc Į) (Qa Ϥ (ą (á jV ϯ)))))))))))
abbrev JS(a:Addr):FM:=Qs 8
  (Qn (QA 3 (Wl a 1 (QQ a) Qe))
  (Qn (QA 4 (Qg 1 Va Sy))
  (Qn (ZM qxh qEf
  (ZH a))
  zIc)))
abbrev JW(b a:Addr):FM:=Qs 0
  (Ċ (Qg 1 Vg (ð (Qg 1 (ZZ b a) (ą (Qg 3 (JS a) (jL (uK Rb))))))))
abbrev J5(a b:Addr):FM:=jz (JW a b)
abbrev K9(a b:Addr):FM:=Qs 0
  (Qn (jge (Qg 3 V9 (Bl zh2)))
  (Ċ (Y5 (Qg 2 XC (Bl (ð (Qg 3 (J5 a b) (Qa î zh1))))))))
abbrev QJ(a b:Addr):FM:=jz (K9 a b)
abbrev Zo:FM:=Qs 0
  (Qn (ũ (Vo (ń (uJ Į)) (ń (Qc wGt zL ñ))) (Ċ (ģ (Qa Į (ð (jJ zL))))))
  (Zg î))
abbrev XJ:FM:=box frN Zo
abbrev Jg(a b:Addr):FM:=Qs 3
  (Qn (QA 5 (Qg 3 Jq (jL (uK (ã þ)))))
  (Qn (QA 6 (á zw8 (Qc ZD Ž (mFn J0 (ã zw8)))))
  (Qn (QA 7 (Qg 3 kh (jL (Qa ă (ã jV)))))
  (Qn (ZE (Qm (Qc wNe (Qg 3 kh (Qa Ś (Qa ă (ã (Qg 2 XJ (Qa jV (ą ñ))))))) Ϥ)) (Zg HJ) QN)
  (Qn (QA 7 jDi)
  (Zg (QdO (Ń (Qg 3 kh (Qa Ś SY)) Ϥ) (Ń (Qg 3 kh (Qa Ś (Qa ă (ã (Ř (Qa Į (ą (jJ ñ)))))))) Ϥ))))))))
abbrev JC(a b:Addr):FM:=jz (Jg a b)
noncomputable abbrev Zm(a b:Addr):SM:=(ũ (Vo (ń (Ń ya þ)) (ń (Ń (Qg 1 Xl (ð (á Ś Ϥ))) xga))) (QA 4 wv))
abbrev Jl(a b:Addr):FM:=Qs 6
  (Qn (QA 4 HJ)
  (Qn (QA 5 jJ1)
  (Qn (ZM (Qv (á (KI 3 (J5 a b) (jL (ã ă))) Į)) qEg
  (Zm a b))
  (Qn (QA 9 (mOr (Y5 jDi) Ž))
  (Zg (Ń (Qg 3 kh (Qa jDj SY)) (Y5 cJ)))))))
abbrev JE(a b:Addr):FM:=jz (Jl a b)
abbrev K2(a b:Addr):FM:=Qs 8
  (Qn (QA 1 jJi)
  (Qn (QA 2 jW3)
  (Qn (QA 3 jJh)
  (Qn (QA 4 qLf)
  (Qn (QA 5 jW6)
  (Qn (ZE jfd qw3 QN)
  (Qn (QA 6 jyi)
  (Qn (QA 7 jyj)
  (Qn (ũ (Qm (dC (dF ă))) (Ċ (Qg 4 (JE a b) (jG (Qa Ž (Qa Ϥ g9))))))
  (Qn (QA 8 jx4)
  (Ċ (Qg 5 (JC a b) (jG (Qa Ž (Qa ya (SH (ð (gU (Bl (ą AM))))))))))))))))))))
abbrev Qgf:P6:=[
 #["_law_cell",["script","k"],top 55,nO,ó,3807986976726919625198320751616],
 #["_law_line",["cell","boxes","words"],top 57,nO,ó,6195750734253320632926208],
 #["_law_body",["script","start","many","boxes","words"],top 58,nO,ó,49483526724069381788189898108327740392590532176577568],
 #["_law_names",["cell"],top 56,nO,ó,2147483648],
 #["_law_chain",["script","start","boxes","words"],top 59,nO,ó,3966685542936355912958884521960707983360054137941991603856236748053263941632],
 #["_law_program",["script","top"],top 60,nO,ó,17794211981084036552275054879039238730402523271289191890947403825606294307111717613737861328710598854783140358062080],
 #["all_lines",ML,top 21,nO,ó,98336],
 #["words_of",ML,top 18,nO,ó,67108928],
 #["boxes_in",kK,top 22,nO,ó,281612415664192],
 #["boxes_of",ML,top 17,nO,ó,2151677984],
 #["_law_put",["program","gap","line"],top 61,nO,ó,70867025920],
 #["places_of",ML,top 19,nO,ó,178189607536672],
 #["check_asked",iU,top 53,nO,ó,164000],
 #["line_of",qxj,top 26,nO,ó,171865800704],
 #["first_spot",[],top 24,nO,ó,0],
 #["at_gap",qV9,top 30,nO,ó,0],
 #["at_head",qV9,top 31,nO,ó,0],
 #["level_change",kK,top 8,nO,ó,67174464],
 #["head_of",zL7,top 7,nO,ó,67115072],
 #["found_behind",["lines","k","kind"],top 9,nO,ó,69371968],
 #["or_of",zL7,top 6,nO,ó,0],
 #["end_of",zL7,top 5,nO,ó,0],
 #["next_in_part",["lines","spot"],top 28,nO,ó,89202980794125107097926056708332757649981440],
 #["behind_do",["spot"],top 29,nO,ó,2147483648],
 #["part_number",["program","name"],top 20,nO,ó,160],
 #["next_spots",qxj,top 27,nO,ó,2478305013831771775372886016],
 #["spots",ML,top 40,nO,ó,325388447916229664],
 #["reads",kK,top 13,nO,ó,2147549248],
 #["is_read",["line","box"],top 50,nO,ó,2304],
 #["late_reads",["program","reader"],top 49,nO,ó,2251799813685248],
 #["reader_of",["things"],top 34,nO,nO,12467051046724009718744096],
 #["__init__",["self","rules"],Ze zb9 0,RQ,nO,33824],
 #["put",qm7,Ze zb9 1,RQ,nO,35882176],
 #["tie",qm8,Ze zb9 2,RQ,nO,1349695800512],
 #["spread",qm7,Ze zb9 3,RQ,nO,8466022520045897714244608],
 #["least_things",["rules"],top 38,nO,nO,68157472],
 #["__init__",["self"],Ze fN 0,TB,nO,1082400],
 #["place_of",["spot"],top 25,nO,ó,0],
 #["steps_of",ML,top 42,nO,ó,82397289204915939025210939867137],
 #["gives",kK,top 12,nO,ó,128],
 #["keep",qm8,Ze fN 2,TB,nO,38944],
 #["wrap",qb2,Ze fN 3,TB,nO,38944],
 #["letter_of",kK,top 15,nO,ó,65600],
 #["unwrap",qb2,Ze fN 4,TB,nO,38944],
 #["add_giving",["rules","line","here","target"],top 47,nO,nO,77380699494215386579075136],
 #["add_step",["rules","boxes","line","here","there"],top 46,nO,nO,2260666776813760],
 #["made_word",kK,top 14,nO,ó,2304],
 #["end",["self","seat"],Ze fN 1,TB,nO,32],
 #["hold_rules",iU,top 45,nO,nO,2251877123096608],
 #["holds",iU,top 44,(sO (0,"=")),ó,0],
 #["is_done",iU,top 52,nO,ó,917504],
 #["_law_moved",["place","gap"],top 62,nO,ó,67141696],
 #["_law_idle_right",["program","gap","line","word","cell"],top 63,nO,ó,2420215128317001088368640],
 #["_law_tell_right",["program","gap","box","word"],top 64,nO,ó,72057664935297024],
 #["law",fh,top 65,nO,nO,174224571951146847229769053966267572027392]]
abbrev QlV(b a:Addr):lA:=[ZK,J8,J1,JM,V8,Vm,Vd,VB,ZC,Vw,VL,Vh,Jj,Jm,JO,X7,Xi,QF,Xm,Z1,K7,X5,Zb,Z6,Ji,QI,Ya,Zp,KZ,V2,Vg,(QK b),(Qt b),(JR b),(ZP b a),(ZZ b a),(QQ a),VD,Vy,JV,qV7,zZd,ZI,(Zx a),(Zq a),(VF a),QR,(ZG a),(JS a),(JW b a),(K9 b a),Zo,(Jg b a),(Jl b a),(K2 b a)]
abbrev Qdu(a b:Addr):BY:=[#[0,"dict",0,0,[],Wo],#[0,"enumerate",0,0,[],Wo],#[0,"int",0,0,[],Wo],#[0,"len",0,0,[],Wo],#[0,"list",0,0,[],Wo],#[0,"range",0,0,[],Wo],#[0,"reversed",0,0,[],Wo],#[0,"set",0,0,[],Wo],#[0,"sorted",0,0,[],Wo],#[0,"tuple",0,0,[],Wo],#[4,"ends",b,0,[],Wo],#[4,"kept",b,0,[],Wo],#[4,"rules",a,0,[],Wo],#[4,"things",a,0,[],Wo],#[4,"tied",a,0,[],Wo],#[4,"unwrapped",b,0,[],Wo],#[4,"waiting",a,0,[],Wo],#[4,"wrapped",b,0,[],Wo],#[5,"END",0,0,[],λ_ _=>sO (VH,[])],#[5,"GIVING",0,0,[],λ_ _=>sO (XB,[])]]
def QjZ(a b:Addr){P:Program}{w:World}{K:Nf}{mg:ý}{base:Heap}(h:oks quf (Qdu a b))(c:ats (λn=>if n=0 then a else b) quf Qgf):Cal P w K mg base 109 "law" fh (K2 a b):=
 Qm5 (f:=#[1,"law",a,109,fh,(K2 a b)]) h c (gs:=QlV a b) Ce Ce
noncomputable abbrev Ln:=Á
abbrev Qj(l:Ln):W:=Ì zia
abbrev QL(xs:Á):W:=Î cf
noncomputable abbrev Pt:=Str×ĩ
abbrev V5(p:Pt):W:=Ì [.str p.1,.tup (p.2.map Qj)]
abbrev QO(p:Ó):W:=Ì MV
structure Spt where
 way:Ĉ
 part:Nat
 k:Nat
 head:Bool
abbrev Qat(q:Œ):W:=zng
abbrev Qu(s:Spt):W:=Ì [.tup qB7,xbd,.int s.k,.bl s.head]
def Xx:∀{ws:À W},(∀w∈ws,fe)->bA:=by
 intro ws
 induction ws with
 |nil=>
  show zX1
 |cons w ws a=>
  intro h;unfold Ye;rw[h w Nw,a jAc];rfl
def VQ{n:Nat}:∀{ws:À W},(∀w∈ws,dep w<=n)->Yg ws<=n:=by
 intro ws
 induction ws with
 |nil=>
  intro _;show NN _
 |cons w ws a=>
  intro h;unfold Yg;show Nat.max_le.mpr #[h w Nw,a jAc]
def Xw{f:a->W}{xs:À a}(h:∀x,pln (f x)=true):Ye qVa=true:=Xx jka
def QfH{f:a->W}{xs:À a}(h:∀x,dep (f x)<=n):Yg qVa<=n:=VQ jka
@[simp]def Kq{xs:Á}:Ye cf=true:=Xw ς
def YN{xs:Á}:Yg cf<=1:=QfH λ_=>Nu _
@[simp]def Qmy{l:Ln}:pln kY=true:=by unfold Qj pln;show Kq
def QnY{l:Ln}:dep kY<=2:=by unfold Qj dep;let:=YN (xs:=l);show Np this à
@[simp]def Qhi{ls:ĩ}:Ye yM=true:=Xw λ_=>Qmy
@[simp]def QoU{p:Pt}:pln (V5 p)=true:=by simp[V5,pln,Ye]
@[simp]def Qi3{ps:Ó}:Ye (ps.map V5)=true:=Xw λ_=>QoU
@[simp]def Qou{ps:Ó}:pln (QO ps)=true:=by unfold QO pln;show Qi3
@[simp]def Qo5{q:Œ}:pln zX3=true:=q0
@[simp]def QhY{a:Ĉ}:Ye qQ1=true:=Xw λ_=>Qo5
@[simp]def QmM{s:Spt}:pln vn=true:=by simp[Qu,pln,Ye]
@[simp]def Qhk{a:Ý}:Ye qVb=true:=Xw λ_=>QmM
@[simp]def Qsg{l:Ln}:pur kY=true:=YZ _ Qmy
@[simp]def Qrt{ps:Ó}:pur (QO ps)=true:=YZ _ Qou
@[simp]def QqW{s:Spt}:pur vn=true:=YZ _ QmM
@[simp]def Qno{xs:Á}:Js cf=true:=Jp _ Kq
@[simp]def Qo2{ls:ĩ}:Js yM=true:=Jp _ Qhi
@[simp]def Qol{a:Ý}:Js qVb=true:=Jp _ Qhk
@[simp]def QrW{i:Int}:pur Ŀ=true:=q0
@[simp]def Qr6{x:Str}:pur Ě=true:=q0
@[simp]def Qsy{b:Bool}:pur yY=true:=q0
@[simp]def Qr4:pur .non=true:=q0
@[simp]def Qq3{ws:À W}:pur BP=Js ws:=zEf
@[simp]def QrM{ws:À W}:pur jT=Js ws:=zEf
@[simp]def Qrn{ws:À W}:pur zR3=Js ws:=zEf
@[simp]def Qqj:Js []=true:=q0
@[simp]def QoL{ws:À W}:Js zc9=(pur w&&Js ws):=by rw[Js]
@[simp]def Qqd{ws us:À W}:Js zTa=(Js ws&&Js us):=by
 induction ws with
 |nil=>simp
 |cons w ws a=>simp[a,Bool.and_assoc]
@[simp]def Qmr{ns:Ŝ}:Js jC9=true:=by
 induction ns with
 |nil=>rfl
 |cons n ns a=>simp[a]
def Qer{n:Nat}(h:n<=1000000):zO7:=Nd h à
@[simp]def Qqh:zP5:=Ú
@[simp]def QpO:qT:=Ú
@[simp]def Qqz:sJ:=Ú
@[simp]def Qp0:4<=sizeLine:=Ú
@[simp]def QqG:5<=sizeLine:=Ú
def Qle{ys:À W}(c:bx)(py:Ye ys=true)(e:za8)(d:Yg ys<=40):wIn neg a MS h=jQ9:=by
 apply((lsW h MS).bind λys=>(drf h 40 a).bind jFb)=_;simp only[lsW,Nv];show qkf
def QoY{ys:À W}(c:bx)(py:Ye ys=true)(e:za8)(d:Yg ys<=40):wIn neg a bU h=jQ9:=by
 apply((drf h 40 a).bind jFb)=_;show qkf
@[simp]def Qsp{xs:À a}:atI xs 2=xs[2]?:=QP (n:=2)
@[simp]def QsD{xs:À a}:atI xs 3=xs[3]?:=QP (n:=3)
@[simp]def Qss{xs:À a}:atI xs 4=xs[4]?:=QP (n:=4)
def Xp{n j:Nat}(h:(ZJ a n)[j]?=sO w):j<n/\w=Ä (a+j):=by
 let b:=ú h;simp[ZJ]at b;show lU b;unfold ZJ at h;rw[NB,D8 b]at h;cases h;rfl
def Qht{a b:Char}(h:a.toNat=b.toNat):a=b:=by
 let:a.val=b.val:=by
  refine' UInt32.toNat_inj.mp;show h
 show Char.ext this
def KG:∀{a b:List Char},a.map Char.toNat=b.map Char.toNat->a=b
 |[],[],_=>rfl
 |[],_::_,h=>qY h
 |_::_,[],h=>qY h
 |x::a,y::b,h=>by
  simp only[NH,Oj]at h;rw[Qht h.1,KG h.2]
@[simp]def QoV{a b:String}:(Str.ofString a=Str.ofString b)↔a=b:=by
 constructor
 ·intro h;rw[Oz,Oz]at h;let c:=KG (List.toArray_inj (Str.mk.inj h));show String.toList_inj.mp c
 ·intro h;rw[h]
#print"-My"
namespace My3
inductive Cd where
 |ei|ag|oo|en|ot
 deriving DecidableEq
structure En where
 kd:Cd
 fs:Nat
 md:Nat
set_option backward.eqns.nonrecursive false in
abbrev ch:Cd->Int
 |.ei=>1
 |.ag=>1
 |.en=>-1
 |_=>0
set_option backward.eqns.deepRecursiveSplit false in
abbrev lev(ls:Ģ):Nat->Int
 |0=>0
 |k+1=>ğ k+(match px with|Û c=>ch c|none=>0)
abbrev stp(k:Nat)(c:Cd)(st:uc):qEi:=match c with
 |.ei=>sO (#[.ei,k,0]::st)
 |.ag=>sO (#[.ag,k,0]::st)
 |.oo=>match st with
  |e::r=>if kL then sO (#[.oo,e.fs,k]::r)else nO
  |[]=>nO
 |.en=>match st with
  |e::r=>if kL then nO else sO r
  |[]=>nO
 |.ot=>sO st
def Z8(e:Mz):Sv=ğ k+ch c:=by
 simp only[lev,e]
structure Fit(ls:Ģ)(k t:Nat)(e:En):Prop where
 lt:e.fs<k
 at_:zac=lP\/zac=lQ
 lv:ğ fj+t=ğ k
 ge:∀j,e.fs<j->j<=k->ğ fj<=ğ j
 kd:kL\/zX4\/vT
 ei:kL->∀j,e.fs<j->j<k->jr3
 oo:vT->e.fs<e.md/\e.md<k/\ls[e.md]?=zch/\lev ls e.md=ğ fj/\∀j,e.fs<j->j<e.md->jr3
abbrev Qir(ls:Ģ)(k:Nat):Nat->uc->Prop
 |_,[]=>True
 |t,e::r=>qVc/\Qir ls k (t+1) r
structure Mat(ls:Ģ)(k:Nat)(e:En):Prop where
 fit:Fit ls k 0 e
 en:px=zfa
 kd:zX4\/vT
def QfI{k t t':Nat}(l:Mz)(h:qVc)(u:qI3)(n:c=.oo->0<t):Fit ls (k+1) t' e:=by
 let v:=Z8 l;let o:=h.lv;let g:=h.lt;refine#[vQ g ŗ,h.at_,Ñ,Ï j i r,h.kd,Ϭ q j i r p,æ q]
 ·show qQ2 h i
  ·show zk6;lia
 ·by_cases z:j<k
  ·show h.ei q j i z p
  ·show zph j k;rw[l];intro w;let m:c=.oo:=ĝ w
   let:=n m;omega
 ·let#[a,b,s,d,f]:=h.oo q;show#[a,vQ b ŗ,s,d,f]
def VG(f:Mz):∀(r:uc) (t t':Nat),Qir ls k t r->qI3->(c=.oo->0<t)->Qir ls (k+1) t' r:=by
 intro r
 induction r with
 |nil=>
  intro _ _ _ _ _;show zbb
 |cons e r a=>
  intro t t' h b d;show#[QfI f h.1 b d,a (t+1) (t'+1) h.2 (by push_cast;lia) λ_=>zL2]
def QeC{ls:Ģ}{k:Nat}{c:Cd}{st g:uc}(d:Mz)(h:Qir ls k 0 st)(e:stp k c st=sO g):Qir ls (k+1) 0 g:=by
 let s:=Z8 d
 let new:∀f:Cd,(f=.ei\/f=.ag)->c=f->Fit ls (k+1) 0 #[f,k,0]:=λf n e=>by
  refine#[Ê,?_,Ê,Ï j m t,by show nZ n,Ę q j m t,æ q]
  ·rw[d,e];show nZ n
  ·let o:k<j:=m;show(zk6,Yax _)
  ·let o:k<j:=m;lia
  ·let p:f=.oo:=q
   show qZc n p
 cases c with
 |ei=>show ß e #[new _ BL rfl,jOd]
 |ag=>show ß e #[new _ CK rfl,jOd]
 |ot=>cases e;show VG d st 0 0 h RZ Ç
 | oo=>
  cases st with
  |nil=>cases e
  | cons a r=>
   show zva e
   ·show Β u e;let l:=h.1;let b:=l.lv;let i:=l.lt;refine#[#[by apply a.fs<k+1;show Ng i ŗ,l.at_,?_,Ï j m t,å CK,λq=>(by cases q),λ_=>#[i,EG _,d,?_,l.ei u]],VG d r 1 1 h.2 RZ Ç]
    ·apply ğ zV0+yL=Sv;show(xbe,b)
    ·show qQ2 l m
     ·show zk6;apply ğ zV0<=_;show(xbe,Fw b)
    ·apply ğ k=ğ zV0;simp at b;show b.symm
   ·cases e
 | en=>
  cases st with
  |nil=>cases e
  |cons a r=>
   show zq4 e
   ·cases e;show VG d _ 1 0 h.2 RZ Ç
def QiK(c:px=zfa)(h:Qir ls k 0 (a::r))(e:stp k .en (a::r)=sO b):vY a:=by
 show zq4 e
 ·rename_i d;refine#[h.1,c,?_]
  rcases h.1.kd with z|z|z
  ·show û z d
  show š z
  show Ŗ z
structure Beh(ls:Ģ)(k:Nat)(c:Cd)(j:Nat):Prop where
 lt:k<j
 at_:j5=sO c
 lv:ğ j=Sv
 no:∀i,k<i->i<j->ğ i=Sv->ls[i]?≠sO c
 ge:∀i,k<i->i<=j->Sv<=ğ i
structure Ahd(ls:Ģ)(k j:Nat):Prop where
 lt:j<k
 lv:ğ k=ğ j+1
 no:∀i,j<i->i<k->ğ k≠ğ i+1
 ge:∀i,j<i->i<=k->ğ k<=ğ i
def Qjq(m:vY e):Beh ls e.fs .en k:=by
 let h:=m.fit;refine#[h.lt,m.en,by let:=h.lv;show(pH,Oi (Fw this.symm) (Fw this)),Ϭ i b a c q,h.ge];let:=Z8 q;let g:=h.ge (i+1) (MB b) a;simp[ch]at this;lia
def QfX(m:vY e):Ahd ls k e.fs:=by
 let h:=m.fit;let a:=h.lv
 let f:ğ fj=lev ls e.fs+1:=by
  rcases h.at_ with q|q<;>show Z8 q
 refine#[h.lt,by simp at a;lia,Ę i c b d,λi c b=>by let g:=h.ge i c b;simp at a;show ES (Fw a.symm) g];let g:=h.ge i c zYa;simp at a;lia
def QmB(m:vY e)(g:vT):Beh ls e.fs .oo e.md:=by
 show xbf g;show#[a,c,d,f,λi j h=>m.fit.ge i j (NF (Np h b))]
def Qc8(m:vY e)(p:vT):Beh ls e.md .en k:=by
 show xbf p;let h:=m.fit;let j:=h.lv;let o:=Z8 c;simp[ch]at o;simp at j;refine#[b,m.en,Ñ,Ϭ i n l s q,λi n l=>by let g:=h.ge i (Ea a n) l;show ES (ES (Fw o) (Fw d)) g];let r:=Z8 q;let g:=h.ge (i+1) (MB (Ea a n)) l;simp[ch]at r;lia
#print"-My3"
namespace My4
open My3
set_option backward.eqns.deepRecursiveSplit false in
abbrev pil(ls:Ģ):Nat->qEi
 |0=>sO []
 |k+1=>(pil ls k).bind λst=>match px with|Û c=>stp k c st|none=>nO
abbrev Kd(ls:Ģ)(e:En):Prop:=(zX4/\zac=lQ)\/((kL\/vT)/\zac=lP)
def GX{l:À a}(h:l[t]?=sO x):t<l.length:=ú h
structure CI(ls:Ģ)(k:Nat)(p:uc):Prop where
 fits:Qir ls k 0 p
 kd:∀e∈p,Kd ls e
 op:∀j,j<k->(j5=lP\/j5=lQ)->(∃e∈p,e.fs=j)\/∃m e,Mat ls m e/\Kd ls e/\e.fs=j
 oo:∀j,j<k->j5=zch->(∃e∈p,vT/\e.md=j)\/∃m e,Mat ls m e/\vT/\e.md=j
 en:∀j,j<k->j5=zfa->∃e,Mat ls j e
def Qdo{p g:uc}(h:zV1)(l:Mz)(e:qLg)(h1:∀x∈g,Kd ls x)(h2:∀x∈p,(∃y∈g,y.fs=x.fs)\/vY x)(t:∀x∈p,x.kd=.oo->x∈g\/vY x)
  (s:qEj->∃y∈g,y.fs=k) (r:c=.oo->∃y∈g,y.kd=.oo/\y.md=k) (n:c=.en->∃y,vY y):qF0:=by
 let f:∀{j d},j<k+1->j5=sO d->j<k\/(j=k/\c=d):=λ{j d} a b=>by
  rcases Yaj (Yat a)with z|z
  show š z
  ·subst z;rw[l]at b;show Ũ #[rfl,by injection b]
 refine#[QeC l h.fits e,h1,Ï j a b,Ï j a b,Ï j a b]
 ·let:j<k\/(j=k/\qEj):=by
   show υ b
   ·rcases f a b with z|z
    show ja z #[z.1,.inl z.2]
   ·rcases f a b with z|z
    show ja z (qq0 z)
  rcases this with z|⟨z,i⟩
  ·rcases h.op j z b with⟨x,m,rfl⟩|q
   ·rcases h2 x m with q|q
    show ja q #[k,x,q,zm m,rfl]
   show Ŗ q
  ·rw[z];show Ø (s i)
 ·show qF1
  ·rcases h.oo j z b with⟨x,m,o,rfl⟩|q
   ·rcases t x m o with q|q
    ·show ø #[x,q,o,rfl]
    show Ζ #[k,x,q,o,rfl]
   show Ŗ q
  ·rw[z];show Ø (r i)
 ·show qF1
  ·show h.en j z b
  ·rw[z];show n i
def Qie{p g:uc}(h:zV1)(f:Mz)(e:qLg):qF0:=by
 cases c with
 | ei=>
  show jX7
  ·show Sd
   show Ζ #[jv,f]
   ·show zm b
  ·show ji6
  ·show jo1
  show qg3
 | ag=>
  show jX7
  ·show Sd
   show š (yV f)
   ·show zm b
  ·show ji6
  ·show jo1
  show qg3
 |ot=>
  refine Qdo h f e ?_ ?_ ?_ Ç nofun nofun<;>cases e
  ·show h.kd
  ·show λx b=>Ø (pK x b)
  ·show λx b _=>Ø b
 | oo=>
  cases p with
  |nil=>cases e
  | cons a r=>
   let d:=e;show zva d
   ·rename_i i;refine Qdo h f e ?_ ?_ ?_ Ç ?_ nofun<;>cases d
    ·show Sd
     ·rcases h.kd a Nw with z|z
      ·rw[i]at z;cases z.1
      show Ζ #[yU,z.2]
     ·show zm g6
    ·show Sd
     ·show Ø qh6
     ·show yw jke
    ·intro x b o;show ϲ b
     ·show ä i o
     ·show yw g6
    ·show λ_=>#[_,Nw,rfl,rfl]
   ·cases d
 | en=>
  cases p with
  |nil=>cases e
  | cons a r=>
   let M:=QiK f h.fits e;let d:=e;show zq4 d
   ·refine Qdo h f e ?_ ?_ ?_ Ç nofun (λ_=>ĺ a M)<;>cases d
    ·show λx b=>zm g6
    ·show Sd
     show Ŗ M
     show š (pK x b)
    ·intro x b _;show ϲ b
     show Ŗ M
     show š b
def QlH:∀{k:Nat} {p:uc},pil ls k=sO p->zV1:=by
 intro k
 induction k with
 |zero=>
  intro p e;show ß e #[True.intro,nofun,nofun,nofun,nofun]
 |succ k d=>
  intro p e;show ļ q f a e;cases b:px with
  |none=>show ä b a
  |some c=>rw[b]at a;show Qie (d f) b a
abbrev Bal(ls:Ģ):Prop:=qF2=sO []
structure Found(ls:Ģ):Prop where
 ei:∀j,j5=lP->∃md,Beh ls j .oo md
 ag:∀j,j5=lQ->qq6
 oo:∀j,j5=zch->qq6
 en:∀j,j5=zfa->∃fs,Ahd ls j fs/\(ls[fs]?=lP\/ls[fs]?=lQ)
def WA(h:Bal ls):Found ls:=by
 let c:=QlH h;refine#[Ò j a,Ò j a,Ò j a,Ò j a]
 ·rcases c.op j zef (đ a)with⟨_,m,_⟩|⟨m,e,M,b,rfl⟩
  ·simp at m
  ·rcases M.kd with q|q
   ·show Ϣ b z
    ·rw[a]at z;cases z.2
    ·rcases z.1 with z|z<;>rw[q]at z<;>cases z
   show Š #[_,QmB M q]
 ·rcases c.op j zef (õ a)with⟨_,m,_⟩|⟨m,e,M,b,rfl⟩
  ·simp at m
  show Š #[_,Qjq M]
 ·rcases c.oo j zef a with⟨_,m,_⟩|⟨m,e,M,o,rfl⟩
  ·simp at m
  show Š #[_,Qc8 M o]
 ·let#[e,M]:=c.en j zef a;show#[_,QfX M,M.fit.at_]
abbrev kst:Cd->Ģ->qF3
 |.ei,s=>sO (.ei::s)
 |.ag,s=>sO (.ag::s)
 |.oo,s=>match s with
  |e::r=>if e=.ei then sO (.oo::r)else nO
  |[]=>nO
 |.en,s=>match s with
  |e::r=>if e=.ei then nO else sO r
  |[]=>nO
 |.ot,s=>sO s
abbrev Xb:Ģ->Ģ->qF3
 |[],s=>sO s
 |c::ls,s=>zad (Xb ls)
def Xo:∀(ls ms:Ģ) (s:Ģ),Xb (ls++ms) s=(Xb ls s).bind (Xb ms):=by
 intro ls
 induction ls with
 |nil=>
  intro ms s;show rfl
 |cons c ls a=>
  intro ms s;apply zad (Xb (ls++ms))=((kst c s).bind (Xb ls)).bind (Xb ms);cases kst c s with
  |none=>rfl
  |some t=>show a ms t
def Qah(h:Xb ls s=sO t)(k:kst c t=sO u):Xb (ls++[c]) s=sO u:=by
 rw[Xo,h];apply(kst c t).bind _=_;rw[k];rfl
def Qh5{k:Nat}{c:Cd}{st:uc}:(stp k c st).map qy0=kst c (st.map En.kd):=by
 cases c with
 |ei=>rfl
 |ag=>rfl
 |ot=>rfl
 | oo=>
  cases st with
  |nil=>rfl
  |cons e r=>
   show jTf
 | en=>
  cases st with
  |nil=>rfl
  |cons e r=>
   show jTf
def QfO:∀{k:Nat},qVd->(pil ls k).map qy0=Xb (ls.take k) []:=by
 intro k
 induction k with
 |zero=>
  show zX1
 | succ k d=>
  intro b;let a:k<ls.length:=Pe b
  let c:=d zYa;let e:ls.take (k+1)=ls.take k++[ls[k]]:=by rw[List.take_succ_eq_append_getElem a]
  rw[e,Xo,<-c];simp only[pil];rw[Nj a];cases pil ls k with
  |none=>rfl
  |some p=>
   apply(stp k ls[k] p).map _=(kst ls[k] (p.map En.kd)).bind (Xb []);rw[<-Qh5];cases stp k ls[k] p<;>rfl
def bal_iff:Bal ls↔Xb ls []=sO []:=by
 let:=QfO (ls:=ls) (k:=ls.length) ÿ;rw[DB]at this;rw[<-this];unfold Bal;cases qF2 with
 |none=>simp
 |some p=>simp
#print"-My4"
namespace My
open L2 Mi My3 My4
def UE(e:zd8=sO ([Ä j],h'))(a:j<1000000):QaM ms σ h=sO (ZJ 0 j,nO,h'):=by
 unfold QaM;rw[e,Nv];show(if_pos #[Ñ,Ñ]).trans Ç
def VJ:(ZJ a n).length=n:=by simp[ZJ]
inductive PlainL(bs ws:Á):zX5 where
 |pair {x w y z:Str} (hx:Pp) (hw:w∈ws) (hy:zfb) (hz:z∈bs):Ξ ["pair",x,w,y,z]
 |first {x y:Str} (hx:Pp) (hy:zfb):Ξ ["first",x,y]
 |second {x y:Str} (hx:Pp) (hy:zfb):Ξ ["second",x,y]
 |same {x y:Str} (hx:Pp) (hy:zfb):Ξ ["same",x,y]
 |none {x:Str} (hx:Pp):Ξ ["none",x]
 |tell {x:Str} (hx:Pp):Ξ ["tell",x]
abbrev cd(x:Str):Cd:=if y8 then .ei else if vE then .ag else if pf then .oo else if fz then .en else .ot
abbrev cdL:Ln->Cd
 |[]=>.ot
 |x::_=>cd x
inductive LineOk(bs ws later:Á):zX5 where
 |plain {l:Ln} (h:Ξ l):rL l
 |do {x:Str} (h:x∈later):rL ["do",x]
 |blk {x:Str} (h:y8\/znh):rL [x]
 |back {x:Str} (h:x∈ws):rL ["back",x]
abbrev YU:Ln->Bool
 |x::_=>x=="do"
 |[]=>false
def Kp{bs ws:Á}(h:Ξ l):YU l=false:=by cases h<;>(apply(_==_)=false)<;>decide
def J3:zRh=.ag:=Ú
def UF:zZf=.oo:=Ú
def Ke:cd "end"=.en:=Ú
def Km{bs ws:Á}(h:Ξ l):zV2:=by cases h<;>(apply cd _=.ot)<;>decide
def Qmu(O:Á)(h:O≠[]):∃r x,O=r++[x]:=zwd O h
def UI{P:a->Prop}{xs:À a}(h:∀y∈xs,P y)(c:P x):∀y∈xs++[x],P y:=λy b=>by
 show zB b z h y c
def Vc(O:Á)(x:Str):(O++[x]).reverse.map cd=cd x::O.reverse.map cd:=Ê
def GZ(L:ĩ)(l:Ln):(L++[l]).map cdL=L.map cdL++[cdL l]:=Ê
abbrev dcn(ls:ĩ):Nat:=ls.countP YU
def Qak(L:ĩ)(l:Ln):dcn (L++[l])=dcn L+(if CV then 1 else 0):=by simp[dcn,Dk,Iu]
abbrev Qk2:yX
 |0=>4
 |1=>1
 |_=>0
abbrev szm:yX
 |0=>18
 |1=>8
 |2=>2
 |_=>0
structure GoodP(N:Nat)(bs ws:Á)(p:Ó):Prop where
 ne:p≠[]
 len:p.length<=5
 bal:∀x∈p,Bal H9
 sz:∀x∈p,ï<=N
 ok:∀(i:Nat) (x:Pt),y6->∀l∈x.2,LineOk bs ws ((p.map (·.1)).drop (i+1)) l
 nd:(p.map (·.1)).Nodup
 dos:∀(i:Nat) (x:Pt),y6->qLh
 sm:∀(i:Nat) (x:Pt),y6->ï<=szm i
def Kt(xs:À a)(k:Nat):Yj xs Sx nO=xs.drop k:=by
 unfold Yj;rw[HT.sIx_nat,HT.sIx_none]
 by_cases h:qVe
 ·rw[Dg h,DD Ç]
 ·rw[LM RX,EN ÿ,EN RX];simp
def Qn6{i:Int}(h:0<=i):∃n:Nat,i=n:=#[i.toNat,by show(Int.toNat_of_nonneg zZ5).symm]
def XA(h:zbc a l):cw:=by
 cases h with
 |plain h=>cases h<;>show qE
 |«do» h=>show qE
 |blk h=>show qE
 |back h=>show qE
def Xg{p:Ó}{i:Nat}(h:y6):atI MV jX=fC:=qy2
@[simp]def QpJ:wIx zI2 ST h=sO zpf:=qB8
@[simp]def QqE:zXf (Qj (x::y::r))=sO (Æ y,h):=qB8
@[simp]def Qrr:cE (QO p)=yi jRj (atI MV i):=by unfold QO;simp
@[simp]def QqH:zXf (V5 x)=sO (Ì va,h):=by unfold V5;simp
@[simp]def QdM:Q7 C5 MS h=if qd6 then sO (Î zM4,h)else nO:=q0
def Jn{x:Str}:(y8/\cd x=.ei)\/(vE/\cd x=.ag)\/(pf/\cd x=.oo)\/(fz/\cd x=.en)\/((x≠"either"/\x≠"again"/\x≠"or"/\x≠"end")/\cd x=.ot):=by
 unfold cd
 by_cases d:y8
 ·show ø #[d,Ð d]
 rw[Í d]
 by_cases c:vE
 show Ζ (jb #[c,Ð c])
 rw[Í c]
 by_cases b:pf
 show Ζ (ϭ (jb #[b,Ð b]))
 rw[Í b]
 by_cases a:fz
 show Ζ (ϭ (PL (jb #[a,Ð a])))
 rw[Í a];show Ũ (ϭ (PL (.inr #[#[d,c,b,a],rfl])))
def UJ(P:Nat->zKj)(v:W)(d:MH):∀(r:À W) (n m:Nat) (σ:MSt) (h:MH),Aa n->m<r.length ->
  (∀(j:Nat) (w:W),j<m->r[j]?=sO w->∀σ h,Aa (n+j)->∃σ1,rX/\∃σ2 h2,oi/\qD3) ->
  (∀w,r[m]?=sO w->∀σ h,Aa (n+m)->∃σ1,rX/\zAd=vP d)->mw r σ h=vP d
 |[],n,m,σ,h,_,e,_,_=>qY e
 |w::r,n,0,σ,h,a,_,_,f=>by
  let#[σ1,i,g]:=f w rfl σ h a;rw[Jf,v9,i,Nv,g];rfl
 | w::r,n,m+1,σ,h,a,e,l,f=>by
  let#[σ1,i,σ2,h2,g,o]:=l 0 w zZ7 rfl σ h a;rw[Jf,v9,i,Nv,g]
  show UJ (items:=items) (b:=b) (body:=body) P v d r (n+1) m σ2 h2 o xr (λj x p c σ h a=>by
   let:=l (j+1) x (Nat.add_lt_add_right p _) xy σ h (zwc j a);show jOi) (λx c σ h a=>f x xy σ h (zwc m a))
@[simp]def Qnj{r:Á}:Jk [Qj CA] h=sO (Ä (ch kM),h):=by
 refine jI;let b:Qj CA=Ì (Æ x::r.map .str):=rfl
 rcases zcc with⟨rfl,a⟩|⟨rfl,a⟩|⟨rfl,a⟩|⟨rfl,a⟩|⟨⟨e,d,f,c⟩,a⟩
 show mz
 show mz
 show mz
 show mz
 ·simp[QF,Qs,b,e,d,c,a,ch]
def Qbt(e:zd8=sO (ox,h'))(hi:-1000000<=i/\i<=1000000)(a:-1000000<=j/\zQe):Qj4 ms σ h=sO (ZJ i zO4,nO,h'):=by
 unfold Qj4;rw[e,Nv];show if_pos #[Ñ,Ô,Ñ,Ô]
noncomputable abbrev fS(ls:ĩ)(k:Nat)(y:Str)(a j:ê):MSt:=[sO (Ŋ yM),zo4,sO uE,a,j]
def Ux{ls:ĩ}{j:Nat}(h:j5=sO l):atI yM u7=sO kY:=qy2
def Ud{ls:ĩ}{k j:Nat}(u:∀l∈ls,cw)(P:rd)(I:∀x:Str,cd x=cd y↔x=y)(B:Beh ql k zZg j):Zl [Ì yM,Ä k,Æ y] h=xh:=by
 refine jI;let C:j<ls.length:=zP B
 let A:=B.lt
 let N:∀d,Qj4 joe (fS ls k y ze1 d) []=sO (js0,nO,[]):=by
  intro d;rw[Qbt (h':=[]) (i:=ĳ+1) (j:=ls.length) Ç Â Â,show((ls.length:Int)-zp7).toNat=ls.length-(k+1) by lia]
 let lines:∀i,k<i->i<=j->jNd:=λi _ G=>by
  let f:xbg:=by show Np G C
  show jmi u f H
  show#[x,r,H,vA H]
 let loop:=UJ (items:=js0) (b:=Zn 4) (body:=JX) (λn q h=>∃d,q=fS ls k y (sO (Ź (wd (k+1+n) (k+1)))) d/\h=[]) ε [] (ZJ zp7 jWg) 0 qo3 (fS ls k y ze1 nO) [] jva (by rw[VJ];omega) (by
  rintro i w G hw q h ⟨d,rfl,rfl⟩
  show xbh;let#[x,r,s,p]:=lines bX (MB uh) É;let D:=Ux s;let M:=Z8 p;rw[Ef];let o:atI yM (ĳ+1+jX)=sO zI2:=by rw[show(ĳ+1+jX)=((k+1+i:Nat):Int) by show rfl];show D
  refine#[jr4 (sO (Ź (wd bX (k+1)))),rfl,jr4 (sO (Ź (wd qAe (k+1)))),[],?_,_,rfl,rfl]
  let c:lev ql qAe-ju6=jM5+ch kM:=by
   rw[show k+1+(i+1)=k+1+i+1 by show rfl,M];lia
  rw[c];generalize Q:jM5=L
  by_cases E:L=0
  ·let t:=B.no bX (MB uh) É Â;let a:x≠y:=λz=>t (by rw[p,z]);subst E;simp -implicitDefEqProofs [a,o]
  ·simp -implicitDefEqProofs [E,o]) (by
  rintro w hw q h ⟨d,rfl,rfl⟩
  show xbh;let#[x,r,s,p]:=lines j A ÿ;let m:=B.at_;rw[p]at m;let a:x=y:=(I x).mp gI;subst a;let O:ĳ+1+((j-(k+1):Nat):Int)=u7:=Ô
  let D:=Ux s;rw[O]
  let v:lev ql (k+1+qm9)-ju6=0:=by
   rw[show k+1+qm9=j by lia,B.lv];lia
  show ī v #[_,rfl,by simp -implicitDefEqProofs [D]])
 simp -implicitDefEqProofs [Z1,Qs,ZM,N,loop]
def YF{lo c:Int}(h:(JJ lo c n)[j]?=sO w):j<n/\w=Ä (lo+u7*c):=by
 let a:=ú h;simp[JJ]at a;show lU a;unfold JJ at h;rw[NB,D8 a]at h;cases h;rfl
noncomputable abbrev hS(ls:ĩ)(k:Nat)(a j:ê):MSt:=[sO (Ŋ yM),zo4,a,j]
def QhX{ls:ĩ}{k j:Nat}(q:∀l∈ls,cw)(G:rd)(z:qVd)(B:Ahd ql k j):VO zmd h=xh:=by
 refine jI;let u:=B.lt;let H:∀c,Qj2 jia (hS ls k ze1 c) []=sO (zxf,nO,[]):=λc=>Qo7 rfl rfl rfl (qN (Nd z G))
 let lines:∀i,i<k->jNd:=λi A=>by
  let d:xbg:=vQ A z
  show jmi q d C
  show#[x,r,C,vA C]
 let D:(JJ SF (-1) k).length=k:=by simp[JJ]
 let loop:=UJ (items:=zxf) (b:=Zn 3) (body:=Kg) (λn m h=>∃c,m=hS ls k (jfe n) c/\h=[]) ε [] (JJ SF (-1) k) 0 qL6 (hS ls k ze1 nO) [] jva (by rw[D];omega) (by
  rintro i w A hw m h ⟨c,rfl,rfl⟩
  show qVg (k-1-i) É;let y:ĳ-1+jX*-1=qAb:=Ñ
  show qVf;rw[Ef,y];generalize I:qAb=t at f;refine#[hS ls k (jfe i) jz0,rfl,hS ls k (sO (Ź (wd k qHg))) jz0,[],?_,_,rfl,rfl]
  let a:zz8-lev ql qHg=jJ7:=by
   rw[show k-i=k-1-i+1 by lia,p,show qB9 by lia];lia
  let E:=B.no (k-1-i) Â Â;let s:jJ7≠1:=by rw[<-a,show qB9 by omega];lia
  rw[a];simp[f,s]) (by
  rintro w hw m h ⟨c,rfl,rfl⟩
  show qVg j u;let y:ĳ-1+((k-1-j:Nat):Int)*-1=u7:=Ô
  show qVf;rw[y]
  let a:zz8-lev ql (k-qug)+ch kM=1:=by
   rw[show k-qug=j+1 by lia,p];let:=B.lv;lia
  rw[Ef]at a ⊢
  show#[_,rfl,by simp[f,a]])
 simp[Xm,Qs,ZM,H,loop]
def Qa2(x:Str):cd x=cd "end"↔fz:=by
 rcases zcc with⟨rfl,a⟩|⟨rfl,a⟩|⟨rfl,a⟩|⟨rfl,a⟩|⟨⟨e,d,c,b⟩,a⟩<;>simp[a,Ke, *]
def QbK(x:Str):cd x=zZf↔pf:=by
 rcases zcc with⟨rfl,a⟩|⟨rfl,a⟩|⟨rfl,a⟩|⟨rfl,a⟩|⟨⟨e,d,c,b⟩,a⟩<;>simp[a,UF, *]
def Qgs{ls:ĩ}(a:∀l∈ls,cw)(b:rd)(B:Beh ql k .en j):Vx zmd h=xh:=by
 refine jI;let e:∀h,Zl [Ì yM,Ä k,.str "end"] h=xh:=λh=>Ud a b Qa2 (by rw[Ke];show B);simp[X5,Qs,e]
def QnT{ls:ĩ}(a:∀l∈ls,cw)(b:rd)(B:Beh ql k .oo j):YY zmd h=xh:=by
 refine jI;let e:∀h,Zl [Ì yM,Ä k,.str "or"] h=xh:=λh=>Ud a b QbK (by rw[UF];show B);simp[K7,Qs,e]
@[simp]def QpN(hw:yR)(c:pur p=true)(a:pur e=true)(f:pur b=true)(d:pur k=true):Je ju7 h=sO (Ì [w,p,k,jZ],h):=by
 refine jOf;simp[X7,Qs]
@[simp]def Qq4(hw:yR)(c:pur p=true)(a:pur e=true)(f:pur b=true)(d:pur k=true):XS ju7 h=sO (Ì [w,p,k,ŵ],h):=by
 refine jOf;simp[Xi,Qs]
@[simp]def Qqn:wIx zX3 ST h=sO (mK,h):=qy3
@[simp]def Qp1:zXf zX3=sO (Ct,h):=qy3
structure SV(p:Ó)(s:Spt):Prop where
 ex:∃x,t4/\s.k<=ï/\(MN->∃r,kw=sO (jLj::r))
 way:∀q∈s.way,ju8
def KC{p:Ó}{s:Spt}(c:t4)(d:MN\/s.k=ï):Zc jP4 h=ĵ h:=by
 refine jI;show rD e;let b:=Xg c;simp only at b d c
 by_cases a:head=true
 ·simp[Jm,Qs,Qu,b,a]
 ·let f:k=ï:=by show(Ϣ d z,û z a,z)
  simp[Jm,Qs,Qu,b,a,f]
def Ub{p:Ó}{s:Spt}(c:t4)(f:zN0)(d:kw=sO l):qh7=sO qLi:=by
 refine uN;show rD m;let i:=Xg c;let j:=Ux d;let e:=ú d;simp only at i f c j e;let b:¬ĳ=ï:=Ñ
 let a:¬k=ï:=by show NS e
 simp[Jm,Qs,Qu,i,f,j,b,a]
@[simp]def Qnu:XF [] h=sO (Qu qy4,h):=by
 refine uN;simp[JO,Qs,Qu]
def Qju{ns:Á}:∀{j:Nat},ns.findIdx? (·==x)=sO j->(ns.map W.str).findIdx? (λy=>eqW y Ě)=sO j:=by
 intro j h;rw[List.findIdx?_map];rw[<-h];congr 1
def Qb0{j:Nat}(f:(p.map (·.1)).findIdx? (·==nm)=sO j)(e:p.length<=100):jP9:=by
 refine jI
 let b:=Qex (fin:=XN) (mi:=Qv î) (cp:=[nO]) (me:=Qc wIx î Į) (σ:=[ė,sO xbi]) (caps:=[]) (h:=[]) (items:=p.map V5) jhf rfl Ħ (λw hw=>by
  show wz x
  simp[V5]) (by simp;show Qer (NF (qN e)))
 let d:(p.map V5).map jhf=(p.map (·.1)).map W.str:=by simp[V5,EA]
 rw[d]at b;simp only[XN]at b
 let ei:W4 (.lst ((p.map (·.1)).map W.str)) [.str nm] []=sO (Ä j,[]):=by
  unfold W4;simp only[lsW,Nv];rw[VA [] xbi 40 rfl AO,Vf [] _ 40 Kq (Nd YN à),Nv,Nv,Qju f];rfl
 rw[FD]at b ei;simp[Ji,Qs,b,ei]
abbrev Wt:yX
 |0=>74
 |1=>12
 |2=>2
 |_=>0
def QiN:∀i:Nat,cQ<=Wt i
 |0=>Ú
 |1=>Ú
 |_+2=>NN _
def QiO{i:Nat}:∀d:Nat,Wt (i+d)<=Wt i:=by
 intro d
 induction d with
 |zero=>
  show Nu _
 |succ d a=>
  show Nd (QiN (i+d)) (a)
def Qdh{i q:Nat}(h:i+1<=q):Wt q<=cQ:=by
 let#[d,rfl]:=Nat.exists_eq_add_of_le h;show QiO d
def QmG:∀i:Nat,szm i+qdc<=Wt i
 |0=>Ú
 |1=>Ú
 |2=>Ú
 |_+3=>by simp[szm,Qk2,Wt]
abbrev cst(i:Nat)(l:Ln):Nat:=if CV then cQ+2 else 1
abbrev rem(x:Pt)(i k:Nat):Nat:=((x.2.drop k).map (cst i)).sum
def Kn{x:Pt}{i k:Nat}{l:Ln}(h:yN):ϋ k=cst i l+ϋ (k+1):=by
 let#[a,rfl]:=Nk.mp h;unfold rem;rw[ED a,NH,List.sum_cons]
def Gr{x:Pt}{i:Nat}:∀{j k:Nat},k<j->k<ï->ϋ j<ϋ k:=by
 intro j
 induction j with
 |zero=>
  intro _ h _;lia
 | succ j c=>
  intro k h a;let g:=Kn (i:=i) zY0;let l:1<=cst i x.2[k]:=by unfold cst;split<;>lia
  show zqc e j k
  ·by_cases b:j<ï
   ·let f:=c Â a;let d:=Kn (i:=i) zXj;show Np (mX zh7) f
   ·let:ϋ (j+1)=0:=by unfold rem;rw[EN (cN (ł b))];rfl
    lia
def QiP{i:Nat}:∀(ls:ĩ),(ls.map (cst i)).sum=ls.length+dcn ls*(cQ+1):=by
 intro ls
 induction ls with
 |nil=>
  simp[dcn]
 |cons l ls b=>
  let a:=b;unfold dcn at a ⊢;rw[NH,List.sum_cons,a,Iu,NO,cst]
  by_cases h:CV
  ·rw[Ð h,Ð h,Nat.add_mul,Nat.one_mul];lia
  ·rw[Í h,Í h,show qBa+0=qBa from rfl];lia
def QmE{x:Pt}{i k:Nat}(d:ï<=szm i)(hd:qLh):ϋ k<=Wt i:=by
 let c:rem x i 0<=Wt i:=by
  unfold rem;rw[List.drop_zero,QiP];let:=QmG i;let:dcn x.2*(cQ+1)<=qdc:=OF hd (NF jHg);lia
 by_cases a:0<k
 ·by_cases b:0<ï
  ·let:=zQ4 a b;show NF (Ng this c)
  ·unfold rem;rw[EN (NF (Np (ł b) a))];simp
 ·rw[show k=0 by show Er (ł a) ě];show c
abbrev QjD(p:Ó)(i k:Nat):Nat:=match p[i]? with
 |Û x=>ϋ k
 |none=>0
def XT{p:Ó}{i k:Nat}{x:Pt}(h:y6):QjD p i k=ϋ k:=by unfold QjD;rw[h]
abbrev RL(p:Ó):Prop:=∀i k,QjD p i k<=Wt i
def Qge{N:Nat}{p:Ó}{bs ws:Á}(b:ϛ):RL p:=by
 intro i k;unfold QjD;split
 ·rename_i x a;show QmE (b.sm i x a) (b.dos i x a)
 ·show NN _
abbrev QgB(p:Ó)(w:Ĉ):Nat:=(w.map λq=>1+qma).sum
def Qci{p:Ó}{w:Ĉ}{q:Œ}:QgB p (w++[q])=QgB p w+(1+qma):=by simp[QgB]
structure SW(s:Spt):Prop where
 up:∀(j:Nat) (q:Œ),s.way[j]?=sO q->j<=q.1
 le:s.way.length<=s.part
abbrev QdD(p:Ó)(l:Ln):HI:=if CV then(p.map (·.1)).findIdx? (·==xbj)else nO
inductive Nx(p:Ó):Spt->Ý->Prop where
 |head {way:Ĉ} {part k en:Nat} {x:Pt} {l:Ln} (hx:jo) (hl:yN) (hc:cdL l=.ag) (B:jWh):Nx p Hn [n5,uR]
 |fin0 {way:Ĉ} {part k:Nat} {x:Pt} (hw:way=[]) (hx:jo) (hl:zd9=nO):Nx p qk []
 |fin {way r:Ĉ} {q:Œ} {part k:Nat} {x:Pt} (hw:way=zf2) (hx:jo) (hl:zd9=nO):uO [nG]
 |ei {way:Ĉ} {part k md:Nat} {x:Pt} {l:Ln} (hx:jo) (hl:yN) (hc:cdL l=.ei) (B:Beh H9 k .oo md):uO [uR,#[way,part,md+1,false]]
 |ag {way:Ĉ} {part k:Nat} {x:Pt} {l:Ln} (hx:jo) (hl:yN) (hc:cdL l=.ag):uO [Hn]
 |oo {way:Ĉ} {part k en:Nat} {x:Pt} {l:Ln} (hx:jo) (hl:yN) (hc:cdL l=.oo) (B:jWh):uO [n5]
 |enA {way:Ĉ} {part k fs:Nat} {x:Pt} {l l':Ln} (hx:jo) (hl:yN) (hc:cdL l=.en) (A:jZh) (hf:qM0) (hf':cdL l'=.ag):uO qkg
 |enE {way:Ĉ} {part k fs:Nat} {x:Pt} {l l':Ln} (hx:jo) (hl:yN) (hc:cdL l=.en) (A:jZh) (hf:qM0) (hf':cdL l'=.ei):uO [uR]
 |dd {way:Ĉ} {part k j:Nat} {x:Pt} {l:Ln} (hx:jo) (hl:yN) (hc:zV2) (hd:CV) (hj:Mp):uO qa6
 |ot {way:Ĉ} {part k:Nat} {x:Pt} {l:Ln} (hx:jo) (hl:yN) (hc:zV2) (hd:YU l=false):uO [uR]
@[simp]def Qps{a:Ĉ}:Js qQ1=true:=Jp _ QhY
@[simp]def Qqq:Yj (a++[x]) nO xc0=a:=by
 unfold Yj;let c:HT.sIx zFh 0 nO=0:=HT.sIx_none _ _
 let b:HT.sIx zFh zFh xc0=a.length:=by
  unfold HT.sIx;simp;lia
 rw[c,b];simp
def QnG(w:Ĉ)(h:w≠[]):∃r q,w=zf2:=zwd w h
abbrev Yz(p:Ó)(s:Spt)(L:Ý):Prop:=(∀t∈L,yp t/\SW t)/\lc/\∀h:MH,jM6
def QhD{part k:Nat}(hw:∀q∈way,ju8)(b:jo)(c:k<=ï)(a:SW #[way,part,d,e]):yp qk/\SW qk:=#[#[#[x,b,c,Ê],hw],zI3]
def bP{L:Ý}(e:QI jP4 []=jz1):jM6:=jS2
def bI{ls:ĩ}{L:Ý}(e:Zb jB3 []=jz1):Jo jB3 h=zme:=jS2
def QbB{way:Ĉ}{part k:Nat}(i:ϛ)(hN:zae)(n:yp Hn)(c:SW Hn):∃L,zGg/\Yz p Hn L:=by
 let#[x,b,s,t]:=n.ex;let hw:=n.way;simp only at b s hw;let#[r,a]:=t rfl;simp only at a;show jB4 o b e i f q;let d:=i.sz x o;let F:=WA (i.bal x o);let#[en,m]:=F.ag k (by rw[NB,a];apply sO zL8=_;rw[J3]);let j:en<ï:=zP m
 let g:=ú a;let w:jIe:=λh=>Qgs f (Nd d hN) m;let v:=Xg b;refine#[[n5,uR],Ê,?_,.head b a J3 m,æ h]
 ·show jY6
  ·show QhD hw b j c
  ·show QhD hw b g c
 ·refine bP ?_;simp[QI,Qs,Qu,v,w]
def Y4{part k:Nat}(n:ϛ)(hN:zae)(m:yp qk)(c:SW qk)(d:jo)(f:k=ï):jM0:=by
 let hw:=m.way;simp only at hw;let i:=Xg d;let en:∀h,qh8=ĵ h:=λh=>KC d (õ f);simp only[Qu]at en
 by_cases a:way=[]
 ·subst a
  let b:∀h,Vv [Qu #[[],part,k,false]] h=sO (ś,h):=λh=>by
   show jff
  simp only[Qu]at b;refine#[[],Ê,Ê,.fin0 rfl d qee,æ h]
  show jY7
 ·let#[r,q,rfl]:=QnG way a;let#[y,l,e]:=hw q Ç
  let b:∀h,Vv [Qu #[zf2,part,k,false]] h=sO (Î [Qu nG],h):=λh=>by
   show jff
  simp only[Qu]at b;refine#[[nG],Ê,?_,.fin rfl d qee,æ h]
  ·intro u hu;simp at hu;subst hu;show#[#[#[y,l,by apply q.2+1<=_;show e,Ê],λz a=>hw z (by simp;show Ø a)],#[λj z a=>c.up j z (by apply(r++[q])[j]?=_;rw[NM (ú a)];show a),c.up r.length q Ç]]
  show jY7
def GG(h:zbc b CA)(hd:x="do"):∃nm,r=[nm]/\nm∈b:=by
 subst hd;generalize a:(zJ9::r)=l at h;cases h with
 |plain h=>cases h<;>simp at a
 |«do» h=>simp at a;show#[_,a,h]
 |blk h=>rcases h with rfl|rfl|rfl|rfl<;>simp at a
 |back h=>simp at a
def Qo9(h:cd x=.ag):vE:=by
 rcases zcc with⟨rfl,a⟩|⟨rfl,a⟩|⟨rfl,a⟩|⟨rfl,a⟩|⟨_,a⟩
 ·show gV
 ·rfl
 ·show gV
 ·show gV
 ·show gV
def QjH{ns:Á}(h:nm∈ns):∃j,ns.findIdx? (·==nm)=sO j/\j<ns.length:=by
 cases e:ns.findIdx? (·==nm)with
 |none=>
  rw[FT]at e;let:=e nm h;show pH
 |some j=>
  refine#[j,rfl,?_];rw[EX]at e;show e.1
def Qje(P:zV3)(f:W->W):∀(rest a:À W) (d:MSt),P d->(∀w∈rest,jUe d c)->qc9->Jc fin items nO b Uo me rest a d h=fin (a++rest.map f) h:=by
 intro rest
 induction rest with
 |nil=>
  show jv1 d
 |cons w rest i=>
  intro a d l e n;let m:jS0:=ĝ n
  let#[c,p,g,o]:=e w Nw d l;unfold Jc;rw[v9,p,Nv];apply(sO zca).bind _=_;rw[Nv];simp only[o,Nv];rw[Bd,i qS2 c g (uT j e) tN];simp
def QlP(P:zV3)(f:W->W)(hi:zx7)(g:P (QgH cp σ))(d:∀w∈items,jUe c a)(e:zAf):xa1 b=qbd:=by
 unfold Zz;rw[hi,Nv];rw[Qje P f items [] _ g d xr];simp
def KE{ns:Á}(n:ns.Nodup)(h:nm∈ns.drop (m+1))(f:ns.findIdx? (·==nm)=sO j):m+1<=j:=by
 show Mf i g h;rw[Li]at g;let#[d,e]:=Nk.mp g;rw[EX]at f;let#[c,b,_]:=f;simp at b;let l:=DT.mp n
 by_cases a:j<m+1+i
 ·show û (cL b e) (l j (m+1+i) c d a)
 ·show Nd ŗ (ł a)
noncomputable abbrev iS(way:Ĉ)(part k:Nat)(x:Pt)(y:Str):MSt:=[sO (Ŋ va),sO (Ŋ [Ì qI4,.int part,Ä k,jZ]),zo4,sO uE]
def Qbp{way:Ĉ}{part k:Nat}{l:Ln}(O:ϛ)(hN:zae)(hs:yp qk)(a:SW qk)(c:jo)(d:yN):jM0:=by
 let hw:=hs.way;simp only at hw;show jB4 Q c E O w d;let A:=O.sz x Q;let F:=WA (O.bal x Q);let b:=ú d;let#[y,r,rfl]:=w l (yP k d);let C:(x.2.map cdL)[k]?=sO zZg:=vA d
 let ep:=Xg c;let el:=Ux d;let f:∀h,qh8=sO (Qj (y::r),h):=λh=>Ub c rfl d;simp only[Qu]at f;let nk:¬ĳ=ï:=Ñ
 let af:¬k=ï:=by show NS b
 let nl:JH (Qj (y::r))=false:=rfl;let P:∀m,m<=ï->yp qoc/\SW qoc:=λm Q=>QhD hw c Q a;let one:∀(u:Spt),(yp u/\SW u)->∀t∈[u],yp t/\SW t:=λu hu t ht=>by rw[Nq.mp ht];show hu
 let up:y≠"do"->∀(L:Ý),(∀h,Jo [Ì va,Ì [.tup qI4,.int part,Ä k,jZ]] h=zme)->∀h,QH [QO p,Qu qk] h=zme:=λhd L e h=>by
  refine bP ?_;simp[QI,Qs,Qu,ep,f,nl,hd,e]
 let D:Zb [Ì va,Qu qk] []=Qd1 (QE (iS way part k x y) []):=by
  simp[Zb,Qs,Qu,el]
 rcases Jn (x:=y)with⟨rfl,g⟩|⟨rfl,g⟩|⟨rfl,g⟩|⟨rfl,g⟩|⟨⟨n1,n2,n3,n4⟩,g⟩
 ·let#[S,n]:=F.ei k zK7;let X:S<ï:=zP n
  let eo:∀h,YY jB5 h=sO (Ä S,h):=λh=>QnT w zRi n;refine#[[uR,#[way,part,S+1,false]],Ê,?_,.ei c d g n,S6]
  ·show jY6
   ·show P _ b
   ·show P _ X
  ·show xR;simp[QE,Qu,eo]
 ·refine#[[Hn],Ê,one _ #[#[#[x,c,by apply k<=_;show NF b,λ_=>ĺ r d],hw],zI3],.ag c d g,S6]
  ·show xR;simp[QE,Qu]
 ·let#[en,n]:=F.oo k zK7;let ab:en<ï:=zP n
  let ee:jIe:=λh=>Qgs w zRi n;refine#[[n5],Ê,one _ (P _ ab),.oo c d g n,S6]
  ·show xR;simp[QE,Qu,ee]
 ·let#[fs,n,h4]:=F.en k zK7;let eh:∀h,VO jB5 h=sO (.int fs,h):=λh=>QhX w zRi zYa n;let B:fs<ï:=by let:=n.lt;show Ea this b
  let#[z,r',hz]:=w x.2[fs] (Eu B);let o:x.2[fs]?=sO (z::r'):=by rw[Nj B,hz]
  let ef:=Ux o;let ae:(x.2.map cdL)[fs]?=sO (cd z):=vA o
  by_cases ha:z="again"
  ·subst ha;refine#[qkg,Ê,one _ #[#[#[x,c,by apply fs<=_;show NF B,λ_=>ĺ r' o],hw],zI3],.enA c d g n o J3,S6]
   ·show xR;simp[QE,Qu,eh,ef]
  ·refine#[[uR],Ê,quh,.enE c d g n o (by rcases h4 with q|q<;>rw[ae]at q<;>first|show NY q|show absurd (Qo9 (NY q)) ha),S6]
   ·show xR;simp[QE,Qu,eh,ef,ha]
 ·by_cases hd:y="do"
  ·let#[nm,rfl,G]:=GG (E _ (yP k d)) hd;subst hd;let#[j,Z,Y]:=QjH (FI G);let U:=KE O.nd G Z;let H:=O.len;let en:∀h,jP9:=λh=>Qb0 Z (NF (qN H));let M:j<p.length:=ĝ Y
   let s1:way.length+1<=sizeLine:=Qer (by let:=a.le;let:=ú c;simp only at *;lia);refine#[qa6,Ê,one _ #[#[#[p[j],Nj M,NN _,Ê],?_],?_],.dd c d g jO4 (by apply(if YU (["do",nm]:Ln)=true then _ else nO)=sO j;show(jA jO4,Z)),æ h]
   ·intro q v;simp at v
    rcases v with v|rfl
    ·show hw q v
    show Š #[x,c,b]
   ·refine#[Ï i q v,by let:=a.le;simp at this ⊢;show Nd (E2 this _) U];let aa:=ú v;simp at aa;let I:=a.le;simp only at I v
    by_cases hi:i<way.length
    ·rw[NM hi]at v;show a.up i q v
    ·let:i=way.length:=Ñ
     subst this;simp at v;show wg v I
   ·refine bP ?_;simp[QI,Qs,Qu,ep,f,nl,en,s1,Qat]
  ·refine#[[uR],Ê,quh,.ot c d g (by apply(y==zJ9)=false;simpa using hd),up hd _ jpf]
   ·show xR;simp[QE,Qu,n1,n2,n3,n4]
def QjO(d:ϛ)(hN:zae)(b:yp s)(a:SW s):jt0:=by
 show rD e;cases head with
 |true=>show QbB d hN b a
 |false=>
  let#[x,c,f,_]:=b.ex;simp only at c f
  by_cases z:k=ï
  ·show Y4 d hN b a c z
  ·show Qbp d hN b a c (Nj Â)
def Gq:∀(N:Nat) (l:ĉ),l.Nodup->(∀x∈l,x<N)->l.length<=N
 |0,[],_,_=>Nu _
 |0,x::l,_,h=>absurd (h x Nw) (PD ě)
 | N+1,l,b,h=>by
  let h1:=Gq N (l.erase N) (b.erase N) (λx a=>by
   let:=h x (List.mem_of_mem_erase a);let:=((b.mem_erase_iff).mp a).1
   lia)
  rw[List.length_erase]at h1;split at h1<;>lia
section
variable{N:Nat}{bs ws:Á}{p:Ó}
def Qk0(c:ϛ)(d:y6)(e:l∈x.2)(hd:Mp):i+1<=j/\CV:=by
 unfold QdD at hd;split at hd
 ·rename_i a;let#[y,r,rfl]:=XA (c.ok i x d l e);let#[nm,rfl,b]:=GG (c.ok i x d _ e) (by simpa[YU]using a);show#[KE c.nd b hd,a]
 ·cases hd
inductive Chn(p:Ó):Ĉ->vM where
 |nil:Chn p [] 0
 |snoc {r way:Ĉ} {i k j:Nat} {x:Pt} {l:Ln} (hw:way=r++[(i,k)]) (c:Chn p r i) (hx:y6) (hl:yN) (hj:Mp):Chn p way j
structure Rc(p:Ó)(s:Spt):Prop where
 v:yp s
 w:SW s
 c:zM0 s
def Qk7(h:lc)(c:zM0 s):∀t∈L,zM0 t:=by
 cases h with
 |head=>show(Hk,qy5)
 |fin0=>show Hk
 | @fin way r q part k x hw d f=>
  show Hk;subst a;cases c with
  |nil=>simp at hw
  |@snoc u _ i w _ o v b n g j l=>
   rw[hw]at b;let#[rfl,e]:=YaG b rfl;show Ŭ e n
 |ei=>show(Hk,qy5)
 |ag=>show Se
 |oo=>show Se
 |enA=>show Se
 |enE=>show Se
 |dd d f y hd m=>show Hk;subst a;show .snoc rfl c d f m
 |ot=>show Se
def Kz(h:k<=j)(a:j<=ï):ϋ j<=ϋ k:=by
 show Ā e k j
 ·rw[e];show Nu _
 ·show NF (Gr Â Â)
inductive Vl(p:Ó):Nat->Ĉ->Nat->Nat->vM where
 |here {i k:Nat} {x:Pt} (hx:y6) (hk:k<=ï):Vl p i [] i k (1+ϋ k)
 |down {i k0 j part k v:Nat} {x:Pt} {l:Ln} {w:Ĉ} (hx:y6) (hl:x.2[k0]?=sO l) (hj:Mp) (a:ck j):Vl p i ((i,k0)::w) part k (v+(1+ϋ (k0+1)))
def Qgx(g:ϛ)(d:RL p){i part k v:Nat}(a:ck i):1<=v/\v<=1+Wt i:=by
 induction a with
 |@here i k x b q=>
  let:=d i k;rw[XT b]at this;lia
 |@down i c j part k v x l w b e f a o=>
  let#[n,m]:=Qk0 g b (yP c e) f;let r:=Qdh n;let h:=d i c;rw[XT b,Kn e,cst,Ð m]at h;lia
def Qkv(H:ϛ)(S:RL p){i part k v:Nat}(a:ck i):∀{b n u:Nat} {w':Ĉ},Vl p i w' b n u->v=u->w=w'/\part=b/\k=n:=by
 let r:∀{i d j part k v:Nat} {x:Pt} {l:Ln} {w:Ĉ},y6->qVh->Mp->ck j->ϋ (d+1)+2<=zNf/\zNf<=ϋ d:=by
  intro i d j part k v x l w f m q a;let#[X,U]:=Qk0 H f (yP d m) q;let Y:=Qdh X;let#[L,I]:=Qgx H S a;rw[Kn m,cst,Ð U];lia
 let s:∀{i k d j b n v:Nat} {x:Pt} {l:Ln} {w:Ĉ},y6->k<=ï->qVh->Mp->Vl p j w b n v->1+ϋ k=zNf->False:=by
  intro i k d j b n v x l w f y m q a e;show qQ3;let E:=ú m
  by_cases z:k<=d
  show t5 z (NF E)
  show t5 (show d+1<=k by show E4.mp z) y
 induction a with
 | @here i k x f y=>
  intro b n u w' G e;cases G with
  |@here _ _ B c o=>
   show ä f c;refine#[rfl,rfl,?_]
   rcases Fm k n with z|z|z
   ·let:=zQ4 z (Ng z o);lia
   ·show z
   ·let:=zQ4 z (Ng z y);lia
  |@down _ t P _ _ v1 B O M c g h A=>
   show(ä f c,(s f y g h A e).elim)
 | @down i d j part k v x l w f m q a Q=>
  intro b n u w' G e;cases G with
  |@here _ _ B c o=>
   show(ä f c,(s f o m q a e.symm).elim)
  | @down _ t P _ _ v1 B O M c g h A=>
   show(ä f c,qQ3);let#[c1,Z]:=r f g h A;let D:=ú m;let C:=ú g
   let:d=t:=by
    rcases Fm d t with z|z|z
    show t5 (show d+1<=t from z) (NF C)
    ·show z
    show t5 (show t+1<=d from z) (NF D)
   subst this;show(ä m g,ä q h);let#[rfl,rfl,rfl]:=Q A Â;show wZ
def Qdn(c:Chn p way i):∀{w:Ĉ} {part k v:Nat},ck i->Vl p 0 (way++w) part k (v+QgB p way):=by
 induction c with
 |nil=>intro w part k v a;simpa[QgB]using a
 |@snoc r way i b j x l hw c d f g e=>
  intro w part k v a;let:=e (.down d f g a);rw[hw,Qci,XT d];rw[Eh,LY,Ob];rw[show v+(QgB p r+js1)=v+js1+QgB p r by lia];show this
abbrev Qhb(p:Ó)(s:Spt):Nat:=2*(1+QjD p s.part s.k+QgB p s.way)+if MN then 1 else 0
def Qeo(u:ϛ)(r:RL p)(h:yZ)(h':Rc p d)(e:Qhb p s=Qhb p d):s=d:=by
 let#[x,l,t,_]:=h.v.ex;let#[A,f,g,_]:=h'.v.ex;let a:=Qdn h.c (.here l t);let y:=Qdn h'.c (.here f g);unfold Qhb at e;rw[XT l,XT f]at e
 let i:s.head=d.head:=by
  cases z:s.head<;>cases o:d.head<;>rw[z,o]at e<;>simp at e ⊢<;>lia
 rw[i]at e;let#[j,n,m]:=Qkv u r a y Â;simp only[Eb]at j;show(ŧ w q k b s,ŧ B C D E d);simp only at j n m i;subst j n m i;rfl
def Qia(g:ϛ)(e:RL p)(h:yZ):Qhb p s<152:=by
 let#[x,b,f,_]:=h.v.ex;let a:=(Qgx g e (Qdn h.c (.here b f))).2;rw[<-XT b]at a;let d:Wt 0=74:=rfl;rw[d]at a;unfold Qhb;split<;>omega
def QgI(d:ϛ)(c:RL p){L:Ý}(i:L.Nodup)(h:∀s∈L,yZ):L.length<=152:=by
 let:=Gq 152 (L.map (Qhb p)) ?_ ?_
 ·rwa[ND]at this
 ·rw[List.Nodup,LC];refine LW (λ{a b} l j ne e=>ne (Qeo d c (h a l) (h b j) e)) i
 ·intro x f;show(jk s g f,Qia d c (h s g))
#print"-"
abbrev trS(s:Spt):Tr:=.t [.t (s.way.map λq=>.t zI4),.i s.part,.i s.k,.i (if s.head then 1 else 0)]
def Qj9:∀(a:Ĉ),(a.map Qat).mapM (KA 6)=sO (a.map λq=>Tr.t zI4):=by
 intro a
 induction a with
 |nil=>
  show rfl
 |cons q a b=>
  rw[NH,De,b];rfl
def WK:zJ5:=by
 apply KA 8 (Ŋ [Ì qB7,xbd,.int s.k,.bl s.head])=_;simp only[KA,De,Fe,Qj9];rfl
def QdS(h:trS a=trS b):a=b:=by
 let#[w,q,k,hd]:=a;show ŧ d g j c b;unfold trS at h;show(qha h,ŧ o n m l h)
 let u:w=d:=by
  refine Yap (f:=λq:Œ=>Tr.t zI4) (Ϗ x y e)|>.mp o
  show(qha e,LN (Lq e.1) (Lq e.2))
 let s:q=g:=Lq n;let r:k=j:=Lq m;let p:hd=c:=by cases hd<;>cases c<;>simp at l ⊢
 subst u s r p;rfl
def Qiv(h:nrm (Qu a)=sO (trS b)):a=b:=by
 rw[WK]at h;show QdS (NY h)
noncomputable instance sptDec:DecidableEq Spt:=qab
open Classical in
abbrev nx(p:Ó)(s:Spt):Ý:=if h:jt0 then h.choose else[]
section
variable{bs ws:Á}{p:Ó}
def WE(b:Ă)(a:yZ):qy6/\Yz p s (nx p s):=by
 let h:=QjO b à a.v a.w;unfold nx;rw[z6 h];show h.choose_spec
def Qjw(d:Ă)(a:yZ)(h:t∈pe):zfc:=by
 let#[_,b,e,_]:=WE d a;show#[(b t h).1,(b t h).2,Qk7 e a.c t h]
noncomputable abbrev sp0:Spt:=qy4
def rc0(a:Ă):Rc p sp0:=by
 let b:0<p.length:=Dz.mpr a.ne;show#[#[#[p[0],Nj b,NN _,Ê],Ê],#[Ê,Nu _],.nil]
inductive Dfs(p:Ó):Ý->Ý->Nat->Ý->Prop where
 |done {met:Ý}:Dfs p met [] 0 met
 |skip {met st out:Ý} {s:Spt} {n:Nat} (h:zZh) (d:HB):jX8
 |add {met st out:Ý} {s:Spt} {n:Nat} (h:s∉met) (d:Dfs p wX zp0 n out):jX8
def Qld(o:Ă):∀(m:Nat) (met st:Ý),met.Nodup->(∀s∈met,yZ)->ju9->3*(152-met.length)+st.length<=m->∃n out,HB/\n<=m/\out.Nodup/\∀s∈out,yZ:=by
 let f:=Qge o;intro m
 induction m with
 |zero=>
  intro met st h l x v;let:st=[]:=Ek.mp (Er (mX v) ě);show cF #[0,met,.done,Nu _,h,l]
 | succ m A=>
  intro met st h l x v;cases st with
  |nil=>show#[0,met,.done,NN _,h,l]
  | cons s st=>
   rw[NO]at v;let r:=x s Nw;let i:∀t∈st,zfc:=BJ t c x
   by_cases z:zZh
   ·let#[n,out,d,w,u,f]:=A met st h l i Â;show#[n+1,out,.skip z d,zSe w,u,f]
   ·let g:(met++[s]).Nodup:=by
     rw[EB];show#[h,Ê,zjc C B z]
    let j:∀t∈met++[s],zfc:=λt c=>by
     show zB c q l t r
    let y:=QgI o f g j;rw[NA,N1]at y;let D:=(WE o r).1
    let#[n,out,d,w,u,f]:=A wX zp0 g j (λt c=>by
     show ů c q
     ·show Qjw o r q
     ·show i t q) (by rw[NA,NA,N1];lia)
    show#[n+1,out,.add z d,zSe w,u,f]
abbrev K1(met:Ý):jr:=met.map λs=>(Qu s,ŵ)
def Qdj:qOa=decide qy7:=by
 induction met with
 |nil=>rfl
 | cons t met a=>
  let b:nrm lH=sO (trS t):=WK
  show Ā e t s
  ·subst e;simp[K1,XX,NZ,b]
  ·let d:¬nrm lH=sO rE:=λz=>e (Qiv z);let:XX (K1 (t::met)) rE=XX zBa rE:=by simp only[K1,XX,NH,NZ,d,decide_false]
   show qy8 c s
def W8(a:qvd):U4 true vn Η h=sO (ö qd2,h):=by
 let c:zF2=sO zBa:=by simp only[Ks,a]
 let b:zJ5:=WK;unfold U4;rw[c,Nv,b,EY,Qdj];rfl
def QjU(c:qvd)(b:s∉met)(d:met.length<sizeLine):Xv Η vn He h=sO (lV (yo (K1 wX))):=by
 let e:zJ5:=WK;let a:qOa=false:=by rw[Qdj];show yq b
 unfold Xv;show j9 c;rw[e,Nv,if_pos (by unfold K1;rw[ND];show d)];unfold Qb9;rw[a];simp[K1]
@[simp]def Qgn:YM mo mi mv σ h=Ĵ (λv=>@ob _ _ (λo=>@ob _ _ (λi=>yi (λh'=>.nx σ h') (Xv o.1 i.1 v.1 i.2)) (mi σ o.2)) (mo σ v.2)) (mv σ h):=q0
def Xy(e:t σ h=sO zca)(a:body σ h=ſ σ2 h2):ql9=zLh f:=by
 rw[QV,e,Nv,a];rfl
def K4(e:t σ h=qTi):ql9=ſ σ h:=by rw[QV,e];rfl
def szN(h:n<=16000000):Mt:=rZ h
noncomputable abbrev qS(p:Ó)(a b:ê):MSt:=[ė,Ϛ,sO fk,a,b]
noncomputable abbrev qH(met st:Ý):MH:=i5
def QcE:∀(L st:Ý) (b:ê),st.length+L.length<=16000000 ->
  ∃c,Jf items nO zee Yr nS qVi zN1=sO (Ĕ (qS p a c) (qH met (L.reverse++st))):=by
 intro L
 induction L with
 |nil=>
  intro st b _;show#[b,Gw]
 |cons s L i=>
  intro st b h;rw[NO]at h;let#[c,e]:=i zQ3 zu9 (by rw[NO];lia);show lU c;let g:st.length<sizeLine:=szN (vg h);rw[NH,QcS (σ1:=qef) (σ2:=qef) (h2:=qH met zQ3) rfl (Μ g)];rw[e];simp
def QdT(A:Ă){met st out:Ý}(d:HB):∀(f:Nat) (a b:ê),n<f->met.length+n<=15000000->st.length+2*n<=15000000->ju9->∃j i,QV zIe XU f qVi zN1=sO (Ĕ (qS p j i) qQ4):=by
 induction d with
 |@done met=>
  intro f a b B _ _ _;show jRh
  show#[a,b,K4 Ç]
 |@skip met st out s n h d w=>
  intro f a b B C g m;show jRh
  rw[NO]at g;let#[j,i,e]:=w f zu9 b Â Â Â (BJ t c m);show pr j i;let l:=jZ6;rw[Xy (σ2:=qui b) (h2:=zV4) Ç (by simp only[qH]at l;simp[l,h]),e]
 | @add met st out s n h d w=>
  intro f a b B C g m;show ztd
  rw[NO]at g;let z:=m s Nw;let#[I,_,_,en]:=WE A z;let x:∀t∈st,zfc:=BJ t c m;let l:=jZ6;let G:=QjU (s:=s) (h:=zV4) (n:=0) rfl h (szN (NF (qN (vg C))));let#[E,y]:=QcE (p:=p) (items:=qmb) (met:=met++[s]) (a:=sO vn) (nx p s).reverse st b (by rw[Dy];lia);rw[IL]at y
  let#[j,i,e]:=w f zu9 E Â (by rw[NA,N1];lia) (by rw[NA];lia) λt c=>by
   show ů c q
   ·show Qjw A z q
   ·show x t q
  show pr j i
  let D:Qb8 (ã zt7) qVj zz9=sO (qmb,nO,qj7):=by
   let:(Qa zt7 Qe) qVj zz9=sO ([Î quj],qj7):=by simp[en]
   unfold Qb8;rw[this,Nv,YaH]
  let u:Xv fO vn He zN1=sO zz9:=G;let H:¬zZh:=h;rw[Xy (σ2:=qui E) (h2:=qH wX zp0) Ç ?_,e];let r:Xv fO vn He i5=sO [qb (K1 wX),qki]:=u;let v:U4 true vn fO i5=sO (ö qd2,i5):=l;simp only[qS,qH]at D y;simp[v,H,r,ZM,D];rw[<-YaH];show y
#print"-"
section
variable{bs ws:Á}{p:Ó}
def QfK(a:Ă):∃(n:Nat) (out:Ý),Dfs p [] [sp0] (n+1) out/\n<=470/\qI5/\out.Nodup/\(∀s∈out,yZ)/\jLe:=by
 let j:=rc0 a;let#[n,out,d,c,i,f]:=Qld a 460 [] [sp0] Dd Ç jjc Ç;cases d with
 |skip h=>simp at h
 | @add _ _ _ _ n h d=>
  refine#[n,out,.add h d,by show qb8,QgI a (Qge a) i f,i,f,æ u];let#[t,r,e]:=QdT a (.add h d) 20000000 nO nO (qN c) (by simp;show qb8) tN jjc;refine Qi (g:=gt) Ç ?_ Ç
  let q:Xa [Pq] gt=sO (Î yI,gt):=by
   let:Ks gt fO=sO qeg:=rfl;unfold Xa;simp only[this,EY];simp[K1,EA]
  let o:∀m,Z9 m []=sO (Pq,[Ť]):=ς;let l:QV zIe XU 20000000 [ė,Ϛ,sO fk,nO,nO] [Ť,Î [Qu sp0]]=sO (Ĕ (qS p t r) qQ4):=e;simp only[qH,ET,List.reverse_nil]at l;simp[Ya,Qs,o];rw[l];simp[q]
#print"-"
def Kc{f:a->À d}:∀(l:À a),(∀x∈l,(f x).length<=n)->(l.flatMap f).length<=n*l.length:=by
 intro l
 induction l with
 |nil=>
  intro _;simp
 |cons x l b=>
  intro h;let:=b (BJ y c h);let:=h x Nw;rw[LF,NA,NO,Nat.mul_succ];lia
noncomputable abbrev Pl:=Œ
abbrev JG(q:Pl):W:=zng
@[simp]def Qrj:pur Ph=true:=rfl
section
variable{bs ws:Á}{p:Ó}
def Qaw{met st out:Ý}(d:HB):(∀s∈met,∀t∈pe,t∈met\/t∈st)->∀s∈out,∀t∈pe,pi:=by
 induction d with
 |done=>intro h s c t a;rcases h s c t a with z|z;show z;cases z
 | @skip met st out s n h d b=>
  show qy9
  show qQ5
  show š z
  ·show ϲ z
   show ja h z
 | @add met st out s n h d b=>
  show qy9
  rcases NG.mp hu with hu|hu
  ·show qQ5
   ·show Ø zT3
   ·show ϲ z
    ·show Ø Ç
    show Ŗ (qc z)
  ·rw[Nq.mp hu]at a;show å (NT _ a)
def Qgh{met st out:Ý}(d:HB):(∀s∈met,zdf)/\∀s∈st,zdf:=by
 induction d with
 |done=>show#[zX6,λ_ h=>jy h]
 |@skip met st out s n h d b=>show#[b.1,λt a=>by show(ϲ a,b.1 _ h,b.2 t a)]
 |@add met st out s n h d b=>show#[λt a=>b.1 t (NT _ a),λt a=>by show(ϲ a,b.1 _ Ç,b.2 t (qc a))]
inductive Reach(p:Ó):Spt->Prop where
 |start:Reach p sp0
 |step {s t:Spt} (h:Ϡ) (ht:t∈pe):Pf t
def Qig{met st out:Ý}(d:HB):(∀s∈met,Ϡ)->(∀s∈st,Ϡ)->∀s∈out,Ϡ:=by
 induction d with
 |done=>show λh _=>h
 |@skip met st out s n h d c=>show λe b=>c e (BJ t a b)
 | @add met st out s n h d c=>
  intro e b;let f:=b s Nw
  show c (λt a=>by
   show zB a q e t f) λt a=>by
   show ů a q
   ·show .step f q
   ·show b t (Φ q)
structure Al(p:Ó)(out:Ý):Prop where
 few:qI5
 pos:0<out.length
 nd:out.Nodup
 rc:∀s∈out,yZ
 cl:∀s∈out,∀t∈pe,pi
 s:jLe
 rch:∀s∈out,Ϡ
 st:sp0∈out
 nx2:∀s∈out,qy6/\(∀h:MH,qh9=sO (Î quj,h))
def QeG(f:Ă):∃out,ϊ:=by
 let#[n,out,d,j,b,g,c,e]:=QfK f;refine#[out,b,Fk ((Qgh d).2 sp0 Ç),g,c,Qaw d Ç,e,Qig d Ç (by intro s a;rw[ĸ a];show .start),(Qgh d).2 sp0 Ç,Ò s a];let#[i,_,_,h]:=WE f (c s a);show#[i,h]
abbrev ixS(out:Ý)(t:Spt):Nat:=zP6
abbrev sq(out:Ý)(q:Nat):Spt:=out.getD q sp0
def QaT(h:zN2):out[q]?=sO zig:=by
 unfold sq;rw[FK,Nj h];rfl
def Vu(h:zN2):sq out q∈out:=NP.mpr #[q,QaT h]
def Yn(h:pi):jz2:=List.idxOf_lt_length_of_mem h
abbrev Ed(p:Ó)(out:Ý)(q:Nat):Ĉ:=(nx p zig).map λt=>(q,vq)
abbrev Eg(p:Ó)(out:Ý)(n:Nat):Ĉ:=(List.range n).flatMap (Ed p out)
def QhF:Eg p out (n+1)=Eg p out n++Ed p out n:=by
 unfold Eg;rw[YaO];simp
def QgF(A:ϊ)(h:n<=out.length):(Eg p out n).length<=2*n:=by
 let:=Kc (f:=Ed p out) (n:=2) (List.range n) λq a=>by
  unfold Ed;rw[ND];show(A.nx2 _ (Vu (by let:=EK.mp a;show Ng this h))).1
 rwa[Du]at this
def Qq9{q:Nat}(h:zN2):atI yI (q:Int)=sO (Qu zig):=qQ6 h
#print"-"
def Qdy:∀{ws:À W},CM->∀{k:Nat},zZ2=sO qU0:=by
 intro ws
 induction ws with
 |nil=>
  intro _ k;show rfl
 |cons a r c=>
  intro b k;show Tf b;let:=c b.2 (k:=k);show jL3
def VU{ws vs:À W}(d:CM)(e:m ws []=uF j g)(f:g[j]?=sO (.lst vs))(b:Js vs=true):qK9=sO (.lst vs,h):=by
 let c:qka:=Qdy d
 let:=Qch (m:=m) (args:=ws) (as:=ws) (ns:=[]) (os:=[]) (os':=[]) (g:=g) (h:=h) (w:=Ã j) (w':=.lst vs) c Ç rfl e rfl Ç (by
  unfold th res
  simp[Wx,f,Xc _ vs b])
 simpa[Zd]using this
def Qlw{κ:Type}[f5 κ]{q:κ}{G:List (κ×Nat)}(h:q∉G.map (·.1)):(G.find? (qC g q))=nO:=by
 rw[Lj];intro g a;simp;show λz=>h (jab z N3 a)
section
variable{bs ws:Á}{p:Ó}{out:Ý}
abbrev plW(s:Spt):W:=if MN then .non else JG qW1
@[simp]def Qqw:pur (plW s)=true:=by unfold plW;split<;>simp
def Qab:Xl [Qu s] h=sO (plW s,h):=by
 refine uN;show rD a;cases head<;>simp[VD,Qs,Qu,plW,JG]
abbrev lnO(p:Ó)(s:Spt):Ğ:=if MN then nO else(p[s.part]?).bind λx=>kw
abbrev lnW(p:Ó)(s:Spt):W:=match zZi with
 |Û l=>Qj l
 |none=>.non
@[simp]def Qqe:pur (lnW p s)=true:=by unfold lnW;split<;>simp
def QbL(d:yp s):qh7=sO (lnW p s,h):=by
 let#[x,a,f,_]:=d.ex;unfold lnW lnO;rw[a,Nv];cases c:s.head with
 |true=>show KC a (đ c)
 |false=>
  simp only[Ee,if_false]
  by_cases b:s.k=ï
  ·rw[Ep (ħ b)];show KC a (õ b)
  ·let e:kw=sO (x.2[s.k]' Â):=Nj É;rw[e];show Ub a c e
abbrev nm(Z:zI5):jr:=Z.map λq=>(zJa,Ct)
def Qg5:XX (nm Z) rE=(Z.find? (qC q s)).map λq=>Ct:=by
 unfold XX nm
 induction Z with
 |nil=>rfl
 |cons q Z a=>
  show zSf e q s
  ·simp[e,WK]
  ·let:¬qW3=trS s:=λz=>e (QdS z);simp only[WK,Option.some.injEq,this,e,decide_false];show a
def Qpq:∀(r a:zI5),((a++r).map (·.1)).Nodup->mgQ (nm a) (jQ7 r)=nm (a++r):=by
 intro r
 induction r with
 |nil=>
  intro a _;simp[mgQ]
 | cons q r c=>
  intro a b
  let d:q.1∉a.map (·.1):=λz=>by
   rw[Ec,EB]at b;show b.2.2 _ z q.1 Ç rfl
  let e:Qb9 (nm a) (trS q.1) (Qu q.1) qW4=nm qS3:=by
   unfold Qb9;rw[Qg5,Qlw d];simp[nm]
  unfold mgQ;rw[NH,IG,e];let:=c qS3 gJ;unfold mgQ at this;rw[this];simp
def Qfj:∀(out:Ý) (k:Nat),pi->((out.zipIdx k).find? (qC q t))=sO (t,k+vq):=by
 intro out
 induction out with
 |nil=>
  intro _ h;cases h
 | cons s out a=>
  intro k h;unfold ixS;rw[YaF,NZ,List.idxOf_cons]
  show ny e s t
  ·let b:(s==t)=false:=ĝ e
   let:=a (k+1) (by show(BD h z,absurd z.symm e,z));simp only[e,decide_false,this,b,cond_false];unfold ixS;rw[show k+1+zP6=k+(zP6+1) by show zWb]
def QkE:∀(Z:zI5),prQ (Z.map zjj)=sO (jQ7 Z):=by
 intro Z
 induction Z with
 |nil=>
  show rfl
 |cons q Z a=>
  rw[NH,prQ,WK,Nv,a];rfl
def Qlj(b:h[n]?=sO (yo TM))(a:pi):U3 Η lH h=sO (Ä qbi,h):=by
 unfold U3;let:zF2=sO TM:=by simp only[Ks,b]
 rw[this,Nv,WK,Nv,Qg5,Qfj out 0 a];simp
def XZ(a:pi):qcg:=by
 let b:=QaT zf0;rw[Nj zf0]at b;let c:out[vq]' zf0=t:=List.getElem_idxOf zf0;show(NY b).symm.trans c
abbrev stW(p:Ó)(out:Ý)(e:Œ):W:=Ì [.int e.1,lnW p qM2,.int e.2,plW zxd]
@[simp]def Qoh{l:Ĉ}:Js (l.map t9)=true:=by
 induction l with
 |nil=>rfl
 |cons e l a=>simp[stW];show a
noncomputable abbrev tS(p:Ó)(out:Ý)(a x5 x6 x7:ê):MSt:=[ė,zni,Ϛ,sO fk,a,x5,x6,x7]
noncomputable abbrev tH(p:Ó)(out:Ý)(L:Ĉ):MH:=[qb TM,Î (L.map t9)]
set_option backward.eqns.nonrecursive false in
abbrev swp:W->W
 |Ì [a,b]=>Ì [b,a]
 |w=>w
def QfL(A:ϊ)(h:MH):Vj Pa h=sO (Î ((Eg p out out.length).map t9),h):=by
 let x:=A.few;let f:(VZ yI).length=out.length:=by simp[VZ]
 let e0:∀c:MSt,c[1]?=sO (sO (Þ yI))->Zz XN (J7 jD) zZc qEe Uo (Bb (jG Sy)) c []=sO (jbb,[]):=by
  intro c D
  let u:J7 jD c []=sO (VZ yI,nO,[]):=by
   unfold J7 Qa Qb;rw[D];rfl
  let ec:=QlP (fin:=XN) (mi:=J7 jD) (cp:=zZc) (b:=VC [0,1]) (me:=jO6) (σ:=c) (h:=[]) (items:=VZ yI) (λB=>B.length=2) swp u rfl (λw hw B C=>by
   unfold VZ at hw;show wz q
   match B,C with
   |[a,b],_=>show#[[sO qW4,z8],rfl,rfl,by simp[swp]]) (by rw[f];show Qer (NF (qN x)))
  rw[ec]
  let:(VZ yI).map swp=out.zipIdx.map zjj:=by
   unfold VZ;rw[List.zipIdx_map];simp[swp,EA]
  show Py
 let e1:KN [jbb] []=sO (Pq,[qb TM]):=by
  unfold KN;simp only[lsW,Nv,QkE];show jA (by rw[ND,Lf];show NF (qN x));let:=Qpq out.zipIdx [] (by rw[Ob,List.zipIdx_map_fst];show A.nd);rw[show nm []=[]from rfl]at this;show Py
 let loop:=X4 (items:=VZ yI) (b:=VC [4,5]) (body:=Xr) (λn c h=>∃(o m l d:ê),c=tS p out o m l d/\h=PJ (Eg p out n))
  (VZ yI) 0 (tS p out nO nO nO nO) (tH p out []) #[nO,nO,nO,nO,rfl,rfl] (by
   rintro j w z c h ⟨o,m,l,d,rfl,rfl⟩
   rw[Ef]at *;let e:=ú z;rw[f]at e;unfold VZ at z;rw[NB,OX,NB,QaT e]at z;obtain rfl:W.tup [Λ j,Qu gR]=w:=ĝ z
   refine#[tS p out zH2 zH3 l d,rfl,?_];let E:=Vu e;let#[n2,en]:=A.nx2 _ E
   let inner:=X4 (items:=qa7) (b:=Zn 7) (body:=Xq) (λn c h=>∃(d:ê),c=dq d/\h=PJ (dz n))
    ((nx p gR).map Qu) 0 jFe jY8 #[d,rfl,Ê] (by
     rintro i w u c h ⟨H,rfl,rfl⟩
     rw[Ef,NB]at *;show Cq t I u;let r:=A.cl _ E t (yP i I);refine#[dq (sO lH),rfl,dq (sO lH),_,lB,_,rfl,rfl];let X:(dz (i+1))=(dz i)++[(j,vq)]:=qv0 I
     rw[X];let S:=QgF A (n:=j) (NF e);generalize U:(dz i)=L;let G:L.length<=600000:=by rw[<-U,NA,ND,N4];lia
     let O:zE8:=rZ G;let en:=Qlj (h:=PJ L) (n:=0) rfl r;let Y:=XZ r
     simp[en,Qab,O,stW,Y])
   let#[M,h2,y,H,rfl,rfl]:=inner;rw[ND,Ef,DB]at y;refine#[dq H,PJ (Eg p out (j+1)),lB,_,_,_,_,rfl,rfl];rw[QhF]
   let ei:Qv jN3 jFe jY8=sO (qa7,nO,PJ qkj):=by
    unfold Qv;simp[en];rfl
   let Z:∀h,Zc [QO p,Qu gR] h=sO (lnW p gR,h):=λh=>QbL (A.rc _ E).v
   simp[ZM,Z,ei,y,Ed])
 let#[N,h',y,o,m,l,d,rfl,rfl]:=loop;rw[f,Ef,show tH p out []=[MO.dct TM,MO.lst []]from rfl]at y;let u:∀o m l d h,J7 jD (tS p out o m l d) h=sO (VZ yI,nO,h):=rC;refine VU (j:=1) (g:=PJ qmc) Ç ?_ rfl Ç;let Q:=e0 [ė,zni,nO,nO,nO,nO,nO,nO] rfl;let P:=u nO nO nO nO;simp[Vy,Qs,ZM,A.s,Q,e1,P,y]
#print"-"
def X8(ns:Ŝ)(k:Nat)(q:k<1000):∃c:Nat,∀h:MH,Qy [qz,Λ k] h=jfg:=by
 let l:(zB5:Int)<k:=Ô
 let j:ĳ<18446744073709551616:=Ô
 let n:(zB5:Int)<k+7:=Ô
 let m:ĳ+7<18446744073709551616:=Ô
 by_cases b:k<ns.length
 ·let#[c,a]:=Qn6 (Ol ns[k] (Ú:(1000000000000000000:Int)≠0));refine#[c,λh=>jI];let f:atI (qQ W) ĳ=sO (.int ns[k]):=by rw[QP,NB,Nj b];rfl
  simp -implicitDefEqProofs [ZK,Qs,b,f,a]
 ·by_cases e:0<ns.length
  ·let o:zP7<ns.length:=Di _ e
   let f:atI (qQ W) (ĳ%(ns.length:Int))=sO (.int ns[zP7]):=by
    rw[<-Iw,QP,NB,Nj o];rfl
   show jF8 (11+3*ĳ*k+ns[zP7]%1000003*(k+7));let d:jx5:=Ô
   let p:jB7:=Ô
   simp -implicitDefEqProofs [ZK,Qs,d,e,b,f,a,l,j,n,m]
  ·show jF8 (11+3*ĳ*k);let d:jx5:=Ô
   let p:¬jB7:=Ô
   simp -implicitDefEqProofs [ZK,Qs,d,e,b,a,l,j]
abbrev nmL(c:Nat):Á:=if c%3=0 then["a","ab","abc","b","ba"]else if c%3=1 then["x","y","z","u","v"]else["ends","e","pairs","p","q"]
def Qam(c:Nat)(h:MH):ZF [Λ c] h=sO (QL (nmL c),h):=by
 refine jOe;let a:c%3=0\/c%3=1\/c%3=2:=Ô
 let e:(ē%3)=((c%3:Nat):Int):=Ô
 rcases a with z|z|z<;>rw[z]at e<;>simp[JM,Qs,e,nmL,z]<;>rfl
def Qg1(c:Nat):(nmL c).length=5:=by unfold nmL;split;rfl;split<;>rfl
def WL(c:Nat)(bs ws:Á)(o:MP)(C:Ų)(i:cR)(v:yO):jt1:=by
 let j:∀(b:Á) (d:Nat),0<b.length->∃x∈b,atI (b.map W.str) (ē/qRj%(b.length:Int))=sO Ě:=λb d a=>by
  let n:qW5<b.length:=Di _ a;show#[b[qW5],Eu n,qmd n]
 let#[x,a,t]:=j bs 12 o;let#[y,f,s]:=j bs 60 o;let#[z,q,r]:=j bs 300 o;let#[w,hw,u]:=j ws 1500 i;let A:Js [Λ c,QL bs,QL ws]=true:=zP8
 let E:jB8:=Ô
 let D:yf<ws.length:=Ô
 push_cast at t s r u;obtain⟨m,n,em⟩:∃m:Nat,m<12/\ē%12=vX:=#[c%12,HA,Ô]
 let key:∀l:Ln,Ξ l->atI [jle,jle,zm5 x w y,Ì [mL,Æ x,Æ y],Ì [zL9,Æ x,Æ y],Ì [mL,Æ x,Æ x],Ì [zL9,Æ y,Æ x],Ì [xc2,Æ x,Æ y],Ì [xc3,Æ x],oe x,oe y,Ì [mL,Æ y,Æ x]] (vX:Int)=sO kY->jt1:=λl B e=>by
  refine#[l,B,qdd A];let p:12<=sizeLine:=Ú
  simp[J8,Qs,QL,t,s,r,u,em,o,i,p];rw[e];rfl
 match m,n with
 |0,_=>show yj qya
 |1,_=>show yj qya
 |2,_=>show yj (.pair a hw f a)
 |3,_=>show yj (.first a f)
 |4,_=>show yj (.second a f)
 |5,_=>show yj (.first a a)
 |6,_=>show yj (.second f a)
 |7,_=>show yj (.same a f)
 |8,_=>show yj (.none a)
 |9,_=>show yj (Ae a)
 |10,_=>show yj (Ae f)
 |11,_=>show yj (.first f a)
noncomputable abbrev byS(ns:Ŝ)(st mn:Nat)(bs ws:Á)(x7 x8 x9:ê):MSt:=[sO qp,jB9,sO (.int (mn:Nat)),sO zX8,sO zX9,Ϛ,sO fk,x7,x8,x9]
noncomputable abbrev byH(L:ĩ)(O:Á)(g:MH):MH:=Î Ry::Î (k4 O)::g
structure ByI(bs ws:Á)(n:Nat)(L:ĩ)(O:Á):Prop where
 ok:∀l∈L,∀la,v7
 kr:qg4=sO (mQ O)
 op:∀x∈O,y8\/vE\/pf
 ln:qY6
 o2:O.length<=2
 dc:dcn L=0
noncomputable abbrev dsT:HY:=jSg
abbrev dsD:MO:=.dic jJg
def QiW{x y:Str}(h:(x,y)∈dsT)(σ:MSt)(g:MH)(e:σ[9]?=jfh):qme σ g=jBa:=by
 let b:Qb 9 σ zPa=sO (Æ x,bH):=by unfold Qb;rw[e]
 let a:QeR (wn g) Ě zPa=jBa:=by
  let:Qmc zPa (wn g)=sO jJg:=by simp[Qmc,dsD]
  unfold QeR;rw[this];simp at h
  rcases h with⟨rfl,rfl⟩|⟨rfl,rfl⟩|⟨rfl,rfl⟩<;>rfl
 unfold Qc UC;apply(sO (W.ref g.length,bH)).bind _=_;rw[Nv];simp only[b,Nv,a]
def Qan{O:Á}{h:MH}(e:h[n]?=jx6):wNe Η vG h=sO (ö (!O.isEmpty),h):=by
 let c:MY Η=jx6:=by
  unfold drf;apply(match h[n]? with|some (MO.lst a)=>Option.map W.lst (ZY qW7 a)|_=>nO)=_;rw[e];apply(ZY qW7 _).map _=_;rw[Vf h _ 39 Ç (by show VQ (jt2 x))];rfl
 let b:MY vG=sO vG:=rfl;unfold wNe;rw[c,b];show A8 O
section
variable{ns:Ŝ}{bs ws:Á}{st mn:Nat}{L:ĩ}{O:Á}
def ByI.blk{x:Str}{a:Á}(I:zq5)(b:y8\/znh)(e:kst kM (mQ O)=sO (mQ a))(f:∀x∈a,y8\/vE\/pf)(h2:a.length<=2):u0 (n+1) (L++[[x]]) a:=by
 refine#[Ï l d c,?_,f,zM1 I,h2,?_]
 ·show jBb I
  ·rw[ĸ z];show .blk b
 ·rw[GZ];show Qah I.kr e
 ·let hd:YU ([x]:Ln)=false:=by rcases b with rfl|rfl|rfl|rfl<;>decide
  rw[Qak,hd,I.dc];rfl
def ByI.pl{l:Ln}(I:zq5)(a:Ξ l):u0 (n+1) (L++[l]) O:=by
 refine#[Ï m c b,?_,I.op,zM1 I,I.o2,?_]
 ·show ů c z
  ·show I.ok m z b
  ·rw[ĸ z];show q5 a
 ·rw[GZ,Km a];show Qah I.kr rfl
 ·rw[Qak,Kp a,I.dc];rfl
def Qhn(hb:MP)(E:Ų)(hw:cR)(B:yO)(hs:st<500){k:Nat}(hk:k<400)(I:u0 k L O){x8 x9:ê}{g:MH} :
  ∃S d X U g',u0 (k+1) S d/\Zr zn3 qP=sO (Ĕ (SU X U) (byH S d g')):=by
 let#[c,P]:=qQ7 (st+k);push_cast at P;let p:zE8:=Np (Nd I.ln (NF (Ea hk (Ú:400<1000)))) à;let C:O.length<sizeLine:=Np I.o2 à;let Z:QA 8 xh6 zn3 qP=sO (Ĕ zje qP):=yh P
 let cut:∀{M:SM} {r:yc},jo2 M=r->Qn jGi M zn3 qP=r:=λe=>by
  unfold Qn;show ī Z e
 by_cases Q:ē%7=0/\O.length<2
 ·obtain⟨m,hm,em⟩:jo3:=#[c/7%2,HA,Ô]
  obtain⟨x,t,ex⟩:∃x:Str,(vE\/y8)/\atI [W.str "again",W.str "either"] qz3=sO qyb:=by
   match m,hm with
   |0,_=>show jBc
   |1,_=>show jBd
  refine#[L++[[x]],O++[x],Br c,x9,g,I.blk jua ?_ ?_ jR,cut ?_]
  ·rw[Vc]
   show tX t
   ·apply kst zL8 _=_;rw[J3];rfl
   ·rfl
  ·show UI I.op jua
  ·let v:atI (O.map W.str++[Æ x]) (-1)=sO Ě:=Mi.GA _ _;let j:qF6:=Ô
   simp[Q.1,j,em,ex,C,p,tyW,v,Qj]
 ·let Y:Vo jG0 jG1 zje qP=sO (false,zV6):=by
   by_cases z:ē%7=0
   ·let j:¬qF6:=λq=>Q #[z,Ô];simp[z,j]
   ·simp[z]
  let o:∀{a b:SM} {r:yc},jo2 b=r->ZE jCe a b zje qP=r:=λe=>by
   unfold ZE;show ī Y e
  by_cases w:ē%7=1/\O≠[]
  ·let#[O1,x,rfl]:=Qmu O w.2;let t:=ql0;show jN4 f A j
   obtain⟨y,d,A,D,G,H,ed,eo⟩:∃(y:Str) (d:Á),(y="or"\/y="end")/\kst zZg ((O1++[x]).reverse.map cd)=sO (mQ d)/\(∀z∈d,z="either"\/z="again"\/z="or")/\d.length<=2/\(∀N h,N[9]?=jfh->qme N h=sO (Æ y,h++[dsD]))/\d=(if y8 then O1++zw9 else O1):=by
    rw[Vc]
    rcases t with rfl|rfl|rfl
    ·refine#["or",O1++zw9,jv,?_,UI f Ç,m6,QiW Ç , Ê];rw[Vc];show jO7
    ·show jG4 (zRh::_);rw[Ke,J3];rfl
    ·show jG4 ql1;rw[Ke,UF];rfl
   refine#[L++[[y]],d,Br c,sO Ě,bH,I.blk (by show nZ A) D G H,cut (o ?_)];let u:qzd:=jx7;let i:=ed (SU Be (sO Ě)) (byH L O1 g) rfl
   let ne:jk2:=by
    rw[qof];simp
   rw[eo];generalize Qc QeR qF5 cJ=md at i ⊢
   by_cases s:y8
   ·subst s;simp[w.1,ne,i,p,u,tyW,Qj]
   ·simp[w.1,ne,i,p,tyW,Qj,s]
  ·let#[l,hl,v]:=WL (c/7) bs ws hb E hw B;push_cast at v;refine#[L++[l],O,Br c,x9,g,I.pl hl,cut (o ?_)];let ne:=Qan (n:=1) (O:=O) (h:=zV6) rfl
   by_cases z:ē%7=1
   ·let hO:O=[]:=E8 λq=>w (ĺ z q);subst hO;simp[z,ne,v,p,tyW]
   ·simp[z,v,p,tyW]
#print"-"
section
variable{ns:Ŝ}{bs ws:Á}{st mn:Nat}
def Qff(O:Á):∀(L:ĩ) (n:Nat) (g:MH) (x7 x8 x9:ê) (f:Nat),zq5->n+zS0<=900->zS0<f->∃d,ByI bs ws (n+zS0) d []/\QV dZ JQ f qbj qP=sO (Ĕ qbj (byH d [] g)):=by
 induction h:O.length generalizing O with
 |zero=>
  intro L n g x7 x8 x9 f I _ t;let u:O=[]:=lx;subst u;show ztd
  let ne:=Qan (n:=1) (O:=[]) (h:=byH L [] g) rfl;show#[L,I,K4 (by simp at ne;simp[ne])]
 | succ m l=>
  intro L n g x7 x8 x9 f I w t;show ztd
  let#[O1,x,rfl]:=Qmu O (λe=>by show ä e h);rw[NA,N1]at h;let s:=ql0;show jN4 c r q
  let ne:jk2:=by
   rw[qof];simp
  let o:L.length+1<sizeLine:=Np (by let:=I.ln;omega:L.length+1<=901) à;let i:zE8:=Nat.lt_of_succ_lt o;let p:qzd:=jx7
  by_cases b:y8
  ·subst b;let I1:u0 (n+1) (L++[jO5]) (O1++zw9):=I.blk Ç (by rw[Vc,Vc];show jO7) (UI c Ç) jR;let I2:u0 (n+2) zrj O1:=I1.blk Ç (by rw[Vc];show jPa) c É;let#[d,a,e]:=l O1 É zrj (n+2) g x7 x8 x9 f I2 É É;refine#[d,by rw[show n+2*(m+1)=n+2+2*m by omega];show a,?_];rw[Xy (σ2:=qg5) (h2:=byH zrj O1 g) qI6 (by simp[o,i,tyW,Qj])];show e
  ·let I2:u0 (n+1) zYe O1:=I.blk Ç (by
    rw[Vc]
    rcases s with z|z|z
    ·show û z b
    ·subst z;apply kst rF (zRh::_)=_;rw[Ke,J3];rfl
    ·subst z;show jPa) c É
   let#[d,a,e]:=l O1 É zYe (n+1) g x7 x8 x9 f I2 É É;refine#[d,#[a.ok,a.kr,a.op,by let:=a.ln;omega,a.o2,a.dc],?_];rw[Xy (σ2:=qg5) (h2:=byH zYe O1 g) qI6 (by simp[i,tyW,Qj,b])];show e
#print"-"
structure LsOk(bs ws:Á)(n:Nat)(L:ĩ):Prop where
 ok:∀l∈L,∀la,v7
 bal:qg4=sO []
 ln:qY6
 dc:dcn L=0
section
variable{ns:Ŝ}{bs ws:Á}{st mn:Nat}
def QdG(y:MP)(p:Ų)(hw:cR)(m:yO)(x:st<500)(G:mn<=300):∃L,Mu (mn+4) L/\∀h:MH,Zj [qz,.int zP9,.int (mn:Nat),QL bs,QL ws] h=oh:=by
 let#[u,H,v,e,c,a,L,O,g,rfl,rfl,I]:=X4 (items:=ZJ 0 mn) (b:=Zn 7) (body:=Zr) (λk r h=>∃e c a L O g,r=byS ns st mn bs ws e c a/\h=zV6/\u0 k L O) (ZJ 0 mn) 0 zwj zI6 #[_,_,_,_,_,_,rfl,rfl,Ê,rfl,Ê,Ê,Ê,rfl] (by
  rintro k w f r h ⟨e,c,a,L,O,g,rfl,rfl,I⟩
  let n:=ú f;rw[VJ]at n;rw[Ef]at I ⊢;obtain rfl:w=.int ĳ:=xc5 f
  let#[i,A,C,B,z,d,t]:=Qhn (ns:=ns) (mn:=mn) y p hw m x (k:=k) É I (x8:=c) (x9:=a) (g:=g)
  show#[_,rfl,_,_,Ø t,_,_,_,i,A,z,rfl,rfl,d])
 rw[VJ,Ef]at I;let E:=I.o2;let#[i,d,s]:=Qff (ns:=ns) (st:=st) (mn:=mn) O L mn g e c a 1000000 I É É;refine#[i,#[d.ok,d.kr,Nd d.ln É,d.dc],æ h];refine VU (j:=0) (g:=byH i [] g) (by simp -implicitDefEqProofs [QL]) ?_ rfl Ç;let ei:QaM zl9 zwj zI6=sO (ZJ 0 mn,nO,byH [] [] []):=UE Ç É
 let q:ZM zxg zed Zr zwj zI6=sO (Ĕ (byS ns st mn bs ws e c a) qP):=by
  show(CP,v)
 generalize o:ZM zxg zed Zr=M at q;generalize l:QV dZ JQ 1000000=D at s;unfold J1;rw[o,l];simp -implicitDefEqProofs only[byS,byH,ET]at q;simp -implicitDefEqProofs [Qs,q];rw[s];rfl
#print"-"
def LsOk.app(a:db)(b:Mu m B):Mu (n+m) (A++B):=by
 refine#[Ï l d c,?_,by rw[NA];show Nat.add_le_add a.ln b.ln,?_]
 ·show jBb a
  ·show b.ok l z c
 ·rw[Ec,Xo,a.bal];show b.bal
 ·unfold dcn;rw[Dk];let:=a.dc;let:=b.dc;unfold dcn at *;omega
def LsOk.one(h:Ξ l):LsOk bs ws 1 [l]:=by
 refine#[Ï m a b,?_,Nu _,?_]
 ·rw[ĸ a];show q5 h
 ·apply Xb [cdL l] []=_;rw[Km h];rfl
 ·apply dcn [l]=0;unfold dcn;rw[F9 (by rw[Kp h];simp)];rfl
def LsOk.loop(a:db):Mu (n+2) (Hi::A++[wc]):=by
 refine#[Ï l i f,?_,zM1 a,?_]
 ·show ů i z
  ·show ϲ z
   ·show qoe
   ·show a.ok l z f
  ·rw[ĸ z];show qoe
 ·let key:∀(b:Ģ) (s t:Ģ),Xb b s=sO t->∀r,Xb b (s++r)=sO (t++r):=by
   intro b
   induction b with
   |nil=>intro s t h r;cases h;rfl
   | cons c b g=>
    intro s t h r;let#[u,hu,h]:=Ĺ h;apply(kst c (s++r)).bind (Xb b)=_
    let:kst c (s++r)=sO (u++r):=by
     cases c with
     |ei=>cases hu;rfl
     |ag=>cases hu;rfl
     |ot=>cases hu;rfl
     | oo=>
      cases s with
      |nil=>cases hu
      |cons e s=>
       show qyc
       show qs4
       ·cases hu
     | en=>
      cases s with
      |nil=>cases hu
      |cons e s=>
       show qyc
       ·cases hu
       show qs4
    rw[this];show g u t h r
  rw[Ec,Xo]
  let d:Xb ((Hi::A).map cdL) []=sO [.ag]:=by
   apply(kst zL8 []).bind (Xb (A.map cdL))=_;rw[J3];show key _ _ _ a.bal [.ag]
  rw[d];apply(kst rF [.ag]).bind (Xb [])=_;rw[Ke];rfl
 ·let d:YU Hi=false:=Ú
  let j:YU wc=false:=Ú
  let:=a.dc;unfold dcn at *;rw[Dk,F9 (vt d),this,F9 (vt j)];rfl
def LsOk.nil:LsOk bs ws 0 []:=#[Ê,rfl,Nu _,rfl]
def LsOk.le(a:db)(h:n<=m):Mu m A:=#[a.ok,a.bal,Nd a.ln h,a.dc]
def QG{a b:SM}{σ σ1:MSt}{h h1:MH}{f:yc}(e:a σ h=ſ σ1 h1)(c:b σ1 h1=f):zOg=f:=by
 unfold Qn;show ī e c
def QoH{a b:SM}{σ:MSt}{h h1:MH}{v:W}(e:a σ h=vP h1):zOg=vP h1:=by
 unfold Qn;rw[e];rfl
def UX{m:SM}{σ:MSt}{h h1:MH}{v:W}(e:m σ h=vP h1):Qd1 ye=ā v h1:=kz e
def Qw{m:ME}{σ:MSt}{h h1:MH}{v:W}{i:Nat}(e:zn):qZj=sO (Ĕ jPd h1):=by
 unfold QA;rw[e];rfl
def G8{t:MT}{a b:SM}{σ:MSt}{h h1:MH}{r:yc}(e:qf8)(c:a σ h1=r):tU=r:=by
 unfold ZE;show ī e c
def Vi{t:MT}{a b:SM}{σ:MSt}{h h1:MH}{r:yc}(e:t σ h=sO (false,h1))(c:b σ h1=r):tU=r:=by
 unfold ZE;show ī e c
abbrev mrL(b:Bool)(l:Ln):ĩ:=if b then[l]else[]
def QkO{l:Ln}{b:Bool}{h:MH}:Vq zmf (Ź (ng b)) h=sO (Î ((mrL b l).map Qj),h):=by
 cases b<;>simp[Vq,mrL]
def QeL(b:Bool)(h:Ξ l):LsOk bs ws 1 (mrL b l):=by
 cases b
 ·show LsOk.nil.le ě
 ·show LsOk.one h
def Xz{xs:Á}(c d:Nat)(b:xc6):∃x∈xs,atI (xs.map W.str) jx8=sO Ě:=by
 let a:qQ8<xs.length:=Di _ b;show#[xs[qQ8],Eu a,qmd a]
def UM{A B:À W}{h:MH}(a:A.length+B.length<=1000):Q7 (Þ A) (Þ B) h=sO (Î (A++B),h):=by
 rw[QdM,if_pos (BE a)]
section
variable{ns:Ŝ}{bs ws:Á}{st:Nat}
noncomputable abbrev chS(ns:Ŝ)(st:Nat)(bs ws:Á)(c:Nat)(a b w f:W)(x9 x10 e d:ê):MSt:=[sO qp,jB9,sO zX8,sO zX9,Br c,sO a,sO b,sO w,sO f,x9,x10,e,d]
def Qfn(G:MP)(Z:Ų)(hw:cR)(S:yO)(hs:st<500):∃L,LsOk bs ws 12 L/\∀h:MH,Z5 [qz,.int zP9,QL bs,QL ws] h=oh:=by
 let#[c,ec]:=X8 ns st É;let#[c',I]:=qQ7 (st+1);let#[l,O,el]:=WL c' bs ws G Z hw S;let#[a,n,ea]:=Xz (xs:=bs) c 1 G;let#[b,E,eb]:=Xz (xs:=bs) c 5 G;let#[w,z,ew]:=Xz (xs:=ws) c 25 hw
 obtain⟨f,X,ae⟩:∃f:Ln,Ξ f/\atI [Ì [zyi,Æ a,Æ w,Æ a,Æ b],zm5 a w b] (ē/125%2)=sO (Qj f):=by
  obtain⟨m,Y,em⟩:∃m:Nat,m<2/\ē/125%2=vX:=#[c/125%2,HA,Ô]
  rw[em]
  match m,Y with
  |0,_=>show#[_,.pair n z n E,rfl]
  |1,_=>show#[_,.pair n z E n,rfl]
 obtain⟨e,U,ab⟩:∃e:Ln,Ξ e/\atI [Ì [mL,Æ a,Æ a],Ì [zL9,Æ a,Æ a]] (ē/250%2)=sO zZe:=by
  obtain⟨m,Y,em⟩:∃m:Nat,m<2/\ē/250%2=vX:=#[c/250%2,HA,Ô]
  rw[em]
  match m,Y with
  |0,_=>show#[_,.first n n,rfl]
  |1,_=>show#[_,.second n n,rfl]
 push_cast at ea eb ew I;rw[Int.ediv_one]at ea;generalize aa:ē/500%5=d
 let A0:=((LsOk.one X).app (QeL (d==0) O)).loop;let A1:=A0.app (QeL (d==1) O);let A2:=A1.app ((LsOk.one U).app (QeL (d==2) O)).loop;let A3:=A2.app (QeL (d==3) O);let A4:=A3.app (LsOk.one (l:=qy1) (Ae n));refine#[_,A4.le à,qdd qhb];obtain⟨M,H,mM⟩:∃M:Int->À W,(∀i,M i=qhc)/\∀i h,Vq zmf (Ź (ng qXb)) h=sO (Î (M i),h):=#[λi=>qhc,ς,λi h=>QkO]
 let N:∀i,(M i).length<=1:=λi=>by rw[H];cases d==i<;>simp[mrL]
 let ag:Qj Hi=Ì zs9:=rfl;let en:Qj wc=Ì jKj:=rfl;let te:Qj qkh=oe a:=rfl;let z0:=N 0;let z1:=N 1;let z2:=N 2;let z3:=N 3;let P:jGj:=Ŕ;let j:=mM;simp at j
 let x:∀(t:ê) (h:MH),(Qc Q7 (ŋ qB4 dy) jG9) (zj2 t) h=sO (Î (jda++M 1),h):=λt h=>by
  let p:=UM (A:=jBe) (B:=M 0) (h:=h) jR;let o:=UM (A:=jBe++M 0) (B:=xn) (h:=h) jR;let y:=UM (A:=jI6++xn) (B:=M 1) (h:=h) jR;show qa8
 generalize D:jda++M 1=q at x;let z4:q.length<=6:=qW8 D
 let u:∀(h:MH),(Qc Q7 (ŋ jQg jGa) dy) (zj2 (sO (Þ q))) h=sO (Î (zt3++xn),h):=λh=>by
  let p:=UM (A:=q) (B:=jBf) (h:=h) jR;let o:=UM (A:=q++jBf) (B:=M 2) (h:=h) jR;let y:=UM (A:=zt3) (B:=xn) (h:=h) jR;show qa8
 generalize C:zt3++xn=r at u;let z5:r.length<=10:=qW8 C
 let Q:∀(h:MH),Zg jx1 (zj2 (sO (Þ r))) h=sO (.rt (Þ (r++M 3++zii)) h):=λh=>by
  let p:=UM (A:=r) (B:=M 3) (h:=h) É;let o:=UM (A:=r++M 3) (B:=zii) (h:=h) jR;simp at p o;simp[-ite_eq_left_iff,P,j,p,o]
 let fin:r++M 3++zii=(((Hi::([f]++mrL (d==0) l)++[wc])++mrL (d==1) l++((Hi::([e]++mrL (d==2) l))++[wc])++mrL (d==3) l++[qkh]).map Qj):=by
  rw[<-C,<-D,H,H,H,H];simp[ag,en,te]
 rw[<-fin];let af:jB8:=Ô
 refine UX (QG (Qw (ec [])) (QG (Qw (v:=Æ a) (h1:=[]) (by simp[QL,ea,G])) (QG (Qw (v:=Æ b) (h1:=[]) (by simp[QL,eb,G])) (QG (Qw (v:=Æ w) (h1:=[]) (by simp[QL,ew,hw])) (QG (Qw (v:=Î mW) (h1:=[]) (by simp[I,el])) (QG (Qw (v:=Qj f) (h1:=[]) (by simp[ae])) (QG (Qw (v:=Qj e) (h1:=[]) (by simp[ab])) (QG (Qw (v:=Ä d) (h1:=[]) (by simp[aa])) (QG (Qw (x _ _)) (QG (Qw (u _)) (Q _)))))))))))
#print"-"
def GP(xs:À a)(k:Nat):Yj xs nO Sx=xs.take k:=by
 unfold Yj;rw[HT.sIx_nat,HT.sIx_none,Nat.sub_zero,List.drop_zero]
 by_cases h:qVe
 ·rw[Dg h]
 ·rw[LM RX,DD ÿ,DD RX]
def U6:∀(A B:Ģ) (s:Ģ),Xb qQ9 s=qF4:=by
 intro A
 induction A with
 |nil=>
  intro B s;show rfl
 |cons c A a=>
  intro B s;apply zad (Xb qQ9)=zad (Xb (A++B));congr 1;funext t;show a B t
def QeW(B:Ģ):∀(n:Nat) (A:Ģ) (s:Ģ),Xb (A++xc7 n++B) s=qF4:=by
 intro n
 induction n with
 |zero=>
  intro A s;simp
 |succ n a=>
  intro A s;rw[EI,Eh,LY,U6,<-Eh];show a A s
noncomputable abbrev doN:Ln:=["do","n"]
noncomputable abbrev doO:Ln:=["do","o"]
def QlJ:cdL doN=.ot:=Ú
def QkH:cdL doO=.ot:=Ú
def K0(A B:ĩ):dcn (A++B)=dcn A+dcn B:=by unfold dcn;rw[Dk]
def Qhs(n:Nat):dcn (List.replicate n doN)<=n:=by
 unfold dcn;show Nd List.countP_le_length Ç
def QnC(a:LsOk bs ws 18 L):GoodP 100 bs ws [("m",L)] where
 ne:=Ê
 len:=Ê
 bal:=λx b=>by rw[ĸ b];show bal_iff.mpr a.bal
 sz:=λx b=>by rw[ĸ b];show Tp a
 ok:=λi x b l c=>by
  let:=E3 b;rw[Nq.mp this]at c;show a.ok l c _
 nd:=Ê
 dos:=λi x b=>by
  let:=E3 b;rw[Nq.mp this];apply dcn L<=_;rw[a.dc];show NN _
 sm:=λi x b=>by
  match i,b with
  |0,b=>cases b;show a.ln
  |i+1,b=>simp at b
def Qo4{k r:Nat}{o:Bool}(a:qI7)(b:LsOk bs ws 6 I)(c:LsOk bs ws 2 T)(n:r<=3):GoodP 100 bs ws jj4:=by
 let m:Xb ((AW++AZ).map cdL) []=sO []:=by
  let h:(AW++AZ).map cdL=(L.take k).map cdL++.ot::((L.drop k).map cdL++xc7 r):=by
   simp[QlJ]
  let f:=QeW [] r qod [];rw[Eb,Eb,a.bal]at f;rw[h,U6,<-Eh,<-Ec,Ej];show f
 let j:Xb ((I++dR).map cdL) []=sO []:=by
  cases o
  ·simp;show b.bal
  ·rw[Ĳ,Ec,Xo,b.bal];apply Xb [cdL doO] []=_;rw[QkH];rfl
 let g:dcn (L.take k)=0/\dcn (L.drop k)=0:=by
  let:=a.dc;rw[<-Ej k L,K0]at this;omega
 refine#[Ê,Ê,?_,?_,?_,(Ú:([("m":Str),"n","o"]:Á).Nodup),?_,?_]
 ·intro x d;show jSh
  ·show bal_iff.mpr m
  ·show bal_iff.mpr j
  ·show bal_iff.mpr c.bal
 ·intro x d;show(qv1,jSh)
  ·simp;omega
  ·show zLa
  ·apply T.length<=100;omega
 ·intro i x d l e
  match i,d with
  |0,d=>
   cases d;simp only[NG,Nq]at e
   rcases e with((e|rfl)|e)|e
   ·show a.ok l (Dt e) _
   ·show zEg
   ·show a.ok l (FI e) _
   ·rw[List.eq_of_mem_replicate e];show zEg
  | 1,d=>
   cases d
   show Hv e
   ·show b.ok l e _
   ·cases o
    ·simp at e
    ·rw[ĸ e];show zEg
  |2,d=>cases d;show c.ok l e _
  |i+3,d=>simp at d
 ·intro i x d
  match i,d with
  |0,d=>
   cases d;apply dcn _<=4;let:=Qhs r;rw[K0,K0,K0,g.1,g.2];let:dcn [doN]<=1:=Ú
   omega
  |1,d=>
   cases d;apply dcn _<=1;rw[K0,b.dc];cases o
   ·decide
   ·decide
  |2,d=>cases d;apply dcn T<=_;rw[c.dc];show NN _
  |i+3,d=>simp at d
 ·intro i x d;show qv1
  match i,d with
  |0,d=>cases d;apply qQa<=18;simp;omega
  |1,d=>cases d;apply qQa<=8;show zLa
  |2,d=>cases d;apply T.length<=2;show c.ln
  |i+3,d=>simp at d
def Qav{bs ws e:Á}{l:Ln}(h:∀x∈ws,x∈e)(p:Ξ l):PlainL bs e l:=by
 cases p with
 |pair a b c d=>show .pair a (h _ b) c d
 |first a b=>show .first a b
 |second a b=>show .second a b
 |same a b=>show .same a b
 |none a=>show .none a
 |tell a=>show .tell a
def Qbz{bs ws b:Á}(h:∀x∈ws,x∈b)(a:db):LsOk bs b n A:=#[λl d c=>by
 cases a.ok l d c with
 |plain p=>show q5 (Qav h p)
 |«do» z=>show .do z
 |blk z=>show .blk z
 |back z=>show .back (h _ z),a.bal,a.ln,a.dc]
section
variable{ns:Ŝ}
noncomputable abbrev prS(ns:Ŝ)(c b a x5 x6 x7 x8:ê):MSt:=[sO qp,sO (.int 6),c,b,a,x5,x6,x7,x8]
def WV(xs:Á)(k:Nat)(i:Int)(hi:i=k)(h:MH):wSl (QL xs) nO (sO i) h=sO (QL (xs.take k),h):=by
 subst hi;unfold QL;rw[Qn8,GP,Lr]
def QlF(c:Nat):zx4∉nmL c:=by unfold nmL;split;decide;split<;>decide
def Qay:∃(bs ws:Á) (p:Ó),(MP/\jBg)/\yO/\Ă/\(∃x,vw/\ï<=17)/\∀h:MH,Jr [qz,.int 6] h=sO (QO p,h):=by
 let#[c,j]:=X8 ns 0 à
 obtain⟨C,ap,ai⟩:∃C:Nat,(C=2\/C=3)/\(2:Int)+(ng (ē/3%4==1))=C:=by
  by_cases z:ē/3%4=1
  show jd #[3,yU,yh z] #[2,jv,yh z]
 obtain⟨v,ao,ah⟩:∃v:Nat,(1<=v/\v<=3)/\ud+ē/18%3=v:=#[1+c/18%3,Ô,Ô]
 generalize E:(nmL c).take C=bs;generalize O:(nmL (c/6)).take v=ws;let lb:bs.length=C:=qM3 E
 let lw:ws.length=v:=qM3 O
 let u:MP:=Ô
 let G:Ų:=Ô
 let hw:cR:=Ô
 let i:yO:=Ô
 let N:jBg:=#[Ô,λq=>QlF c (by rw[<-E]at q;show Dt q)]
 let wi:jGj:=Ŕ;let n1:=λh=>Qam c h;let n2:=λh=>Qam (c/6) h;push_cast at n2
 let s3:(mSl jW1 Vn jXj) (prS ns Be nO nO nO nO nO nO) []=sO (QL bs,[]):=by
  let t:=WV (nmL c) C _ ai [];rw[E]at t;simp at t;simp[n1,wi,t]
 let s4:(mSl jW2 Vn jY0) (prS ns Be uU nO nO nO nO nO) []=sO (QL ws,[]):=by
  let t:=WV (nmL (c/6)) v _ ah [];rw[O]at t;simp[n2,t]
 obtain⟨L0,d,s5⟩:∃L0,LsOk bs ws 12 L0/\(ZE (Qm jk1) jEj jF0) (prS ns Be uU C0 nO nO nO nO) []=sO (.nx zla []):=by
  by_cases z:ē/54%3=0
  ·let#[L,f,e]:=Qfn (ns:=ns) (st:=4) u G hw i à;show pr L f;let e':∀h:MH,Z5 [qz,.int 4,QL bs,QL ws] h=oh:=e;simp[z,e']
  ·obtain⟨D,aq,ak⟩:∃D:Nat,D<=6/\(2:Int)+ē/162%5=D:=#[2+c/162%5,Ô,Ô]
   let#[L,f,e]:=QdG (ns:=ns) (st:=4) (mn:=D) u G hw i à É;refine#[L,f.le É,?_];let e':∀h:MH,Zj [qz,.int 4,Λ D,QL bs,QL ws] h=oh:=e;simp[z,ak,e']
 obtain⟨b1,S⟩:∃b1:Bool,Vo jG2 jG3 zla []=z7 b1:=by
  let j:=QdX (fin:=XN) (mi:=Qv Ś) (cp:=[nO]) (mt:=Qm (uJ uL)) (me:=Qb 0) (σ:=prS ns Be uU C0 jt3 nO nO nO) (caps:=[]) (h:=[]) (items:=L0.map Qj) id jh3 rfl Ħ (λw hw=>by
   let#[l,hl,rfl]:=zX2;let#[x,r,rfl]:=XA (d.ok l hl [])
   simp[Qj]) (λw _ _=>Ê) (by rw[ND];show Tp d)
  generalize hF:((L0.map Qj).filter jh3).map id=F at j
  let Q:Ye F=true/\Yg F<=39:=by
   let hm:∀w∈F,∃l:Ln,w=Qj l:=λw hw=>by
    rw[<-hF,List.map_id]at hw;let#[l,_,e]:=NJ.mp (Ff.mp hw).1;show#[l,e.symm]
   show#[Xx λw hw=>by show qQb;simp,VQ λw hw=>by show(qQb,Nd QnY à)]
  let eq:∀h,wEq zhg vG h=sO (ö (eqW zhg vG),h):=λh=>Qbm (by simpa[pln]using Q.1) rfl (by simp only[dep];show YaJ Q.2) à;simp only[XN]at j;generalize Zz XN zCh [nO] ΢ _ î=co at j ⊢;cases Z:eqW zhg vG with
  |false=>rw[Z]at eq;show#[false,by simp[j,eq]]
  |true=>
   rw[Z]at eq
   by_cases Y:yf<ē/7%10
   show jd #[true,qI8] #[false,qI8]
 obtain⟨a,h0,e0⟩:∃x∈bs,atI qF7 0=sO Ě:=#[bs[0],Eu _,by rw[jr5,QP,NB,Nj u];rfl]
 obtain⟨s,h1,e1⟩:∃x∈bs,atI qF7 1=sO Ě:=#[bs[1]' É,Eu _,by rw[show ud=((1:Nat):Int)from rfl,QP,NB,Nj É];rfl]
 obtain⟨w0,ae,f0⟩:∃x∈ws,atI (ws.map W.str) 0=sO Ě:=#[ws[0],Eu _,by rw[jr5,QP,NB,Nj hw];rfl]
 obtain⟨L,f,s6⟩:∃L,qI7/\(ZE jCf jF1 QN) zla []=sO (.nx js2 []):=by
  cases b1 with
  |true=>
   refine#[(qBb:Ln)::L0,(LsOk.one (l:=qBb) (.pair h0 ae h1 h0)).app d|>.le à,G8 S ?_];let X:=UM (A:=[zm5 a w0 s]) (B:=L0.map Qj) (h:=[]) (by let:=d.ln;simp;omega);simp at X;simp[QL,e0,e1,f0,X,Qj]
  |false=>show#[L0,d.le à,Vi S rfl]
 obtain⟨k,ek⟩:∃k:Nat,ē/5000%(qJ7+1)=k:=#[c/5000%(uf L),zG4]
 let s7:(Qc ZD (vJ qk5) (jJ jJc)) js2 []=sO (Λ k,[]):=by
  let:yf<qJ7+1:=Ô
  simp[this,ek]
 by_cases z:ē/54%4=1
 ·obtain⟨H,ar,al⟩:∃H:Nat,H<=2/\ē/50000%3=H:=#[c/50000%3,Ô,Ô]
  let#[I,hI,eI]:=QdG (ns:=ns) (st:=10) (mn:=H) u G hw i à É;let am:∀h:MH,Zj [qz,.int 10,Λ H,QL bs,QL ws] h=sO (Î qW6,h):=eI;let#[y,hy,ey]:=Xz (xs:=bs) c 11 u;obtain⟨mt,af,aj⟩:∃mt:Nat,mt<=2/\ē/2800%3=mt:=#[c/2800%3,Ô,Ô]
  obtain⟨r,hr,er⟩:∃r:Nat,r<=3/\atI [zZj,zZj,zZj,W.int 3] (ē/700%4)=sO (W.int (r:Nat)):=by
   obtain⟨m,hm,em⟩:∃m:Nat,m<4/\ē/700%4=vX:=#[c/700%4,HA,Ô]
   rw[em]
   match m,hm with
   |0,_=>show zm8
   |1,_=>show zm8
   |2,_=>show zm8
   |3,_=>show#[3,Ú,rfl]
  push_cast at ey;let P:∀x∈ws,x∈ws++zz5:=λx hx=>NT _ hx;generalize hT:(ztb:ĩ).take mt=T
  let U:LsOk bs xlc 2 T:=by
   let p1:qM4 [(qs5:Ln)]:=LsOk.one (.pair h0 Ç h1 h0);let p2:qM4 [(["tell",y]:Ln)]:=LsOk.one (.tell hy);rw[<-hT]
   match mt,af with
   |0,_=>show LsOk.nil.le à
   |1,_=>show p1.le à
   |2,_=>show p1.app p2
  let s8:(Qg 5 Zj ji5) (prS ns Be uU C0 oC oR nO nO) []=sO (Î qW6,[]):=by simp[al,am]
  let s9:(mFn Zs jai) (prS ns Be uU C0 oC oR (AQ I) nO) []=sO (Î js3,[]):=by
   simp[QL,e0,e1,ey,u,Qj]
  let M:(mSl ya Vn jY1) (jjd (sO (Þ js3))) []=sO (Î (T.map Qj),[]):=by
   rw[<-hT,Lr,<-GP,<-aj];simp
  generalize(ztb:ĩ)=T0 at s9 M
  obtain⟨o,ab⟩:∃o:Bool,(ZE jv9 jDb QN) (jjd (AQ T)) []=sO (.nx jgg []):=by
   by_cases q:ē/8400%2=0
   ·refine#[true,?_];let X:=UM (A:=I.map Qj) (B:=[Ì [.str "do",.str "o"]]) (h:=[]) (by let:=hI.ln;simp;omega);simp at X;simp[q,X,Qj]
   show Š #[false,yh q]
  let aa:(Qc Q7 (ŋ qB6 jTd) jGb) jgg []=sO (Î ((AW++AZ).map Qj),[]):=by
   let hl:=f.ln;let c1:Yj Ry nO Sx=rn:=qW9
   let c2:Yj Ry Sx nO=Ty:=qmf
   let l1:(L.take k).length<=13:=Nd (by rw[N4];show Dj _ _) hl;let l2:(L.drop k).length<=13:=Nd (by rw[DY];show EC _ _) hl
   let mu:∀h:MH,Vq (Þ [Ì wa]) (zga r) h=sO (Î (List.replicate r xjf),h):=λh=>by
    let hf:∀n:Nat,(List.replicate n [W.tup wa]).flatten=List.replicate n (W.tup wa):=λn=>by
     induction n with
     |zero=>rfl
     |succ n ih=>rw[EI,Df,ih];rfl
    unfold Vq;simp only;rw[if_pos #[Ô,Ô,Ê],E7,hf]
   let q1:=UM (A:=rn) (B:=[Ì wa]) (h:=[]) (by simp only[ND,N1];omega);let q2:=UM (A:=zsd) (B:=Ty) (h:=[]) (by simp only[NA,ND,N1];omega);let q3:=UM (A:=zsd++Ty) (B:=jL9) (h:=[]) (by simp only[NA,ND,N1,OD];omega);let eN:Qj doN=Ì wa:=rfl
   let eG:(AW++AZ).map Qj=zsd++Ty++jL9:=by
    rw[Ec,Ec,Ec,List.map_replicate,eN];rfl
   rw[eG];generalize rn=A1 at *;generalize Ty=A2 at *
   simp[-QdM]at q1 q2 q3;simp[-QdM,c1,c2,er,mu,q1,q2,q3]
  refine#[bs,ws++zz5,jj4,ĺ u N,m6,Qo4 (Qbz P f) ((Qbz P hI).le É) U hr,#[_,rfl,ql2],λh=>uN];refine UX (QG qyd (QG (Qw s3) (QG (Qw s4) (QG s5 (QG s6 (QG (Qw s7) (QG (Vi (h1:=[]) gD rfl) (QG (Qw s8) (QG (Qw s9) (QG (Qw M) (QG ab (QG (Qw aa) ?_))))))))))));let Z:(AW++AZ).length<=sizeLine:=Nd (ql2:_<=40) à;let Y:(I++dR).length<=sizeLine:=Nd (by let:=hI.ln;show zLa:_<=40) à;let z3:T.length<=sizeLine:=Tp U;generalize AW++AZ=P1 at *;generalize I++dR=P2 at *;simp[Z,Y,z3];rfl
 ·refine#[bs,ws,[("m",L)],ĺ u N,i,QnC (f.le à),#[_,rfl,Tp f],λh=>uN];refine UX (QG qyd (QG (Qw s3) (QG (Qw s4) (QG s5 (QG s6 (QG (Qw s7) (QoH ?_)))))));let hz:zDa:=Tp f;simp[z,hz];rfl
#print"-"
def Qdp{l:Á}:inW Ě zia=tR:=by
 unfold inW;rw[Om,YaK,decide_eq_true_eq];constructor
 ·rintro⟨w,hw,e⟩
  let#[y,a,rfl]:=zX2;let:y=x:=by simpa[eqW]using e
  rw[<-this];show a
 ·intro h;show#[_,N3 h,by simp[eqW]]
def Qc2{xs:Á}{x:Str}{h:MH}:wIn false Ě (Ŋ cf) h=sO (ö (ό (x∈xs)),h):=by
 rw[QoY (neg:=false) rfl (Xx λw hw=>by show wz y;rfl) AO (VQ (jt2 y)),Qdp];rfl
abbrev rdK:Á:=["first","second","same","none","tell"]
abbrev bxL(l:Ln):Á:=if qI9 then[xbj,l.getD 3 "",l.getD 4 ""]else if l.headD ""∈rdK then l.tail else[]
section
variable{bs ws la:Á}{p:Ó}
def Gk{l:Ln}(f:v7)(h:MH):KQ mW h=sO (QL (bxL l),h):=by
 refine jOe;let e:=λ(x:Str) (h:MH)=>Qc2 (xs:=rdK) (x:=x) (h:=h);simp only[rdK,NH,ET]at e;let i:∀a:À W,zPb a=a.drop 1:=λa=>Kt a 1;let c:zP5:=Ú
 let b:qT:=Ú
 cases f with
 |plain d=>cases d<;>simp[ZC,Qs,Qj,bxL,QL,e,rdK,i,QeH,lsW,c,b]
 |«do» z=>show qM5
 |blk z=>rcases z with rfl|rfl|rfl|rfl<;>simp[ZC,Qs,Qj,bxL,QL,e,rdK]
 |back z=>show qM5
def Wu{d:Type}[f5 d]:∀(a b:À d),a.Nodup->(∀y∈a,y∈b)->a.length<=b.length:=by
 intro a
 induction a with
 |nil=>
  intro b _ _;show NN _
 |cons k r g=>
  intro b c h;let f:=h k Nw;rw[EV]at c;let:=g (b.erase k) c.2 λy e=>jya c e h y;rw[LU f]at this;rw[NO];show Nat.succ_le_of_lt (Np this (Nat.sub_lt (Fk f) Nat.one_pos))
def KM:∀(n:Nat) (l:Á),b9->(St.uniq l).Nodup/\(l.Nodup->St.uniq l=l):=by
 intro n
 induction n with
 |zero=>intro l h;rw[lx];show#[Dd,ς]
 | succ n f=>
  intro l h;show zr1
  let#[q,d]:=f u zzg;rw[St.uniq_snoc];constructor
  ·split
   ·show q
   ·rename_i g;rw[EB];show#[q,Ê,zjc j i g]
  ·intro c;rw[EB]at c;rw[d c.1,if_neg λz=>c.2.2 x z x Ç rfl]
def Qgr{f:a->À b}{l:À a}(h:l[j]?=sO x):(l.take (j+1)).flatMap f=(l.take j).flatMap f++f x:=qv0 h
def Yu(c:lsW h a=sO (k4 b))(h1:qOh)(h2:qpi):ZX [a] h=jAe:=by
 unfold ZX;simp only[c,Nv,Qh4];show jA (ĺ h1 h2)
abbrev lns(p:Ó):ĩ:=p.flatMap (·.2)
def UV{N:Nat}(a:ϛ)(j:Nat):qb3<=N*5:=Nd (Kc _ λx b=>a.sz x (Dt b)) (IY _ (by let:=a.len;rw[N4];show Nd fK this))
def GL(c:Ă)(h:MH):QT Pa h=sO (Î ro,h):=by
 let f:=c.len
 let loop:=X4 (items:=p.map V5) (b:=Zn 2) (body:=V6) (λn d h=>∃(a:ê),d=[ė,Ϛ,a]/\h=[Î ((lns (p.take n)).map Qj)])
  MV 0 xi [ś] rG (by
   rintro j w i d h ⟨a,rfl,rfl⟩
   rw[NB]at i;show Cq x e i;let q:=c.sz x (yP j e);rw[Ef];refine#[[ė,Ϛ,fC],rfl,[ė,Ϛ,fC],_,lB,_,rfl,rfl];let r:lns (p.take (j+1))=lns qrc++x.2:=Qgr e;let s:=UV c j;let o:qb3+ï<=sizeLine:=Qer Â;rw[r]
   simp[o,V5])
 let#[m,t,l,a,rfl,rfl]:=loop;rw[ND,Ef,DB]at l;refine qeh [Î ro];let ei:∀a (h:MH),Qv î [ė,Ϛ,a] h=sO (p.map V5,nO,h):=Ŕ;simp[Vd,Qs,ZM,ei,l]
abbrev bxs(p:Ó):Á:=(lns p).flatMap bxL
abbrev Bx(p:Ó):Á:=St.srt (Pw bY)
def Vb(d:ϛ){l:Ln}(a:zV7):∃la,v7:=by
 show(MW x b a,Mf i c b,#[_,d.ok i x c l a])
def QgM{l:Ln}(c:v7):∀b∈bxL l,b∈bs:=by
 cases c with
 |plain a=>cases a<;>simp_all[bxL,rdK]
 |«do» z=>show Pi
 |blk z=>show qb4
 |back z=>show Pi
def Qbx{l:Ln}(b:v7):qM6<=3:=by
 cases b with
 |plain a=>cases a<;>simp[bxL,rdK]
 |«do» z=>show Pi
 |blk z=>show qb4
 |back z=>show Pi
def QgP(d:ϛ):∀b∈bxs p,b∈bs:=λb a=>by
 show(MW l c a,lp h d c,QgM h b a)
def QiQ(g:ϛ)(c:Ų)(e:∃a:Á,a.Perm (Pw bY)/\RF):(Bx p).Nodup/\(∀b,CW↔b∈bxs p)/\m7<=5:=by
 show j6 a q h e;let hu:=(KM _ bY rfl).1;let f:qa9:=Nd (Wu _ bs hu λy d=>QgP g y (zA7 d)) c;unfold Bx;rw[qOi];show#[q.nodup_iff.mpr hu,λb=>by rw[q.mem_iff,qv3],by rw[q.length_eq];show f]
def Yd(c:Ă)(e:Ų)(h:MH):Va Pa h=sO (QL sW,h):=by
 let t:=UV c p.length;rw[DB]at t
 let q:∀k,jX9<=3*k:=λk=>Nd (Kc (n:=3) _ λl a=>by
  show lp a c (Dt a)
  show Qbx a) (IY _ qhd)
 let#[s,C,m,d,rfl,rfl]:=X4 (items:=zJb) (b:=Zn 2) (body:=Z4) (λk f h=>∃d:ê,f=[ė,Ϛ,d]/\h=[Î ((((lns p).take k).flatMap bxL).map .str)]) ro 0 xi [ś] rG (by
  rintro k w hw f h ⟨d,rfl,rfl⟩
  rw[Ef];rw[NB]at hw;let#[l,a,rfl]:=Nh.mp hw;show lp o c (E3 a);let x:=ú a;refine#[jz3,rfl,jz3,_,lB,_,rfl,rfl];let A:=λh=>Gk o h;let i:jX9+qM6<=sizeLine:=Nd (by let:=q k;let:=Qbx o;omega:_<=10000) à;let B:zC0 (k+1)=zC0 k++bxL l:=Qgr a;rw[B];generalize zC0 k=F at i ⊢
  simp[A,QL,i])
 rw[Ef,ND,DB]at m;let hu:qa9:=Nd (Wu _ bs qM7 λy u=>QgP c y (zA7 u)) e;let v:(bxs p).length<=3000:=by let:=q (lns p).length;rw[DB]at this;unfold bxs;omega
 let z:ZX [Pq] [Î zxi]=sO (.ref 1,jx9):=jMi;refine VU (j:=1) (g:=jx9) Ç ?_ rfl Ç
 let ei:Qv jEd xi [ś]=sO (zJb,nO,[ś]):=by
  let:(Qg 1 QT Sy) xi [ś]=sO (Î ro,[ś]):=by simp[GL c]
  unfold Qv;show Py
 let r:ZM wm pw Z4 xi [ś]=sO (Ĕ [ė,Ϛ,d] [Î zxi]):=by
  show(CP,m)
 unfold Vw;generalize ZM wm pw Z4=D at r ⊢;simp[Qs,r,z]
#print"-"
structure KeyE{κ:Type}(ek:κ->W)(et:Pr):Prop where
 nr:∀k,nrm (ek k)=sO zV8
 inj:∀a b,et a=et b->a=b
structure MM{κ ι:Type}(ek:κ->W)(eo:ι->MO)(h:MH)(T:Nat)(G:Cb):Prop where
 d:h[T]?=sO (yo (G.map dP))
 o:∀e∈G,h[e.2.1]?=sO (eo e.2.2)
 nd:(T::G.map (·.2.1)).Nodup
 kd:(G.map (·.1)).Nodup
section
variable{κ ι:Type}{ek:κ->W}{et:Pr}{eo:ι->MO}{h h':MH}{T:Nat}{G:Cb}
open Classical in
abbrev gAt(G:Cb)(k:κ):Option (Nat×ι):=(G.find? (qC e k)).map (·.2)
def Zv{k:κ}{q:Nat×ι}(e:jx=sO q):(k,q)∈G:=by
 classical
 unfold gAt at e;show Cq r a e;let d:=List.find?_some a;let c:=List.mem_of_find?_eq_some a;let b:r.1=k:=zK3 d;show PN b c
def Y7{k:κ}(e:jx=nO):∀r∈G,r.1≠k:=λr a z=>by
 classical
 unfold gAt at e;rw[DE,Lj]at e;show e r a (decide_eq_true z)
def W6(K:CO)(k:κ):XX (G.map λe=>qs6) zV8=(gAt G k).map λq=>.ref q.1:=by
 classical
 unfold XX gAt
 induction G with
 |nil=>rfl
 | cons e G a=>
  show zSf c e k
  ·let:decide jWi=true:=by rw[K.nr,c];simp
   simp only[this,yJ c];rfl
  ·let:decide jWi=false:=by rw[K.nr];simp;show λz=>c qIa
   simp only[this,yF c];show a
def MM.frame(M:Co)(e:∀a∈T::G.map (·.2.1),Cg):MM ek eo h' T G:=
 #[by rw[e T Nw];show M.d,λx b=>by rw[e _ (Φ (N3 b))];show M.o x b,M.nd,M.kd]
def MM.lt(M:Co):∀a∈T::G.map (·.2.1),qV:=λa b=>by
 show ϲ b
 ·show(Nk.mp M.d).1
 ·show(jk e c b,(Nk.mp (M.o e c)).1)
def QU{o:MO}{a b:Nat}(c:b<h.length):(h.set b o)[a]?=if b=a then sO o else h[a]?:=by
 rw[Yas];split
 ·rename_i z;subst z;first|rfl|rw[Ð c]
 ·rfl
open Classical in
abbrev XM(G:Cb)(k:κ)(f:lR):Cb:=G.map λe=>if e.1=k then(e.1,e.2.1,f e.2.2)else e
def YR(k:κ)(f:lR):(XM G k f).map (·.1)=G.map (·.1):=by
 classical
 show zs6
def Wi(k:κ)(f:lR):(XM G k f).map (·.2.1)=G.map (·.2.1):=by
 classical
 show zs6
def QjY(k:κ)(f:lR):(XM G k f).map (λe=>qs6)=G.map dP:=by
 classical
 show zs6
def MM.upd(M:Co){k:κ}{i:Nat}{x:ι}(f:lR)(e:oA):MM ek eo (uq h (eo (f x))) T qWa:=by
 classical
 let m:=Zv e;let s:=M.lt i (Φ (kP (ϴ m)))
 let w:i≠T:=λz=>by
  let:=qM8;show this (kP #[_,m,z])
 refine#[?_,Ò r u,by rw[Wi];show M.nd,by rw[YR];show M.kd]
 ·rw[QU s,Í w,QjY];show M.d
 ·show zke u q n c k
  ·let:q=(k,i,x):=by
    let:=M.kd;show jxa;let l:(G.map (·.1))[a]?=sO k:=by rw[NB,j];show zb1 c
    let t:(G.map (·.1))[b]?=sO k:=vA g
    let:a=b:=(Ii (ú l) M.kd).mp (cL l t);show(xc1,NY g)
   subst this;rw[Ð c];apply(h.set i _)[i]?=_;rw[QU s,Ĳ]
  ·rw[Í c]
   let p:i≠q.2.1:=λz=>c (by
    show jxa;let v:=(EV.mp M.nd).2;let l:(G.map (·.2.1))[a]?=sO i:=by rw[NB,j];show congrArg sO z.symm
    let t:(G.map (·.2.1))[b]?=sO i:=vA g
    let:a=b:=zmg l v t;show xc1;rw[NY g])
   rw[QU s,Í p];show M.o q n
def MM.new(M:Co){k:κ}{n:Nat}{x:ι}(e:jx=nO)(l:h[n]?=sO (eo x))(j:n∉T::G.map (·.2.1)):MM ek eo (h.set T jn9) T (G++qD4):=by
 let i:=M.lt T Nw;let g:=qM8;refine#[oI i,Ò r c,?_,?_]
 ·show Hv c
  ·let:T≠r.2.1:=λz=>g (by rw[z];show N3 c);rw[QU i,zPc];show M.o r c
  ·rw[ĸ c];let:T≠n:=λz=>j jP7;rw[QU i,zPc];show l
 ·rw[Ec,<-LY,EB]
  show#[M.nd,Ê,λa f b d z=>j (by
   let:b=n:=ĝ d
   rw[<-this,<-z];show f)]
 ·rw[Ec,EB];refine#[M.kd,Ê,Ϭ a f b d z];let:b=k:=ĝ d
  subst this;subst z;let#[r,c,m]:=uo f;show Y7 e r c m
def Qg4(K:CO)(M:Co){k:κ}{i:Nat}{x:ι}{v:W}(e:oA):Uk uH [ek k,v] h=uF i h:=by
 show zrb
 unfold Uk;simp only[hd,K.nr,Nv,W6 K,e,EY]
def Qgi(K:CO)(M:Co){k:κ}{n:Nat}(x:ι)(e:jx=nO)(b:r6):Uk uH [ek k,Ã n] h=sO (Ã n,h.set T jn9):=by
 show zrb
 let a:=W6 (G:=G) K k;rw[e,Option.map_none]at a;unfold Uk;simp only[hd,K.nr,Nv,a,Xv,M.d];show jA (by rw[ND];show b);unfold Qb9;rw[a];simp
def Qcj(K:CO)(M:Co){k:κ}{v:W}:Vp uH [ek k,v] h=sO (((gAt G k).map qM9).getD v,h):=by
 show zrb
 unfold Vp;simp only[hd,K.nr,Nv,EY,W6 K]
#print"-"
section
variable{κ ι:Type}{ek:κ->W}{et:Pr}{ei:ι->W}{h:MH}{T:Nat}{G:jc}
abbrev eoL(ei:ι->W)(l:À ι):MO:=Î qWb
abbrev Wm(G:jc)(k:κ)(n:Nat)(v:ι):jc:=match jx with
 |some _=>XM G k (·++[v])
 |none=>G++[zV9]
def QkI(K:CO)(M:HV h G)(k:κ)(v:ι)(j:r6)(hz:jcj) :
  ∃h1 i,Uk uH jfi RY=uF i h1/\∃l,h1[i]?=sO (Þ l)/\qze/\HV (uq h1 zp1) jBh/\jBj/\(∀a,a∉T::G.map (·.2.1)->qV->(h1.set i zp1)[a]?=h[a]?)/\(T::(Wm G k h.length v).map (·.2.1)) ⊆ h.length::T::G.map (·.2.1):=by
 let M1:HV RY G:=nv b;cases e:jx with
 |some q=>
  show Ď i x q;let f:=Zv e;let w:=M.lt i (Φ zx2);refine#[_,i,Qg4 K M1 e,x.map ei,M1.o _ f,by rw[ND];show hz i x e,?_,Ê,Ï a b c,?_]
  ·let:=M1.upd (·++[v]) e;show zci;unfold eoL at this;rw[Ec]at this;show this
  ·let:i≠a:=λz=>b (by rw[<-z];show ϧ zx2);rw[QU jR,zPc,NM c]
  ·show zci;simp only[Wi];show ON _ _
 | none=>
  let g:h.length∉T::G.map (·.2.1):=Me z qWc;let m:=M1.lt T Nw;let M2:=M1.new (k:=k) (n:=h.length) (x:=[]) e (by simp[eoL]) g;show jV2 d g;refine#[_,h.length,Qgi K M1 [] e j,[],by rw[QU m,Í d];simp,Np ě j,?_,Ê,Ï a b c,?_]
  ·let u:gAt zA2 k=sO (h.length,[]):=by
    classical
    show qc1
   let:=M2.upd (·++[v]) u;show zci
   let t:XM zA2 k (·++[v])=G++[(k,h.length,[v])]:=by
    classical
    unfold XM;rw[Ec];congr 1
    ·conv=>rhs;rw[<-List.map_id G]
     refine' D9;intro r p;rw[if_neg (Y7 e r p)];rfl
    ·simp
   show sF t
  ·let h1:h.length≠a:=Ô
   show jT6;rw[QU Ç,Í h1,QU m,Í s,NM c]
  ·show zci;intro a b;simp only[Ec,NI,NG,NH,ET,Da,or_false]at b ⊢
   show jaf
#print"-"
noncomputable abbrev Qr:=Nat×Nat×Str
abbrev seW(s:Qr):W:=Ì (zzb s)
abbrev seT(s:Qr):Tr:=.t [.i s.1,.i s.2.1,.s s.2.2]
abbrev slW(q:Qr×Nat):W:=Ì [ja0,Ct]
abbrev slT(q:Qr×Nat):Tr:=.t [seT q.1,.i q.2]
abbrev Qbf(q:P7):W:=Ì [mK,seW q.2]
def Yc(a b:Qr)(h:seT a=seT b):a=b:=by
 unfold seT at h;show(zBb,LN É (LN É h.2.2))
def seK:KeyE seW seT:=#[λk=>by
 apply KA 8 (Ŋ (zzb k))=_
 show zJd,Yc]
def slK:KeyE slW slT:=#[λk=>by
 apply KA 8 (Ŋ [Ì (qj8 k),.int k.2])=_;show zJd,λa b h=>by
 unfold slT at h;show zBb
 show LN (Yc _ _ h.1) É]
section
variable{κ ι:Type}{G:jc}
abbrev gL(G:jc)(k:κ):À ι:=((gAt G k).map (·.2)).getD []
open Classical in
def QcY{k a:κ}(f:À ι->À ι):gAt qWa a=(gAt G a).map λq=>(q.1,if a=k then f q.2 else q.2):=by
 classical
 unfold gAt XM
 induction G with
 |nil=>rfl
 | cons e G b=>
  show zSf c e a
  ·by_cases d:e.1=k
   ·let:a=k:=c.symm.trans d;subst this;simp[c]
   ·let:a≠k:=λz=>d (Ć c z);simp[c,d,this]
  ·by_cases d:e.1=k
   ·let g:¬k=a:=λz=>c (Ć d z);simp[c,d,g];show yq b
   ·simp[c,d];show yq b
def U8{k a:κ}{n:Nat}{v b:ι}:b∈gL (Wm G k n v) a↔qc2:=by
 classical
 unfold Wm;cases e:jx with
 |some q=>
  show jr6
 | none=>
  unfold gL;let f:=e;unfold gAt at f;rw[DE]at f
  show Ā c a k
  ·subst c
   let d:gAt (G++[(a,n,[v])]) a=sO (n,[v]):=by
    unfold gAt;rw[Fq,f];simp
   rw[d,e];simp
  ·let d:gAt (G++[zV9]) a=gAt G a:=by
    unfold gAt;rw[Fq]
    let:[zV9].find? qei=nO:=by
     rw[Lj];intro r g;rw[ĸ g];simp;show zD2
    rw[this,Option.or_none]
   rw[d];simp[c]
#print"-"
section
variable{κ ι:Type}{ek:κ->W}{et:Pr}{ei:ι->W}{h:MH}{T:Nat}{G:jc}
def QdI{C:Addr}{f:Str}{r:Nat}{σ:MSt}{mk mv:ME}{k:κ}{v:ι}(K:CO)(M:HV h G)(m:ZR C f gz h=uF T h)(h0:∀h,Qb 0 σ h=zih)(j:∀h,mk σ h=sO (ek k,h))(e:∀h,mv σ h=sO (ei v,h))(g:r6)(hz:jcj) :
  ∃h2,mMt "list" QZ (mMt "dict" Uk (ϵ (ZR C f)) (Qa mk (ã Bw))) (Qa mv Qe) σ h=ĵ h2/\HV h2 jBh/\h2.length=CB/\(∀a,a∉T::G.map (·.2.1)->qV->h2[a]?=h[a]?)/\(T::(Wm G k h.length v).map (·.2.1)) ⊆ h.length::T::G.map (·.2.1):=by
 let#[n,i,s,l,q,b,M2,p,o,sub]:=QkI K M k v g hz;refine#[n.set i zp1,?_,M2,by rw[EW];show p,o,sub];let c:=M.d;simp[h0,m,j,e,c,s,q,b]
#print"-"
noncomputable abbrev KR:=js4
noncomputable abbrev WR:=List (Qr×Nat×List xca)
noncomputable abbrev UR:=List ((Qr×Nat)×Nat×Ī)
noncomputable abbrev fpG{κ ι:Type}(T:Nat)(G:Cb):ĉ:=T::G.map (·.2.1)
abbrev SzG{κ ι:Type}(n:Nat)(G:jc):Prop:=G.length<=n/\∀e∈G,Tx<=n
def SzG.le{κ ι:Type}{n m:Nat}{G:jc}(h:SzG n G)(a:n<=m):SzG m G:=#[Nd h.1 a,λe b=>Nd (h.2 e b) a]
def SzG.ins{κ ι:Type}{n:Nat}{G:jc}(h:SzG n G)(k:κ)(a:Nat)(v:ι):SzG (n+1) (Wm G k a v):=by
 classical
 unfold Wm;cases e:jx with
 |some q=>
  refine#[by unfold XM;rw[ND];show DQ h.1,Ò r b];unfold XM at b;show jk x c b;let:=h.2 x c;split
  ·simp;show this
  ·show DQ this
 |none=>
  refine#[by simp;show h.1,Ò r b]
  show ů b z
  ·show DQ (h.2 r z)
  ·rw[ĸ z];simp
noncomputable abbrev rlF(c b aW a:Nat):ž W:=[("ends",Ã c),("kept",Ã b),("wrapped",lC),("unwrapped",Ã a)]
structure RH(C:Addr)(n:Nat)(h:MH)(r aE aK aW aU:Nat)(E:Ī)(K:KR)(Wr:WR)(U:UR):Prop where
 i:h[r]?=sO (.ins C qv4)
 e:h[aE]?=sO (Þ wu)
 k:MM seW xcb h aK K
 w:MM seW (eoL Qbf) h aW Wr
 u:MM slW xcb h aU U
 re:r≠aE
 dK:∀a∈zc1,a≠r/\zfd/\a∉zaf/\a∉lf
 dW:∀a∈zaf,a≠r/\zfd/\a∉lf
 dU:∀a∈lf,a≠r/\zfd
 sz:E.length<=n/\SzG n K/\SzG n Wr/\SzG n U
def Qhf{m:ME}{σ:MSt}{h h1:MH}{v:W}(e:zn):Qd1 (QM m σ h)=ĵ h1:=by
 unfold QM;rw[e];rfl
section
variable{C:Addr}{n:Nat}{h:MH}{r aE aK aW aU:Nat}{E:Ī}{K:KR}{Wr:WR}{U:UR}
def RH.fld(H:xW):jQ3/\ZR C "kept" gz h=sO (.ref aK,h)/\ZR C "wrapped" gz h=sO (lC,h)/\ZR C "unwrapped" gz h=sO (.ref aU,h):=by
 let a:qo7=sO qv4:=by
  show zC1
 unfold ZR;show ī a Re
def Ve(e:h[a]?=sO o):qV:=ú e
def QiM(H:xW)(p:vL)(s o:Qr):∃h',jSi=ĵ h'/\zGh E jBi U:=by
 let z:Mt:=zGc p;let#[l,e,M,y,c,sub]:=QdI (C:=C) (f:="kept") (r:=r) (σ:=[ō r,Ϝ s,Ϝ o]) (mk:=Qb 1) (mv:=Qb 2) (k:=s) (v:=o) seK H.k H.fld.2.1 C8 C8 C8 (Np H.sz.2.1.1 z) λi x m=>Np (H.sz.2.1.2 _ (Zv m)) z;let new:∀a∈fpG aK jBi,zR8\/a∈zc1:=zA3;show zC2 l
 ·let d:∀a,a∉zc1->qV->l[a]?=h[a]?:=c;show zQ5 g j;refine#[?_,?_,M,H.w.frame λa b=>c a (λq=>(H.dK a q).2.2.1 b) qMa,qF9 (λq=>(H.dK a q).2.2.2 b),H.re,xD,H.dW,H.dU,DQ Pu,H.sz.2.1.ins s _ o,zA8,zA9]
  ·rw[c r (λq=>(H.dK r q).1 rfl) g];show H.i
  ·rw[c aE (λq=>(H.dK aE q).2.1 rfl) j];show H.e
  ·show zG5
   show Š #[EF g,EF j,Me q (H.w.lt _ q),Me q qMb]
   ·show H.dK a q
def Qjv(H:xW)(m:vL)(s o:Qr)(l:Nat):∃h',jL0=ĵ h'/\RH C (n+1) h' r aE aK aW aU E K qci U:=by
 let z:Mt:=zGc m;let#[p,e,M,G,c,sub]:=QdI (C:=C) (f:="wrapped") (r:=r) (σ:=jbc) (mk:=Qb 1) (mv:=mFn Qz zq2) (k:=s) (v:=(l,o)) seK H.w xcc C8 C8 (λh=>by simp[Qbf]) (Np H.sz.2.2.1.1 z) λi x j=>Np (H.sz.2.2.1.2 _ (Zv j)) z;let new:∀a∈fpG aW qci,zR8\/a∈zaf:=zA3;show zC2 p
 ·show zQ5 d g;refine#[?_,?_,H.k.frame λa b=>c a (H.dK a b).2.2.1 qMc,M,qF9 (λq=>(H.dW a q).2.2 b),H.re,xD,xD,H.dU,DQ Pu,zBe,H.sz.2.2.1.ins s _ (l,o),zA9]
  ·rw[c r (λq=>(H.dW r q).1 rfl) d];show H.i
  ·rw[c aE (λq=>(H.dW aE q).2.1 rfl) g];show H.e
  ·let#[B,A,y,t]:=H.dK a b
   show#[B,A,λq=>by
    show jq8
    ·show y q,t]
  ·show zG5
   show Š #[EF d,EF g,Me q qMb]
   ·show H.dW a q
def Qcz(H:xW)(y:vL)(s o:Qr)(l:Nat):∃h',jL1=ĵ h'/\zGh E K jub:=by
 let z:Mt:=zGc y;let#[A,e,M,G,c,sub]:=QdI (C:=C) (f:="unwrapped") (r:=r) (σ:=jbc) (mk:=mFn Qz zh2) (mv:=Qb 3) (k:=(s,l)) (v:=o) slK H.u xcd C8 (λh=>by simp[slW]) C8 (Np H.sz.2.2.2.1 z) λi x t=>Np (H.sz.2.2.2.2 _ (Zv t)) z;let new:∀a∈fpG aU jub,zR8\/a∈lf:=zA3;show zC2 A
 ·show zQ5 m p;refine#[?_,?_,H.k.frame λa b=>c a (H.dK a b).2.2.2 qMc,H.w.frame λa b=>c a (H.dW a b).2.2 qMa,M,H.re,xD,xD,xD,DQ Pu,zBe,zA8,H.sz.2.2.2.ins (s,l) _ o]
  ·rw[c r (λq=>(H.dU r q).1 rfl) m];show H.i
  ·rw[c aE (λq=>(H.dU aE q).2 rfl) p];show H.e
  ·let#[j,g,d,B]:=H.dK a b
   show#[j,g,d,λq=>by
    show jq8
    ·show B q]
  ·let#[j,g,d]:=H.dW a b
   show#[j,g,λq=>by
    show qcj
    ·show û (H.w.lt _ b) vI
    ·show d q]
  ·show zG5
   show Š #[EF m,EF p]
   ·show H.dU a q
def QeB(H:xW)(f:vL)(s:Qr):∃h',jZi=ĵ h'/\zGh (E++[s]) K U:=by
 let z:E.length<sizeLine:=Np Pu (nB f);let d:=Ve H.e;let j:=H.e;let g:=H.fld.1;refine#[h.set aE (Þ qog),?_,?_]
 ·let:jQ3:=g;simp[ZG,Qs,this,j,z]
 ·let c:∀a,zfd->(h.set aE (Þ qog))[a]?=h[a]?:=λa b=>by rw[QU d,if_neg (EO b)]
  refine#[by rw[c r H.re];show H.i,oI d,H.k.frame λa b=>c a (H.dK a b).2.1,H.w.frame λa b=>c a (H.dW a b).2.1,H.u.frame λa b=>c a (H.dU a b).2,H.re,H.dK,H.dW,H.dU,by simp;show Pu,zBe,zA8,zA9]
#print"-"
noncomputable abbrev Thg:=Option xca
inductive RE where
 |en (s:Qr)
 |kp (s o:Qr)
 |wr (s:Qr) (l:Nat) (o:Qr)
 |un (s:Qr) (l:Nat) (o:Qr)
inductive Th(R:Ÿ):Qr->Thg->Prop where
 |en {s:Qr} (h:R (.en s)):Th R s nO
 |kp {s o:Qr} {t:Thg} (h:xce) (a:ϥ R):Th R o t
 |wr {s o:Qr} {l:Nat} {t:Thg} (h:qQd) (a:ϥ R):bZ o s
 |un {s s2 o:Qr} {l:Nat} {t:Thg} (h:fA s) (a:bZ s s2) (b:Th R s2 t):Th R o t
abbrev gvK:Á:=jW0
abbrev gvL:Ğ->Option Str
 |some (k::x::_)=>if k∈gvK then sO x else nO
 |_=>nO
abbrev KpL(B:vN)(l:Ğ)(b a:Str):Prop:=(B b/\b=a/\qWd)\/l=pO ["same",a,b]
abbrev WrL(l:Ğ)(b:Str)(k:Nat)(a:Str):Prop:=∃w y z,jV3/\(k=1/\b=y\/k=2/\b=z)
abbrev UnL(l:Ğ)(b:Str)(k:Nat)(a:Str):Prop:=(k=1/\l=pO ["first",a,b])\/(k=2/\l=pO ["second",a,b])
abbrev EnL(w:Str)(l:Ğ)(a:Str):Prop:=∃y z,jV3
abbrev ltc(c:Bool)(late:Nat):Nat:=if Τ then 1 else late
def YE{c:Bool}{late:Nat}(h:lD):ca<=1:=by unfold ltc;split;show(Nu _,h)
noncomputable abbrev Egs:=Nat->Ğ->Nat->Bool->Prop
inductive Ru(E:Egs)(B:vN)(w:Str):Ÿ where
 |kp {n m late:Nat} {l:Ğ} {c:Bool} {b b':Str} (he:ϫ) (hl:lD) (h:kB B):Ru E B w (.kp zS1 zp2)
 |wr {n m late k:Nat} {l:Ğ} {c:Bool} {b b':Str} (he:ϫ) (hl:lD) (h:qWe):Ru E B w (.wr zS1 k zp2)
 |un {n m late k:Nat} {l:Ğ} {c:Bool} {b b':Str} (he:ϫ) (hl:lD) (h:qWf):Ru E B w (.un zS1 k zp2)
 |en {n m:Nat} {l:Ğ} {c:Bool} {b':Str} (he:ϫ) (h:EnL w l b'):Ru E B w (.en (gu,m,b'))
def Xe{E:Egs}{B:vN}{w:Str}{s:Qr}{t:Thg}(a:ϥ vk):s.1<=1:=by
 cases a with
 |en h=>cases h;show YE ě
 |kp h a=>cases h with|kp d c h=>show YE c
 |wr h a=>cases h with|wr d c h=>show YE c
 |un h a b=>cases h with|un d c h=>show YE c
structure Put(E E':Egs)(B B':vN)(V:vM)(a d:yX)(il:Ğ)(c2:Bool):Prop where
 v:∀{n l m c},ϫ->V n/\V m
 to:∀{n l m c},ϫ->∃c1,E' (d n) l (a m) c1/\jp8
 mid:∀{m},V m->vH->E' (a m) il (d m) c2
 back:∀{x l y c1},E' x l y c1->(∃n m c,x=d n/\y=a m/\ϫ/\jp8)\/(∃m,V m/\vH/\x=a m/\y=d m/\l=il/\c1=c2)
 dj:∀{n m},V n->V m->d n=d m->n=m
 aj:∀{n m},V n->V m->a n≠d n->vH->a n=a m->n=m
 ad:∀{n m},V n->V m->a n≠d n->a n≠d m
 sub:∀{b},B b->B' b
 /-- the line put in: each box is kept,nothing is made -/
 ik:∀{b},B b->KpL B' il b b
 io:∀{b b'},KpL B' il b b'->B b->b=b'
 iw:∀{b k b'},¬WrL il b k b'
 iu:∀{b k b'},¬UnL il b k b'
 ie:∀{w b'},¬EnL w il b'
 /-- lines of the old program speak of its boxes,and keep no new one as another -/
 lb:∀{n l m c b b'},ϫ->kB B'->B b->kB B/\B b'
 lb2:∀{n l m c b b'},ϫ->kB B->kB B'
 lw:∀{n l m c b k b'},ϫ->qWe->B b/\B b'
 lu:∀{n l m c b k b'},ϫ->qWf->B b/\B b'
 le:∀{n l m c w b'},ϫ->EnL w l b'->B b'
 /-- nothing is kept as an old box but an old one -/
 lo:∀{x l y c1 b b'},E' x l y c1->kB B'->B b'->B b
section
variable{E E':Egs}{B B':vN}{V:vM}{a d:yX}{il:Ğ}{c2:Bool}{w:Str}
abbrev mvS(d:yX)(s:Qr):Qr:=(s.1,d s.2.1,s.2.2)
abbrev mvT(d:yX)(t:Thg):Thg:=t.map λq=>(q.1,mvS d q.2)
def Qqs{b c2 c:Bool}{late:Nat}(h:c=(b ||c2)):ltc c2 (ltc b late)=ca:=by subst h;cases b<;>cases c2<;>rfl
def QrX(Q:Put E E' B B' V a d il c2){s:Qr}{t:Thg}(h:ϥ vk):B s.2.2:=by
 induction h with
 |en h=>cases h with|en c h=>show Q.le c h
 |kp h a e=>cases h with|kp c f h=>show(Q.lb c (Q.lb2 c h) e).2
 |wr h a e=>cases h with|wr c f h=>show(Q.lw c h).2
 |un h a b i g=>cases h with|un c f h=>show(Q.lu c h).2
def Qri(Q:Put E E' B B' V a d il c2){s:Qr}{t:Thg}(h:ϥ vk):∀{q:P7},t=sO q->V q.2.2.1/\B q.2.2.2:=by
 induction h with
 |en h=>intro q e;cases e
 |kp h a f=>show f
 |wr h a f=>intro q e;cases e;cases h with|wr g j h=>show#[(Q.v g).1,(Q.lw g h).1]
 |un h a b i c=>show c
def YV(Q:Put E E' B B' V a d il c2){n m late:Nat}{l:Ğ}{c e:Bool}{b:Str}{t:Thg}(i:B b)(g:ϫ)(h1:vV->e=c)(h2:vH->c=(e ||c2))(f:lD)(h:Th cA (ltc e late,a m,b) t):Th cA (ca,d m,b) t:=by
 by_cases z:vV
 ·rw[<-z,<-h1 z];show h
 ·let:=Th.kp (.kp (w:=w) (Q.mid (Q.v g).2 z) (YE f) (Q.ik i)) h;rwa[Qqs (h2 z)]at this
def Uc(Q:Put E E' B B' V a d il c2){s:Qr}{t:Thg}(h:ϥ vk):Th cA (mvS d s) xcf:=by
 induction h with
 | en h=>
  cases h with
  |en b h=>
   show(Rl,YV Q (Q.le b h) b f e ě (.en (.en g h)))
 | kp h x l=>
  cases h with
  |kp b c h=>
   show Rl;let n:=QrX Q x;show YV Q (Q.lb b qQf n).2 b f e c (.kp (.kp g c qQf) l)
 | wr h x l=>
  cases h with
  |wr b c h=>
   show(Rl,YV Q (Q.lw b h).2 b f e c (.wr (.wr g c h) l))
 | un h x y j i=>
  cases h with
  |un b c h=>
   show(Rl,YV Q (Q.lu b h).2 b f e c (.un (.un g c h) j i))
abbrev Bk(E:Egs)(B:vN)(w:Str)(V:vM)(a d:yX)(c2:Bool)(s:Qr)(t:Thg):Prop:=
 B s.2.2->(∀m,V m->s.2.1=d m->∃b,zEi b (s.1,m,s.2.2))/\(∀m,V m->vH->s.2.1=a m->∃b,zEi b (ltc c2 s.1,m,s.2.2))
def Qfu(Q:Put E E' B B' V a d il c2){n m late:Nat}{l:Ğ}{c o:Bool}{b:Str}{t:Thg}(q:ϫ)(h1:vV->o=c)(h2:vH->c=(o ||c2))(h:∃p,zEi p (ca,m,b)):Bk E B w V a d c2 (ltc o late,a m,b) t:=by
 intro _;let i:=(Q.v q).2;refine#[Ï j g e,Ę j g f e]
 ·by_cases z:vV
  ·obtain rfl:m=j:=Q.dj i g (cb z e);rw[h1 z];show h
  ·show û e (Q.ad i g z)
 ·by_cases z:vV
  ·show û (show a j=d m by rw[<-z];show e.symm) (Q.ad g i f)
  ·obtain rfl:m=j:=Q.aj i g z f e;apply∃p,_/\Th _ (ltc c2 (ltc o late),_,_) _;rw[Qqs (h2 z)];show h
def Kr(Q:Put E E' B B' V a d il c2){s:Qr}{t:Thg}(h:ϥ cA):Bk E B w V a d c2 s t:=by
 induction h with
 | en h=>
  cases h with
  |en f h=>
   rcases zc2 with⟨n,m,c,rfl,rfl,b,j,i⟩|⟨m,l,z,rfl,rfl,rfl,rfl⟩
   ·show Qfu Q b j i #[nO,rfl,.en (.en b h)]
   ·show(Q.ie h).elim
 | kp h x A=>
  cases h with
  |kp f o h=>
   rcases zc2 with⟨n,m,c,rfl,rfl,b,j,i⟩|⟨m,l,z,rfl,rfl,rfl,rfl⟩
   ·show qQg;let#[u,rfl,r]:=(A p).1 n zVa rfl;show Qfu Q b j i #[u,rfl,.kp (.kp b o (Q.lb b h p).1) r] g
   ·show qQg;let I:=Q.io h p;subst I;let#[u,rfl,r]:=(A p).2 m l z rfl;refine#[Ï U H e,λU H G e=>absurd e.symm (Q.ad H l G)];obtain rfl:=Q.dj l H e;show je3
 | wr h x A=>
  cases h with
  |wr f o h=>
   rcases zc2 with⟨n,m,c,rfl,rfl,b,j,i⟩|⟨m,l,z,rfl,rfl,rfl,rfl⟩
   ·intro g;let#[u,L,r]:=(A (Q.lw b h).1).1 n zVa rfl;show Qfu Q b j i #[sO (_,(_,n,_)),rfl,.wr (.wr b o h) r] g
   ·show(Q.iw h).elim
 | un h x y D C=>
  cases h with
  | un f o h=>
   rcases zc2 with⟨n,m,c,rfl,rfl,b,j,i⟩|⟨m,l,z,rfl,rfl,rfl,rfl⟩
   ·intro g;let#[P,L,N]:=(D (Q.lu b h).1).1 n zVa rfl;cases P with
    |none=>cases L
    |some q=>
     show Ď k S q;cases L;let M:=Qri Q N rfl;let#[O,rfl,X]:=(C M.2).1 S.2.1 M.1 rfl;show Qfu Q b j i #[O,rfl,.un (.un b o h) N X] g
   ·show(Q.iu h).elim
def Qk3{E0:Egs}(h0:∀{n l m c},ϫ->E0 n l m false){s:Qr}{t:Thg}(h:ϥ vk):Th qQe (0,s.2) (t.map λq=>(q.1,(0,q.2.2))):=by
 induction h with
 |en h=>cases h with|en f h=>show .en (.en (c:=false) (h0 f) h)
 |kp h a j=>cases h with|kp f o h=>show .kp (.kp (late:=0) (c:=false) (h0 f) ě h) j
 |wr h a j=>cases h with|wr f o h=>show .wr (.wr (late:=0) (c:=false) (h0 f) ě h) j
 |un h a b i g=>cases h with|un f o h=>show .un (.un (late:=0) (c:=false) (h0 f) ě h) i g
abbrev OnT(R:Ÿ)(s:Qr):Thg->Prop
 |none=>∃late,Th R zS2 nO
 |some (l,s2)=>∀b,(∃t,Th R (b,s2.2) t)->∃late,Th R zS2 (sO (l,(b,s2.2)))
def QmA{R:Ÿ}{s:Qr}{t:Thg}(h:OnT R s t)(b:∀q,t=sO q->∃e t',Th R (e,q.2.2) t'):∃late t',Th R zS2 t':=by
 cases t with
 |none=>let#[e,h]:=h;show#[e,_,h]
 |some q=>let#[e,t',c]:=b q rfl;let#[l,h]:=h e (ĺ t' c);show#[l,_,h]
def QnE{E0:Egs}(h0:∀{n l m c},E0 n l m c->∃x,E n l m x){s:Qr}{t:Thg}(h:ϥ qQe):OnT vk s t/\∀q,t=sO q->∃e t',Th vk (e,q.2.2) t':=by
 induction h with
 |en h=>cases h with|en p h=>show tP;show#[#[_,qq7],λq e=>jy e]
 | @kp s o t h a r=>
  cases h with
  |kp p z h=>
   show tP;refine#[?_,r.2];cases t with
   |none=>let#[e,f]:=r.1;show qej
   |some q=>show λy g=>by let#[e,f]:=r.1 y g;show qej
 | @wr s o l t h a r=>
  cases h with
  |wr p z h=>
   show tP;refine#[Ò y g,Ò q e]
   ·show pU t' f g #[_,.wr (.wr i (Xe f) h) f]
   ·cases e;show QmA r.1 r.2
 | @un s C o l t h a b u j=>
  cases h with
  | un p z h=>
   show tP;refine#[?_,j.2];cases t with
   |none=>
    let#[e,f]:=j.1;show jHf
   |some q=>
    intro y g;let#[e,f]:=j.1 y g;show jHf
#print"-"
abbrev eoD(ei:ι->W)(l:À ι):MO:=qb zv2
section
variable{ι:Type}{ei:ι->W}{et:ι->Tr}{l:À ι}{x:ι}{h:MH}{n:Nat}
open Classical in
def QmF(K:zS3):qOb=tR:=by
 induction l with
 |nil=>rfl
 | cons t l a=>
  show Ā e t x
  ·subst e;simp[XX,NZ,K.nr]
  ·let c:¬et t=et x:=λz=>e qIa;let:XX ((t::l).map jKb) qF8=XX (l.map jKb) qF8:=by simp[XX,NZ,K.nr,c]
   show qy8 b x
def Qmp(a:Rt):zF2=sO zv2:=by
 unfold eoD at a;simp only[Ks,a]
open Classical in
def Qn3(K:zS3)(a:Rt)(neg:Bool):U4 neg (ei x) Η h=sO (ö (if neg then ! tR else tR),h):=by
 unfold U4;rw[Qmp a,Nv,K.nr,EY,QmF K]
def Qmx(K:zS3)(d:Rt)(b:x∉l)(e:qze):Xv Η (ei x) He h=sO (lV (eoD ei qS4)):=by
 classical
 let c:qOb=false:=by rw[QmF K];show yq b
 let a:h[n]?=sO (yo zv2):=d;unfold Xv;show j9 a;rw[K.nr,Nv,if_pos (by rw[ND];show e)];unfold Qb9;rw[c];simp[eoD]
def QgZ(a:Rt):Xa [Ã n] h=sO (Î qWb,h):=by
 unfold Xa;simp only[Qmp a,EY];simp[EA]
#print"-"
abbrev thW:Thg->W
 |none=>zdg
 |Û q=>Qbf q
abbrev thT:Thg->Tr
 |none=>.t []
 |Û q=>.t [.i q.1,seT q.2]
def thK:KeyE thW thT:=#[λk=>by
 cases k with
 |none=>rfl
 |some q=>
  apply KA 8 (Ŋ [mK,Ì [zg2 q,.int q.2.2.1,.str q.2.2.2]])=_;show zJd,λa b h=>by
 show qWg
 ·simp[thT]at h
 ·simp[thT]at h
 ·rename_i a b;unfold thT at h;show zBb
  show zb1 (LN É (Yc _ _ h.2))]
@[simp]def Qpl{s:Qr}:pur (seW s)=true:=rfl
noncomputable abbrev TG:=np
noncomputable abbrev DG:=js4
abbrev wtW(q:Qr×Thg):W:=Ì [ja0,thW q.2]
noncomputable abbrev gwF(r aT aD aW:Nat):ž W:=[jxb,("things",zdh),("tied",.ref aD),("waiting",lC)]
structure GH(C:Addr)(b:Nat)(h:MH)(r gr aT aD aW:Nat)(T:TG)(D:DG)(Q:ő):Prop where
 i:jO1
 t:wU h
 d:MM seW (eoD seW) h aD D
 w:h[aW]?=zn4
 gw:gr≠aW
 dT:∀a∈vU,jq9
 dD:∀a∈u4,jC0
 bw:b<=aW
 nT:∀e∈T,MQ
 nD:∀e∈D,MQ
section
variable{C:Addr}{b:Nat}{h:MH}{r gr aT aD aW:Nat}{T:TG}{D:DG}{Q:ő}
def GH.fld(H:qf):ZR C "rules" jQ h=zih/\ZR C "things" jQ h=sO (zdh,h)/\ZR C "tied" jQ h=sO (.ref aD,h)/\qj9 h=sO (lC,h):=by
 let a:qo8=sO zuh:=by
  show zC1
 unfold ZR;show ī a Re
def GH.more(H:qf)(o:MO):yD (h++[o]) T D Q:=by
 let ap:∀{a x},h[a]?=sO x->qM1=sO x:=λe=>by rw[NM (Ve e)];show e
 show#[ap H.i,H.t.frame λa c=>NM (H.t.lt a c),H.d.frame λa c=>NM (zg3 c),ap H.w,H.gw,H.dT,H.dD,H.bw,H.nT,H.nD]
#print"-"
section
variable{κ ι:Type}{ek:κ->W}{et:Pr}{ei:ι->W}{it:ι->Tr}{h:MH}{T:Nat}{G:jc}
def QgS{k:κ}{v:ι}(h:v∈B8 G):∃e∈G,e.1=k/\v∈e.2.2:=by
 unfold gL at h;cases e:jx with
 |none=>show ä e h
 |some q=>rw[e]at h;show#[_,Zv e,rfl,h]
def QjB{k a:κ}{n:Nat}{b:ι}(e:jx=nO):b∈gL (G++[(k,n,[])]) a↔b∈gL G a:=by
 classical
 unfold gL gAt at *;rw[Fq];rw[DE]at e
 show jQ2
 ·cases z:G.find? qei with
  |some q=>simp
  |none=>
   let:¬k=a:=zD2;simp[this]
def QdC{k a:κ}{i:Nat}{x:À ι}{v b:ι}(e:oA):b∈gL (XM G k (·++[v])) a↔qc2:=by
 classical
 show jr6
def XR(i:(G.map (·.1)).Nodup){e:κ×Nat×À ι}(d:e∈G):gAt G e.1=sO e.2:=by
 cases z:gAt G e.1 with
 |none=>show y0 (Y7 z e d)
 |some q=>
  let j:=Zv z;show(Mf a f d,Mf b c j);let g:(G.map (·.1))[a]?=sO e.1:=vA f
  let l:(G.map (·.1))[b]?=sO e.1:=vA c
  let:a=b:=zmg g i l;subst this;rw[f]at c;let:=NY c;rw[this]
def Qmi(K:CO)(M:zJc h G)(k:κ)(p:r6) :
  ∃h1 i x c,Uk uH jfi zYc=uF i h1/\zJc h1 c/\gAt c k=ā i x/\(∀v,v∈x↔v∈B8 G)/\(∀d v,v∈gL c d↔v∈gL G d)/\jBj/\(∀a,a∉zdi->qV->zN3)/\(fpG T c ⊆ h.length::zdi)/\(∀e∈c,e.2.2=[]\/∃f∈G,e.2.2=f.2.2)/\(∀e∈c,e.1=k\/e.1∈G.map (·.1)):=by
 let M1:zJc zYc G:=nv b;cases e:jx with
 |some q=>
  show pU i x q #[_,i,x,G,Qg4 K M1 e,M1,e,λv=>Hw e,λ_ _=>DW,Ê,λa _ b=>NM b,ON _ _,λe j=>å (pK e j),λe j=>å (N3 j)]
 | none=>
  let m:h.length∉zdi:=Me z qWc;let r:=M1.lt T Nw;let M2:=M1.new (k:=k) (n:=h.length) (x:=[]) e qFa m;show jV2 o m
  let t:gAt zA2 k=sO (h.length,([]:À ι)):=by
   classical
   show qc1
  refine#[_,h.length,[],_,Qgi K M1 [] e p,M2,t,λv=>Hw e,λd v=>QjB e,Ê,Ï a b l,?_,Ò f g,Ò f g]
  ·show jT6;rw[QU r,Í s,NM l]
  ·intro a b;simp only[fpG,Ec,NI,NG,NH,ET,Da,or_false]at b ⊢
   show jaf
  ·show jb8 (pK f z)
  ·show jb8 (N3 z)
#print"-"
def GE{m:SM}{σ σ1:MSt}{h h1:MH}(e:m σ h=ſ σ1 h1):Qd1 ye=ĵ h1:=kz e
def VY{m:ME}{σ:MSt}{h h1:MH}{v:W}(e:zn):QM m σ h=ſ σ h1:=by unfold QM;rw[e];rfl
section
variable{C:Addr}{b:Nat}{h:MH}{r gr aT aD aW:Nat}{T:TG}{D:DG}{Q:ő}
def Qeh(H:qf)(hb:MR)(s:Qr)(t:Thg)(z1:T.length<sizeLine)(z2:∀e∈T,Tx<sizeLine)(z3:Q.length<sizeLine) :
  ∃h' T' Q',jS3=ĵ h'/\yD h' T' D Q'/\qv2/\ow/\(∀a,a∉vU->kS->qV->Cg)/\(∀I t',t'∈gL T' I↔t'∈gL T I\/(I=s/\t'=t))/\(jS/\Q'=Q\/t∉Ĭ T/\Q'=Q++rN)/\(∀e∈T',e.1=s\/e.1∈T.map (·.1)):=by
 classical
 let#[j,i,x,T1,e1,M1,e2,mx,mT,N,fr,sub,ob,ok]:=Qmi (ek:=seW) (ei:=thW) seK H.t s z1;let Z:=Zv e2;let hi:j[i]?=sO (eoD thW x):=M1.o _ Z;let O:=Ve H.i;let hw:=Ve H.w;let nw:=λa (g:a∈fF)=>qQc;let B:∀a,a∉vU->qV->xc8:=fr;let ai:gr∉vU:=λq=>(H.dT gr q).1 rfl;let aj:aW∉vU:=λq=>(H.dT aW q).2.1 rfl
 let n:∀a∈fF,jq9:=λa g=>by
  rcases nw a g with rfl|q
  show Š #[EF O,EF hw,Me q (H.d.lt _ q),hb]
  ·show H.dT a q
 let u:∀e∈T1,MQ:=λe E=>by
  show qc3 E
  ·rw[z];show H.nT f p
 let zx:zyg:=by
  rcases ob _ Z with z|⟨f,p,z⟩
  ·rw[show x=[]from z];show Np ě z1
  ·rw[show x=f.2.2 from z];show z2 f p
 let fD:∀a∈u4,a∉vU:=λa g q=>(H.dT a q).2.2.1 g;let H1:yD j T1 D Q:=#[by rw[B _ ai O];show H.i,M1,H.d.frame λa g=>B a (fD a g) (zg3 g),by rw[B _ aj hw];show H.w,H.gw,n,H.dD,H.bw,u,H.nD]
 let P:∀a<b,xc8:=λa g=>B a (λq=>absurd (H.dT a q).2.2.2 qWh) (Ng g hb)
 let s1:QA 3 (iD (ϵ (zF5 C))) [sO jQ,Ϝ s,rR,nO] h=sO (Ĕ zgc j):=by
  show xcg H;simp[f,Z9,md,e1]
 let G:=Qn3 (x:=t) thK hi true;rw[Ĳ]at G
 by_cases c:t∈x
 ·simp only[c,decide_true]at G;refine#[j,T1,Q,GE (QG s1 (Sr j gE)),H1,qv5,P,λa j _ U=>B a j U,Ò I t',Ø #[(mx t).mp c,rfl],ok];rw[mT]
  show#[.inl,λq=>by
   show zv4
   ·show(mx _).mp c]
 ·simp only[c,decide_false]at G;let p1:=Qmx thK hi c zx;let M2:=M1.upd (·++[t]) e2;let A:i<j.length:=Ve hi;let y:i∈fF:=ϧ (kP (ϴ Z));let#[d1,d2,d3,d4]:=n i y;let aa:j[aW]?=zn4:=H1.w;let M:(j.set i we)[aW]?=zn4:=by rw[QU A,Í d2];show aa
  let af:qj9 zxb=sO (lC,j.set i we):=by
   let ae:(j.set i we)[gr]?=sO xk7:=by rw[QU A,Í d1];show H1.i
   let:YL C zxb jQ=sO zuh:=by
    unfold YL;simp only[ae];simp
   unfold ZR;show Py
  let hz:(Q.map wtW).length<sizeLine:=M9 z3
  let L:aW<jQh:=Ve M
  let s3:YM ă þ wv zgc j=sO (Ĕ zgc zxb):=by
   rw[Qgn];simp[p1]
  let m:∀a,a≠i->(j.set i we)[a]?=j[a]?:=iG g A
  let ab:jQh=j.length:=EW;let Y:fpG aT (XM T1 s (·++[t]))=fF:=qs7
  generalize j.set i we=U at *;let l:∀a,kS->(U.set aW (Þ qd0))[a]?=U[a]?:=iG g L
  let ni:∀a,a∉fF->a≠i:=λa g e=>g (e▸y);refine#[U.set aW (Þ qd0),XM T1 s (·++[t]),Q++rN,GE (QG s1 (G8 (h1:=j) gE (QG s3 RR))),?_,?_,?_,?_,?_,å #[λq=>c ((mx t).mpr q),rfl],Ò e E]
  ·simp[af,M,z3,wtW]
  ·refine#[?_,M2.frame λa g=>l a ?_,H1.d.frame (Ò a g),oI L,H.gw,Ϲ Y n,H.dD,H.bw,Ò e E,H.nD]
   ·rw[l _ H.gw,m _ (EO d1)];show H1.i
   ·rw[show aT::(XM T1 s (·++[t])).map (·.2.1)=fpG aT (XM T1 s (·++[t]))from rfl,Y]at g;show(n a g).2.1
   ·rw[l a (H.dD a g).2.1,m a λe=>d3 qtd]
   ·show zke E f p q s
    ·let:f=(s,i,x):=by
      let:=M1.kd;let e3:=XR M1.kd p;show jp9 e2
     subst this;rw[Ĳ];rw[EB];show#[u _ Z,Ê,λa g b hb e=>c (by rw[Nq.mp hb]at e;show PN e g)]
    ·rw[Í q];show u _ p
  ·rw[EW,ab,N];show Em _
  ·intro a g;rw[l a (λe=>absurd H.bw jWj),m a jRa];show P a g
  ·intro a X ah S;rw[l a ah,m a Az]
   ·show B a X S
   ·rcases nw i y with q|q
    ·show û S (by rw[e,q];show N2 _)
    ·show X (e▸q)
  ·intro I t';rw[QdC e2,mT]
  ·show qmh T1 t E
   show jXa
#print"-"
def Kh{a:Type}{f:a->W}{src:qW}{items:À W}{b:MG}{body:SM}{xs:À a}(P:À a->zKj)(g:∀d σ h,Aa d->qG)
  (m:∀d x r,xs=d++x::r->∀σ h,Aa d->∃σ1,b (f x) σ h=lN/\∃σ2 h2,oi/\P (d++[x]) σ2 h2) :
  ∀(rest d:À a),xs=d++rest->∀σ h,Aa d->∃σ2 h2,Jf items src b body (rest.map f) σ h=ſ σ2 h2/\P xs σ2 h2:=by
 intro rest
 induction rest with
 |nil=>intro d e σ h p;rw[Eb]at e;show ϑ e #[σ,h,by rw[ET,Jf,qye],p]
 |cons x rest l=>
  intro d e σ h p;let#[σ1,s,σ2,h2,q,j]:=m d x rest e σ h p;let#[c,n,o,i]:=l (d++[x]) (vt e) σ2 h2 j;refine#[c,n,?_,i];rw[NH,Jf,qye,s,Nv,q];show o
structure IV(R:Ÿ)(US:Ī)(T:TG)(D:DG)(Q P:ő):Prop where
 sT:∀s t,jS->ϥ R
 sD:∀s o,o∈Ĭ D->∃s1 l,fA s1/\bZ s1 s
 nd:(P++Q).Nodup
 mem:∀s t,(s,t)∈P++Q↔jS
 kT:∀e∈T,zc4
 kD:∀e∈D,zc4
abbrev UT(US:Ī):zc3:=nO::(US.map (λs=>sO (1,s))++US.map λs=>sO (2,s))
structure UO(R:Ÿ)(US:Ī):Prop where
 few:qIb
 th:∀s t,ϥ R->s∈US/\t∈UT US
 un:∀s l o,fA s->o∈US
def QgW{US:Ī}(h:qIb):(UT US).length<=3201:=by unfold UT;simp;omega
def Qpo{US:Ī}{l:Nat}{s:Qr}(h:ā l s∈UT US):s∈US:=by
 unfold UT at h;rw[NI,NG,NJ,NJ]at h
 rcases h with h|⟨a,h,e⟩|⟨a,h,e⟩
 ·cases h
 ·show Ŭ e h
 ·show Ŭ e h
section
variable{R:Ÿ}{US:Ī}{C:Addr}{b:Nat}{h:MH}{r gr aT aD aW:Nat}{T:TG}{D:DG}{Q P:ő}
def Qcw{κ ι:Type}[f5 κ][f5 ι]{G:jc}{A:À κ}{B:À ι}(c:(G.map (·.1)).Nodup)(k:∀e∈G,e.1∈A)(d:∀e∈G,MQ)(m:∀s t,t∈Ĭ G->t∈B):G.length<=A.length/\∀e∈G,Tx<=B.length:=by
 refine#[?_,λe a=>Wu _ _ (d e a) λt g=>m e.1 t ?_]
 ·let:=Wu (G.map (·.1)) A c λy f=>by
   show(jk e a f,k e a)
  rwa[ND]at this
 ·unfold gL;rw[XR c a];show g
def Qjj(U:lF)(H:qf)(I:zq7):zJe/\(∀e∈T,zq8)/\D.length<=1600/\(∀e∈D,Tx<=1600)/\(P++Q).length<=5121600:=by
 let a:=U.few;let#[p,o]:=Qcw (A:=US) (B:=UT US) H.t.kd I.kT H.nT λs t c=>(U.th s t (I.sT s t c)).2
 let#[m,j]:=Qcw (A:=US) (B:=US) H.d.kd I.kD H.nD λs t c=>by
  let#[u,l,g,_]:=I.sD s t c;show U.un _ _ _ g
 let ul:=QgW a;refine#[Nd p a,λe f=>Nd (o e f) ul,Nd m a,λe f=>Nd (j e f) a,?_]
 let:=Wu (P++Q) (US.flatMap λs=>(UT US).map λt=>(s,t)) I.nd λq i=>by
  let:=U.th _ _ (I.sT _ _ ((I.mem q.1 q.2).mp i));show Ew.mpr #[q.1,this.1,NJ.mpr #[q.2,this.2,rfl]]
 refine Nd this (Nd (Kc (n:=3201) _ λs _=>by rw[ND];show ul) (IY 3201 a))
structure Sp(b:Nat)(aD:Nat)(D:DG)(h:MH)(T:TG)(Q:ő)(h':MH)(T':TG)(Q':ő):Prop where
 ln:qv2
 lo:∀a<b,Cg
 di:∀a∈u4,Cg
 mo:∀s t,jS->t∈Ĭ T'
 mq:∀q∈Q,q∈Q'
 nw:∀s t,zn6 T'
def Sp.refl(h:MH):Sp b aD D h T Q h T Q:=#[Nu _,Ŕ,Ŕ,jq h,zX6,zkj]
def Sp.trans{h1 h2:MH}{T1 T2:TG}{f e:ő}(a:Sp b aD D h T Q h1 T1 f)(c:Sp b aD D h1 T1 f h2 T2 e):Sp b aD D h T Q h2 T2 e:=#[Nd a.ln c.ln,λx d=>(c.lo x d).trans (a.lo x d),λx d=>(c.di x d).trans (a.di x d),λs t h=>c.mo s t (a.mo s t h),λq h=>c.mq q (a.mq q h),λs t h=>by
 rcases c.nw s t h with z|z
 ·rcases a.nw s t z with y|y
  show ja y (c.mq _ y)
 show Ŗ z]
def Qde{mo:ME}{ms:MA}{m:Str}{n:Nat}{g:FM}{σ:MSt}{as:À W}{h1:MH}(hi:jO1)(c:((gwF r aT aD aW).lookup m).isNone=true)(d:qb5)(e:qk9)(a:xch=n):qWi n=g (fX::as) h1:=by
 let hi:qo8=sO zuh:=by
  unfold YL;simp only[hi];simp
 unfold Jt;rw[d,Nv];simp only[hi,Nv,c,if_true,e];show jz4 a
def Qkq(U:lF)(H:qf)(I:zq7)(o:MR){s:Qr}{t:Thg}(x:ϥ R) :
  ∃h' c Q',jS3=ĵ h'/\yD h' c D Q'/\fH R c Q'/\cG/\Sp b aD D h T Q h' c Q'/\zq6:=by
 let#[B,A,S,O,z]:=Qjj U H I;let u:jpa:=λm=>rZ m;let#[h',c,Q',e,N,y,lo,M,j,p,G]:=Qeh H o s t (u (BE B)) (λe w=>u (BE (A e w))) (u (Nd (by rw[NA];show Fh _ _) z));let E:zq6:=(j s t).mpr (õ jp);refine#[h',c,Q',e,N,#[Ï i g h',I.sD,?_,Ò i g,Ò e w,I.kD],Nd o y,#[y,lo,λa l=>M a (λq=>(H.dT a q).2.2.1 l) (H.dD a l).2.1 (zg3 l),λi g h=>(j i g).mpr uG,?_,Ï i g h'],E]
 ·show jfj
  ·show I.sT _ _ q
  ·show x
 ·rcases p with⟨_,rfl⟩|⟨m,rfl⟩
  ·show I.nd
  ·rw[<-Eh,EB];show#[I.nd,Ê,λa l b o e=>m ((I.mem s t).mp (jB6 o l))]
 ·rw[j,<-I.mem]
  rcases p with⟨v,rfl⟩|⟨m,rfl⟩
  ·show#[.inl,λq=>by
    show zv4
    ·show(I.mem _ _).mpr v]
  ·rw[<-Eh,NG,Nq,FN]
 ·rcases G e w with q|q
  ·rw[q];show(U.th _ _ x).1
  ·let#[f,L,q]:=uo q;rw[<-q];show I.kT f L
 ·rcases p with⟨_,rfl⟩|⟨_,rfl⟩
  ·show λq h=>h
  ·show λq h=>NT _ h
 ·show jfj
  show š q
  ·rcases p with⟨v,rfl⟩|⟨_,rfl⟩
   show š v
   ·show å Ç
abbrev St9(R:Ÿ)(US:Ī)(C:Addr)(b r gr aT aD aW:Nat)(D:DG)(P:ő)(h:MH)(T:TG)(Q:ő)(h':MH)(X:zc5):Prop:=∃a c,yD h' a D c/\fH R a c/\cG/\Sp b aD D h T Q h' a c/\X a
def QkJ(U:lF){h0:MH}{f:TG}{Q0:ő}{X:zc5}(n:∀T c:TG,(S7 c)->X T->X c)(S:St9 R US C b r gr aT aD aW D P h0 f Q0 h X){s:Qr}{t:Thg}(j:ϥ R){σ:MSt}{mo:ME}{ms:MA}(p:qb5)(e:zd8=sO (qQh,h)) :
  ∃h',QM zwe σ h=ſ σ h'/\St9 R US C b r gr aT aD aW D P h0 f Q0 h' (λT=>X T/\jS):=by
 let#[T,Q,H,I,l,g,x]:=S;let#[h',c,q,o,v,u,d,a,m]:=Qkq U H I l j;show#[h',VY ((Qde H.i rfl p e rfl).trans o),c,q,v,u,d,g.trans a,n _ _ a.mo x,m]
#print"-"
section
variable{R:Ÿ}{US:Ī}{C:Addr}{b:Nat}{h:MH}{r gr aT aD aW:Nat}{T:TG}{D:DG}{Q P:ő}
def QcW(H:qf)(I:MR)(s o:Qr)(z1:D.length<sizeLine) :
  ∃h1 i x D1,Uk (.ref aD) [seW s,İ h] zYc=uF i h1/\yD h1 T D1 Q/\qq8/\(∀v,v∈x↔v∈Ĭ D)/\(∀k v,v∈B8 D1↔Sw)/\h.length<=h1.length/\(∀a<b,zN3)/\(∀e∈D1,e.1=s\/e.1∈D.map (·.1))/\(x=[]\/∃f∈D,x=f.2.2) /\
   (o∉x->GH C b (uq h1 iE) r gr aT aD aW T (XM D1 s (·++[o])) Q/\(∀k v,v∈gL (XM D1 s (·++[o])) k↔Sw\/(k=s/\v=o))/\(∀a<b,jR9=h[a]?)/\(∀e∈XM D1 s (·++[o]),e.1=s\/e.1∈D.map (·.1))):=by
 classical
 let#[h1,i,x,D1,e1,M1,M,mx,Z,N,L,sub,ob,ok]:=Qmi (ek:=seW) (ei:=seW) seK H.d s z1;let G:=Zv M;let hi:qq8:=M1.o _ G;let A:=Ve H.i;let hw:=Ve H.w;let Y:=λa (g:a∈fG)=>qQc;let S:gr∉u4:=λq=>(H.dD gr q).1 rfl;let U:aW∉u4:=λq=>(H.dD aW q).2.1 rfl;let X:∀a∈vU,a∉u4:=λa g=>(H.dT a g).2.2.1
 let m:∀a∈vU,zS5/\kS/\a∉fG/\b<=a:=λa g=>#[(H.dT a g).1,(H.dT a g).2.1,λq=>by
  rcases Y a q with rfl|q
  ·show û (H.t.lt _ g) vI
  ·show X a g q,(H.dT a g).2.2.2]
 let n:∀a∈fG,jC0:=λa g=>by
  rcases Y a g with rfl|q
  show zW #[EF A,EF hw,I]
  ·show H.dD a q
 let l:∀e∈D1,MQ:=λe u=>by
  show qc3 u
  ·rw[z];show H.nD f p
 let H1:yD h1 T D1 Q:=#[by rw[L _ S A];show H.i,H.t.frame λa g=>L a (X a g) (H.t.lt a g),M1,by rw[L _ U hw];show H.w,H.gw,m,n,H.bw,H.nT,l]
 let B:∀a<b,zN3:=λa g=>L a (λq=>absurd (H.dD a q).2.2 qWh) (Ng g I);refine#[h1,i,x,D1,e1,H1,hi,mx,Z,qv5,B,ok,ob _ G,æ c];let M2:=M1.upd (·++[o]) M;let O:i<h1.length:=Ve hi;let y:i∈fG:=ϧ (kP (ϴ G));let#[d1,d2,d4]:=n i y;let j:∀a,a≠i->jR9=h1[a]?:=iG g O
 let E:fpG aD (XM D1 s (·++[o]))=fG:=qs7
 refine#[#[?_,H1.t.frame λa g=>j a λe=>(m a g).2.2.1 (e▸y),M2,?_,H.gw,Ϲ E m,Ϲ E n,H.bw,H.nT,Ò e u],Ò k v,Ò a g,Ò e u]
 ·rw[j _ (EO d1)];show H1.i
 ·rw[j _ (EO d2)];show H1.w
 ·show zke u f p q s
  ·let:f=(s,i,x):=by
    let e3:=XR M1.kd p;show jp9 M
   subst this;rw[Ĳ,EB];show#[l _ G,Ê,zjc g I c]
  ·rw[Í q];show l _ p
 ·rw[QdC M,Z]
 ·rw[j a jRa];show B a g
 ·show qmh D1 o u
  show jXa
def QfT(U:lF)(H:qf)(I:zq7)(X:MR){s1 s2 o:Qr}{l:Nat}(hr:fA s1)(L:bZ s1 s2) :
  ∃h' g D' Q',JR C [fX,seW s2,seW o] h=ĵ h'/\yD h' g D' Q'/\IV R US g D' Q' P/\cG/\ow/\(S7 g)/\(∀q∈Q,q∈Q')/\(∀s t,zn6 g)/\(∀k v,v∈B8 D'↔Sw\/(k=s2/\v=o))/\(o∉gL D s2->∀t,t∈zij->t∈gL g o):=by
 classical
 let#[z1,z2,z3,z4,z5]:=Qjj U H I;let Z:jpa:=λhn=>Np hn à;let#[u,i,x,D1,e1,H1,hi,mx,mD,z,lo1,ai,xs,more]:=QcW H X s2 o (Z (BE z3));let aa:s2∈US:=Qpo (U.th _ _ L).2
 let B:QA 3 (iD jvb) [sO jQ,Ϝ s2,Ϝ o,nO,nO] h=sO (Ĕ PR u):=by
  show qQi H;simp[f,Z9,md,e1]
 let j:=Qn3 (x:=o) seK hi true;rw[Ĳ]at j
 let kd:∀{N:DG},(∀e∈N,e.1=s2\/e.1∈D.map (·.1))->∀e∈N,zc4:=λhk e he=>by
  rcases hk e he with q|q
  ·rw[q];show aa
  ·let#[f,hf,q]:=uo q;rw[<-q];show I.kD f hf
 by_cases c:o∈x
 ·simp only[c,decide_true]at j;let cD:=(mx o).mp c
  show#[u,T,D1,Q,GE (QG B (Sr u (Μ j))),H1,#[I.sT,λs E h=>I.sD s E ((mD s E).mp h),I.nd,I.mem,I.kT,kd ai],Nd X z,lo1,jq h,zX6,zkj,λk v=>by
   rw[mD]
   show#[.inl,λq=>by
    show zv4
    ·show cD],λh=>absurd cD h]
 ·simp only[c,decide_false]at j;let#[H2,G,af,ah]:=more c
  let zx:zyg:=by
   rcases xs with rfl|⟨f,hf,rfl⟩
   ·show Z ě
   ·show Z (BE (z4 f hf))
  let p1:=Qmx seK hi c zx
  let I2:IV R US T (XM D1 s2 (·++[o])) Q P:=#[I.sT,λs E h=>by
   show zzc G s E h
   ·show I.sD s E q
   show Š #[s1,l,hr,L],I.nd,I.mem,I.kT,kd ah]
  let ae:YM ă þ wv PR u=sO (Ĕ PR (uq u iE)):=by
   rw[Qgn];simp[p1]
  let M:(u.set i iE).length=u.length:=EW;generalize u.set i iE=y at *;generalize XM D1 s2 (·++[o])=N at *;let H3:=H2.more bS;let ak:b<=(y++zPd).length:=by rw[NA,M];show Nd X (cN z)
  let ei:Qv (jr2 C) PR y=sO (qBc,nO,y++[Ť]):=by
   show xcg H2;let gm:=Qcj (v:=İ y) seK H3.t (k:=s2)
   let ek:Xa [jMe] znj=sO (Î ((gL T s2).map thW),y++[Ť]):=by
    unfold gL;cases q:gAt T s2 with
    |some p=>show QgZ (H3.t.o _ (Zv q))
    |none=>show QgZ (l:=[]) qFa
   generalize jMe=w at gm ek;unfold Qv;simp[f,Z9,md,gm,ek,VE]
  let#[am,h',el,O,rfl,S]:=Kh (f:=thW) (src:=nO) (items:=qBc) (b:=Zn 4) (body:=Vz C) (xs:=zij) (λd Y h=>∃O,Y=jb6/\St9 R US C b r gr aT aD aW N P znj T Q h λg=>∀t∈d,t∈gL g o) Ri (by
   rintro d t rr hd Y h ⟨O,rfl,S⟩
   refine Mc;let ab:t∈zij:=tG
   let#[h',e,S']:=QkJ (s:=o) (t:=t) (ms:=Qa þ g8) (mo:=Qb 0) (σ:=[sO jQ,Ϝ s2,Ϝ o,ō i,rR]) U (λT g m x t L=>Ō m (x t L)) S (.un hr L (I.sT _ _ ab)) rfl rfl;refine#[_,h',e,_,rfl,?_];let#[g,Q',a1,a2,a3,A,a5,a6]:=S';refine#[g,Q',a1,a2,a3,A,λt' aj=>?_]
   rcases NG.mp aj with q|q
   ·show a5 t' q
   show Au q a6) (gL T s2) [] rfl PR znj #[nO,rfl,T,Q,H3,I2,ak,zVb,Ê]
  let#[g,Q',a1,a2,a3,A,a5]:=S;refine#[h',g,N,Q',GE (σ1:=jb6) (QG B (G8 (h1:=u) (Μ j) (QG ae ?_))),a1,a2,a3,λa ha=>?_,A.mo,A.mq,A.nw,G,λ_=>a5]
  ·show(CP,el)
  ·rw[A.lo a ha,NM (by rw[M];show Ng ha (Nd X z))];show af a ha
#print"-"
abbrev RrG(E:Ī)(K:KR)(a:WR)(U:UR):Ÿ
 |.en s=>s∈E
 |.kp s o=>o∈Ĭ K
 |.wr s l o=>(l,o)∈Ĭ a
 |.un s l o=>o∈bJ
structure RB(C:Addr)(n b:Nat)(h:MH)(r aE aK aW aU:Nat)(E:Ī)(K:KR)(Wr:WR)(U:UR):Prop where
 rh:xW
 lt:r<b/\aE<b/\(∀a∈zc1,a<b)/\(∀a∈zaf,a<b)/\(∀a∈lf,a<b)
def RB.keep{C:Addr}{n b:Nat}{h h':MH}{r p o aW m:Nat}{E:Ī}{K:KR}{q:WR}{U:UR}(B:RB C n b h r p o aW m E K q U)(e:∀a<b,Cg):RB C n b h' r p o aW m E K q U:=by
 let#[H,l,j,g,f,d]:=B;show#[#[by rw[e _ l];show H.i,by rw[e _ j];show H.e,H.k.frame (zSg g),H.w.frame (zSg f),H.u.frame (zSg d),H.re,H.dK,H.dW,H.dU,H.sz],l,j,g,f,d]
def KJ{κ ι:Type}{ek:κ->W}{i:Pr}{ei:ι->W}{h:MH}{T:Nat}{G:jc}(K:KeyE ek i)(M:HV h G)(k:κ) :
  ∃w src,Vp uH [ek k,ś] h=AI/\VE h w=sO ((gL G k).map ei,src)/\∀h',(∀a∈zdi,Cg)->live src ((gL G k).map ei) h':=by
 let b:=Qcj (v:=ś) K M (k:=k);cases q:jx with
 |some p=>
  rw[q]at b;let f:=Zv q;let d:h[p.1]?=sO (Þ (p.2.map ei)):=M.o _ f;let c:B8 G=p.2:=Hw q
  rw[c];refine#[.ref p.1,sO (.l p.1),b,by unfold VE;show j9 d,Ę h' e n g];cases g;apply h'[p.1]?=_;rw[e _ (Φ zx2)];show d
 |none=>
  rw[q]at b;let c:B8 G=[]:=Hw q
  show ī c #[ś,nO,b,rfl,λ_ _=>Qx _ _]
section
variable{R:Ÿ}{US:Ī}{C Cr:Addr}{b:Nat}{h:MH}{r gr aT aD aW:Nat}{T:TG}{D:DG}{Q P:ő}
def St9.more{h0:MH}{g:TG}{Q0:ő}{X:zc5}(S:St9 R US C b r gr aT aD aW D P h0 g Q0 h X)(i:b<=h0.length)(o:MO):St9 R US C b r gr aT aD aW D P h0 g Q0 (h++[o]) X:=by
 let#[T,Q,H,I,j,c,x]:=S;let ap:∀{a},qV->qM1=h[a]?:=λe=>NM e;show#[T,Q,H.more o,I,by rw[NA];omega,#[by rw[NA];let:=c.ln;omega,λa f=>(ap É).trans (c.lo a f),λa f=>(ap (zg3 f)).trans (c.di a f),c.mo,c.mq,c.nw],x]
def Qad(U:lF){h0:MH}{M:TG}{Q0:ő}{X:zc5}(hX:∀T i:TG,(S7 i)->X T->X i){l:Type}{f:l->W}{ys:À l}{src:qW}{bt:MG}{mo:ME}{ms:MA}(g:l->Qr×Thg)(u:∀y∈ys,Th R ja1 ja2)(c:zV3)
  (v:∀y∈ys,∀σ h,c σ->∃σ1,bt (f y) σ h=lN/\c σ1/\mo σ1 h=sO (fX,h)/\ms σ1 h=sO ([seW ja1,thW ja2],h))
  (w:∀h',(∀a<b,lM=h0[a]?)->(∀a∈u4,lM=h0[a]?)->live src zPe h') {σ:MSt} (n:c σ) (S:St9 R US C b r gr aT aD aW D P h0 M Q0 h X) :
  ∃σ2 h2,Jf zPe src bt (QM zwe) zPe σ h=ſ σ2 h2/\c σ2/\St9 R US C b r gr aT aD aW D P h0 M Q0 h2 λT=>X T/\∀y∈ys,qoh:=by
 let#[σ2,h2,e,O,S2]:=Kh (f:=f) (src:=src) (items:=ys.map f) (b:=bt) (body:=QM zwe) (xs:=ys) (λd σ h=>c σ/\St9 R US C b r gr aT aD aW D P h0 M Q0 h λT=>X T/\∀y∈d,qoh)
  (λd σ h p=>by let#[_,T,Q,H,I,hb,N,x]:=p;show w h N.lo N.di) (by
   rintro d y rr hd σ h ⟨Z,S⟩
   let j:y∈ys:=tG
   let#[σ1,e1,Y,e2,e3]:=v y j σ h Z;let#[h',e,i,Q',L,G,E,B,#[A,a6],a7]:=QkJ U (λT i m x=>#[hX T i m x.1,λz o=>Ō m (x.2 z o)]) S (u y j) e2 e3;refine#[σ1,e1,σ1,h',e,Y,i,Q',L,G,E,B,A,Ò z o]
   show zB o q a6 z a7) ys [] rfl σ h #[n,by let#[T,Q,L,G,E,B,A]:=S;show#[T,Q,L,G,E,B,A,Ê]]
 show#[σ2,h2,e,O,S2]
abbrev Dn(R:Ÿ)(T:TG)(D:DG)(s:Qr)(t:Thg):Prop:=(∀o,xce->SN)/\(∀l o,qQd->ā l s∈qmg)/\(∀l a o,t=ā l a->fA s->o∈gL D a)
structure Clo(R:Ÿ)(T:TG)(D:DG)(Q P:ő)(cur:Option zS4):Prop where
 ti:∀s o,o∈Ĭ D->∀t,jS->(s,t)∈Q\/ā s t=cur\/SN
 pd:∀s t,(s,t)∈P->ā s t=cur\/Dn R T D s t
def Clo.step{d:TG}{f:DG}{Q':ő}{c:Option zS4}(X:Clo R T D Q P c)(mo:∀s t,jS->t∈Ĭ d)(u:∀q∈Q,q∈Q')(n:∀s t,zn6 d)(w:∀k v,Sw->v∈B8 f)(p:∀k v,v∈B8 f->Sw\/∀t,t∈B8 T->t∈gL d v):Clo R d f Q' P c:=by
 refine#[Ϭ s o a t x,Ï s t A]
 ·rcases n s t x with z|z
  ·rcases p s o a with y|y
   ·rcases X.ti s o y t z with q|q|q
    show ja (u _ q) (đ q)
    show Ζ (õ (mo _ _ q))
   show Ζ (õ (y t z))
  show š z
 ·rcases X.pd s t A with q|⟨m,j,i⟩
  show ja q #[λo a=>mo _ _ (m o a),λl o a=>mo _ _ (j l o a),λl g o e a=>Ō w (i l g o e a)]
variable{n aE aK aV aU:Nat}{E:Ī}{K:KR}{Wr:WR}{U:UR}
def QbE{t:Thg}{h:MH}:wNe (thW t) VH h=sO (.bl t.isSome,h):=by
 cases t with
 |none=>show(Qnl (a:=zdg) (b:=zdg) rfl rfl RU RU).trans (by simp[eqW,Ki])
 |some q=>show(Qnl (a:=Qbf q) (b:=zdg) rfl rfl (by simp[Qbf,seW,dep,Yg]) RU).trans (by simp[Qbf,eqW,Ki])
noncomputable abbrev sS(gr:Nat)(s:Qr)(t:Thg)(c a:ê):MSt:=[sO jQ,Ϝ s,rR,c,a]
abbrev QiZ(gr:Nat)(s:Qr)(t:Thg)(σ:MSt):Prop:=∃c a,σ=zg t c a
def Uu(O:zN5)(B:zx9 h)(H:qf)(I:fH γ T Q)(hb:MR){s:Qr}{t:Thg}(ht:jS)(X:zvb T D Q) :
  ∃h' y A Q',ZP C Cr jVd h=ĵ h'/\jC1/\qde/\cG/\ow/\(S7 y)/\jU6:=by
 classical
 let th:=I.sT s t ht;let S0:St9 γ US C b r gr aT aD aW D P h T Q h λ_=>True:=#[T,Q,H,I,hb,zVb,trivial]
 let bK:∀h',ow->zx9 h':=λh' e=>B.keep e;let#[w1,ae,g1,i1,l1]:=KJ seK B.rh.k s
 let m1:Qv jog qv6 h=sO ((gL K s).map seW,ae,h):=by
  let f1:=H.fld.1;let f2:=B.rh.fld.2.1;let md:=B.rh.k.d;unfold Qv;simp[f1,f2,md,g1,i1]
 let#[an,S,e1,#[x3,x4,rfl],S1]:=Qad O (src:=ae) (bt:=Zn 3) (mo:=Qb 0) (ms:=jr7) qoi (f:=seW) (ys:=Ĭ K) qK8 (λo g=>.kp g th) zLb jgb (λh' e _=>l1 h' λa L=>e a (B.lt.2.2.1 a L)) #[nO,nO,rfl] S0
 obtain⟨N,h2,e2,⟨y3,y4,rfl⟩,S2⟩:∃N h2,ZM (ZA jof) vZ (JI C Cr) RV S=ſ N h2/\zcd N/\St9 γ US C b r gr aT aD aW D P h T Q h2 λT=>jl2/\∀o∈Ĭ D,SN:=by
  let al:=S1.more hb bS;let#[T1,Q1,H1,I1,ay,aw,x1]:=S1;let am:=H1.more bS;show qQi H1;let gm:=Qcj (v:=İ S) seK am.d (k:=s);cases q:gAt D s with
  | none=>
   rw[q]at gm;let eg:Ĭ D=[]:=Hw q
   refine#[zg t x3 x4,S++[Ť],?_,qE,?_]
   ·let lv:live (sO (.d S.length)) [] (S++zPd):=λz hz=>by cases hz;show#[[],Ê,rfl]
    unfold ZM ZA;simp[f,Z9,md]at gm ⊢;simp[gm,Jf,lv]
   ·let#[T1,Q1,b1,b2,b3,b4,b5]:=al;show#[T1,Q1,b1,b2,b3,b4,b5,by rw[eg];simp]
  | some p=>
   rw[q]at gm;let hm:=Zv q;let eg:Ĭ D=p.2:=Hw q
   let g:(S++zPd)[p.1]?=qFb:=am.d.o _ hm;let au:h[p.1]?=qFb:=H.d.o _ hm;let ar:p.1∈u4:=ϧ (kP #[_,hm,rfl])
   let em:ZA jof RV S=sO ((gL D s).map seW,xci,S++[Ť]):=by
    unfold ZA;simp[f,Z9,md]at gm ⊢;simp[gm,g,eoD,eg,EA]
   let#[N,h2,e,c,S2]:=Qad O (src:=xci) (bt:=Zn 3) (mo:=Qb 0) (ms:=jr7) (λT y m x=>#[trivial,qd1]) (f:=seW) (ys:=Ĭ D) qK8 (λo g=>by let#[s1,l,hr,h']:=I.sD s o g;show .un hr h' th) zLb jgb (λh' _ e z hz=>by
    cases hz;refine#[_,(e _ ar).trans au,?_]
    rw[eg];simp[EA]) (#[x3,x4,rfl]:zcd RV) al
   refine#[N,h2,?_,c,S2];unfold ZM;rw[em];show e
 obtain⟨M,G,e3,⟨z3,z4,rfl⟩,S3⟩:∃M G,ZM (Qv joh) qEd (Jx C Cr) zE0 h2=ſ M G/\zcd M/\St9 γ US C b r gr aT aD aW D P h T Q G λT=>(jl2/\∀o∈Ĭ D,SN)/\∀q∈gL Wr s,sO (q.1,s)∈gL T q.2:=by
  let#[T2,Q2,H2,I2,ax,ai,x2]:=id S2;let B2:=bK h2 ai.lo;let#[w3,ab,g3,i3,l3]:=KJ seK B2.rh.w s
  let m3:Qv joh zE0 h2=sO ((gL Wr s).map Qbf,ab,h2):=by
   let f1:=H2.fld.1;let f2:=B2.rh.fld.2.2.1;let md:=B2.rh.w.d;unfold Qv;simp[f1,f2,md,g3,i3]
  let#[M,G,e,s3,S3]:=Qad O (src:=ab) (bt:=VC [4,3]) (mo:=Qb 0) (ms:=Qa ă jb7) (λT y m x=>#[#[trivial,λo g=>Ō m (x.1.2 o g)],qd1]) (f:=Qbf) (ys:=gL Wr s) (λq=>(q.2,sO (q.1,s))) (λq hq=>.wr (l:=q.1) hq th) zLb (λq _ σ h #[x3,x4,e]=>by show ϑ e #[zg t (sO (seW q.2)) (sO (.int q.1)),rfl,qE,rfl,by simp[thW,Qbf]]) (λh' e _=>l3 h' λa L=>(e a qs8).trans (ai.lo a qs8).symm) (#[y3,y4,rfl]:zcd zE0) S2;refine#[M,G,?_,s3,S3];unfold ZM;show ī m3 e
 let#[T3,Q3,H3,I3,aj,j,#[#[_,x1],x2],ao]:=S3;let X3:zvb T3 D Q3:=jd0 X j
 let fin:∀{h':MH} {y:TG} {A:DG} {Q':ő},zvb y A Q'->jkb->(∀o∈Ĭ A,t∈gL y o)->(∀l c,t=zD->∀o∈bJ,o∈gL A c)->jU6:=λ{h' y A Q'} X mo Y Z=>#[λs' o g t' aq=>by
  rcases X.ti s' o g t' aq with q|q|q
  show š q
  ·cases q;show Ũ (õ (Y o g))
  show Ζ (õ q),λs' t' hp=>by
  rcases X.pd s' t' hp with q|q
  ·cases q;show Ũ #[λo g=>mo _ _ (x1 o g),λl o g=>mo _ _ (ao (l,o) g),λl c o e g=>Z l c e o g]
  show Ŗ q]
 let ak:ZM (Qv jog) vZ (Ju C Cr) qv6 h=sO (Ĕ RV S):=by
  unfold ZM;show ī m1 e1
 cases t with
 |none=>
  refine#[G,T3,D,Q3,GE (QG ak (QG e2 (QG e3 (Sr G (by let q:=QbE (t:=nO) (h:=G);simp[q]))))),H3,I3,aj,j.lo,j.mo,fin (h':=G) X3 zp5 x2 λl c e=>jy e]
 | some p=>
  show Ď l c p;let B3:=bK G j.lo;let#[w4,aa,g4,i4,l4]:=KJ slK B3.rh.u (s,l)
  let m4:Qv (jFj (zs5 (ZR Cr "unwrapped"))) jZj G=sO (ql3,aa,G):=by
   let f1:=H3.fld.1;let f2:=B3.rh.fld.2.2.2;let md:=B3.rh.u.d;unfold slW at g4;unfold Qv;simp[f1,f2,md,g4,i4,thW,Qbf]
  let#[av,h4,e4,v3,v4,T4,D4,Q4,rfl,c1,c2,c3,c4,c5,c6,c7,c8]:=Kh (f:=seW) (src:=aa) (items:=ql3) (b:=Zn 3) (body:=Jw C Cr) (xs:=bJ) (λd σ h'=>∃(v3 v4:ê) (y:TG) (A:DG) (Q':ő),σ=jg0/\jC1/\qde/\cG/\(∀a<b,lM=G[a]?)/\jkb/\Clo γ y A Q' P (sO (s,zD))/\(∀o∈Ĭ A,zD∈gL y o)/\∀o∈d,o∈gL A c)
   (λd σ h' #[_,_,_,_,_,_,_,_,_,e,_]=>l4 h' λa L=>e a (B.lt.2.2.2.2 a L)) (by
    rintro d o rr hd σ h' ⟨v3,v4,y,A,Q',rfl,c1,c2,c3,c4,c5,c6,c7,c8⟩
    let ap:o∈bJ:=tG
    let#[h5,T5,D5,Q5,e5,a1,a2,a3,a4,a5,a6,a7,a8,a9]:=QfT O c1 c2 c3 (s1:=s) (s2:=c) (o:=o) (l:=l) ap th;refine#[_,rfl,zg jY9 (sO (seW o)) v4,h5,?_,_,_,T5,D5,Q5,rfl,a1,a2,a3,λa L=>(a4 a L).trans (c4 a L),λs t h=>Ō a5 (c5 s t h),?_,?_,?_]
    ·refine VY ((Qde (as:=[seW c,seW o]) c1.i rfl rfl ?_ rfl).trans e5);simp[thW,Qbf]
    ·refine c6.step a5 a6 a7 (λk v h=>(a8 k v).mpr uG) (Ï k v h)
     show zzc a8 k v h
     show š q
     ·by_cases z:v∈B8 A
      show š z
      ·show .inr λt ht=>a9 z t ht
    ·intro o' ah
     rcases(a8 s o').mp ah with q|⟨rfl,rfl⟩
     ·show Ō a5 (c7 o' q)
     ·by_cases z:o'∈Ĭ A
      ·show Ō a5 (c7 o' z)
      ·show a9 z _ (c5 _ _ (j.mo _ _ ht))
    ·intro o' ah
     rcases NG.mp ah with q|q
     ·show(a8 c o').mpr (đ (c8 o' q))
     ·show(a8 c o').mpr (ϭ #[rfl,ĸ q])) (gL U (s,l)) [] rfl jZj G #[z3,z4,T3,D,Q3,rfl,H3,I3,aj,Ŕ,jq h,X3,x2,Ê]
  refine#[h4,T4,D4,Q4,GE (σ1:=jg0) (QG ak (QG e2 (QG e3 (G8 (h1:=G) (by let q:=QbE (t:=zD) (h:=G);simp[q]) ?_)))),c1,c2,c3,λa L=>(c4 a L).trans (j.lo a L),λs t h=>Ō c5 (j.mo s t h),fin (h':=h4) c6 c5 c7 λl' s' e o g=>by cases e;show c8 o g];unfold ZM;show ī m4 e4
#print"-"
def Qhm{C:Addr}{f:Str}{mv:ME}{σ:MSt}{h0 l:MH}{fs:ž W}{o:MO}(b:∀h,mv σ h=sO (İ h,h++[o]))(g:σ[0]?=sO (sO Sk))(c:tx) :
  Xu C f î mv σ (h0++.ins C fs::l)=sO (Ĕ σ (h0++.ins C (Gx f (Ġ (h0.length+1+l.length)) fs)::(l++[o]))):=by
 let e:(zy5++[o])[h0.length]?=sO (.ins C fs):=Ê
 let d:YL C jz5 Sk=sO fs:=by
  unfold YL;show j9 e;simp
 let a:Qb 0 σ jz5=sO (İ h0,zy5++[o]):=by unfold Qb;rw[g]
 unfold Xu;rw[b,Nv,a,Nv];unfold Ww;simp only[d,Nv];rw[Ð c];simp[LO,Nat.add_left_comm]
def KP(σ:MSt)(h:MH):Z9 σ h=sO (İ h,qr2):=rfl
def Qb3(σ:MSt)(h:MH):mFn Yf Qe σ h=sO (İ h,h++[ś]):=Ê
def QbT{C:Addr}{h0:MH}{σ:MSt}:Wl C 1 (QQ C) Qe σ h0=sO (İ h0,h0++zr5):=by
 let e:QQ C [İ h0] ze=sO (.non,h0++zr5):=by
  refine GE (σ1:=[sO Sk]) (QG (Qhm (Qb3 _) rfl à) (QG zu7 (QG zu7 (qb6 zPf))));simp[Gx,FJ]
 apply(if js5 then(QQ C [İ h0] ze).bind _ else nO)=_;rw[if_pos (show js5 from rfl),e];rfl
def QaS{C:Addr}{h0:MH}{r:Nat}{σ:MSt}(f:Qb 0 σ h0=uF r h0):Wl C 2 (QK C) Sy σ h0=sO (İ h0,h0++zm3):=by
 let e:QK C jC2 ze=sO (.non,h0++zm3):=by
  let b:Xu C "rules" î ñ zgf ze=sO (Ĕ zgf (h0++[.ins C [jxb]])):=by
   let d:YL C (h0++[MO.ins C []]) Sk=sO []:=by
    unfold YL;simp
   unfold Xu Ww;simp[Qb,d,Gx]
  refine GE (σ1:=zgf) (QG b (QG (Qhm zPf rfl Ç) (QG zu7 (qb6 (Qb3 _)))));simp[Gx,FJ]
 let c:Qa î Qe σ h0=sO ([Ã r],h0):=by
  unfold Qa;rw[f];rfl
 unfold Wl;rw[c,Nv];apply(if([Ã r]:À W).length+1=2 then(QK C jC2 ze).bind _ else nO)=_;rw[if_pos (show([W.ref r]:À W).length+1=2 from rfl),e];rfl
def WM{κ ι:Type}{ek:κ->W}{a:ι->MO}{h:MH}{T:Nat}(e:h[T]?=sO bS):MM ek a h T ([]:Cb):=#[e,Ê,Ê,Ê]
def ne9{n k j:Nat}(h:k≠j):n+k≠n+j:=λe=>h (Nat.add_left_cancel e)
def QbA{C:Addr}{h0:MH}{r:Nat}:GH C h0.length (h0++zm3) r h0.length (uf h0) bL bM [] [] []:=by
 show zs1 b h0
 refine#[b 0 _,WM (b 1 _),WM (b 2 _),b 3 _,qb7,Ò a c,Ò a c,yg,Ê,Ê]
 show Au c #[ne9 (k:=1) (j:=0) à,SO,ii,yg]
 show Au c #[jW7,SO,yg]
def Um{κ ι:Type}{k:κ}{v:ι}:v∉gL ([]:jc) k:=by
 intro h;let#[e,a,_]:=QgS h;cases a
section
variable{US:Ī}{C Cr:Addr}{b:Nat}{h:MH}{r gr aT aD aW:Nat}{T:TG}{D:DG}{Q P:ő}{n aE aK aV aU:Nat}{E:Ī}{K:KR}{Wr:WR}{U:UR}
noncomputable abbrev wS(r gr:Nat)(c a:ê):MSt:=[ō r,sO jQ,c,a]
def Qd8(O:zN5):∀(m:Nat) (P:ő) (h:MH) (T:TG) (D:DG) (Q:ő) (l L:ê) (f:Nat),5121601<=P.length+m->m<f->zx9 h->qf->fH γ T Q->MR->Clo γ T D Q P nO ->
  ∃h' N D' P' c,QV (Uq (mUn (ZR C "waiting") ñ)) (JU C Cr) f (wS r gr l L) h=sO (Ĕ (wS r gr l c) h')/\GH C b h' r gr aT aD aW N D' []/\IV γ US N D' [] P'/\Clo γ N D' [] P' nO/\(S7 N):=by
 intro m
 induction m with
 |zero=>
  intro P h T D Q l L f G _ B H I hb X;let:=(Qjj O H I).2.2.2.2;rw[NA]at this;show û (Nd G (Nd (Nn P.length Q.length) this)) à
 | succ m ih=>
  intro P h T D Q l L f G hf B H I hb X;let#[f,rfl]:=Nat.exists_eq_add_one_of_ne_zero (EF (Np ě hf));let fw:=xcd;let hw:=H.w
  by_cases q:Q=[]
  ·show ϑ q #[h,T,D,P,L,K4 qoj,H,I,X,jq h]
  ·obtain⟨Q0,⟨s,t⟩,rfl⟩:∃Q0 p,Q=Q0++[p]:=zwd Q q
   let A:=Ve hw;let M:∀a,kS->(h.set aW zq9)[a]?=h[a]?:=iG j A
   let H1:yD (h.set aW zq9) T D Q0:=#[by rw[M _ H.gw];show H.i,H.t.frame λa j=>M a (H.dT a j).2.1,H.d.frame λa j=>M a (H.dD a j).2.1,oI A,H.gw,H.dT,H.dD,H.bw,H.nT,H.nD]
   let S:jS:=(I.mem s t).mp Ç
   let I1:IV γ US T D Q0 gb:=by
    let p:(gb++Q0).Perm (P++(Q0++rN)):=by
     rw[Eh];show DJ P DK
    show#[I.sT,I.sD,p.nodup_iff.mpr I.nd,λx u=>by rw[p.mem_iff];show I.mem x u,I.kT,I.kD]
   let X1:Clo γ T D Q0 gb qBj:=by
    refine#[λx o ho u ab=>?_,Ï x u G]
    ·rcases X.ti x o ho u ab with z|z|z
     ·show ů z y
      show ja y (đ jvd)
     ·cases z
     show Ζ jdc
    ·show ů G y
     ·rcases X.pd x u y with z|z
      ·cases z
      show Ŗ z
     ·show yw jvd
   let af:b<=(h.set aW zq9).length:=by rw[EW];show hb
   let B1:=B.keep λa j=>M a λe=>absurd H.bw (E4.mpr (e▸j));let#[h2,T2,D2,Q2,e2,H2,I2,ae,aa,Z,X2]:=Uu O B1 H1 I1 af S X1;let#[h3,T3,D3,P3,c,e3,H3,I3,X3,Y]:=ih gb h2 T2 D2 Q2 l (sO zJf) f (by rw[NA,N1,FJ,LO 1 m];show G) (Nat.lt_of_succ_lt_succ hf) (B1.keep aa) H2 I2 ae X2;refine#[h3,T3,D3,P3,c,?_,H3,I3,X3,λs t h=>Y s t (Z s t h)];let g:(Q0.map wtW++[zag])[(Q0.map wtW++[zag]).length-1]?=sO zJf:=Ê
   let ep:Qfl (.ref aW) [] h=sO (zag,jSj):=by
    unfold Qfl;simp only[hw,Ec,NH,ET,g,EY,List.dropLast_concat]
   rw[Xy (σ2:=wS r gr l (sO zJf)) (h2:=h2) qoj (QG (Qw (v:=zag) (h1:=jSj) (by simp[fw,hw,ep])) (VY ((Qde (as:=qQh) H1.i rfl rfl (by simp[wtW]) rfl).trans e2)))];show e3
def QaK(O:zN5)(H0:RH Cr n h r aE aK aV aU E K Wr U) :
  ∃h' aT T,ZZ C Cr [Ã r] h=sO (zdh,h')/\wU h'/\(∀e∈T,MQ)/\(∀e∈T,zc4)/\∀s t,jS↔ϥ γ:=by
 let B0:RB Cr n h.length h r aE aK aV aU E K Wr U:=#[H0,Ve H0.i,Ve H0.e,H0.k.lt,H0.w.lt,H0.u.lt]
 let gn:=QaS (C:=C) (h0:=h) (r:=r) (σ:=[ō r,nO,nO,nO]) rfl;let G0:=QbA (C:=C) (h0:=h) (r:=r);let B1:=B0.keep (h':=h++[.ins C (xgg h),Ť,Ť,ś]) λa ha=>NM ha;let x:h.length<=(h++jxc).length:=by rw[NA];show yg
 generalize h++jxc=y at *;let I0:IV γ US [] [] [] []:=#[zC3,zC3,Dd,zXg #[λh=>xd0,λh=>xcj],Ê,Ê]
 let X0:Clo γ [] [] [] [] nO:=#[zC3,λ_ _ h=>xd0]
 let#[L,H,e2,#[d,rfl],T2,I,H2,I2,v,c,_,A]:=Qad (C:=C) (b:=h.length) (r:=r) (gr:=h.length) (aT:=CB) (aD:=h.length+2) (aW:=h.length+3) (D:=[]) (P:=[]) O (X:=λ_=>True) (src:=sO (.l aE)) (bt:=Zn 2) (mo:=Qb 1) (ms:=Qa þ (ã fi)) qoi (f:=seW) (ys:=E) (λs=>(s,nO)) (λs Y=>.en Y) (λg=>∃d,g=wS r h.length d nO) (λs _ g h #[d,e]=>by show ϑ e #[_,rfl,Ħ,rfl,rfl]) (λh' e _ z S=>by
  cases S;apply h'[aE]?=_
  rw[e _ B1.lt.2.1];show B1.rh.e) qWj #[[],[],G0,I0,x,zVb,trivial]
 let X2:Clo γ T2 [] I [] nO:=jd0 X0 c;let#[h3,G,D3,P3,x3,e3,H3,I3,X3,j]:=Qd8 (b:=h.length) O 5121601 [] H T2 [] I d nO 20000000 Ç à (B1.keep c.lo) H2 I2 v X2;refine#[h3,CB,G,?_,H3.t,H3.nT,I3.kT,ş s t #[I3.sT s t,æ a]]
 ·let N:Qv (ϵ qFc) jc9 y=sO (zah,sO (.l aE),y):=by
   let f1:=B1.rh.fld.1;let Z:=B1.rh.e;unfold Qv;simp[f1,VE,Z]
  let ef:ZM (Qv (ϵ qFc)) pw (JZ C Cr) jc9 y=sO (Ĕ (wS r h.length d nO) H):=by
   unfold ZM;show ī N e2
  refine UX (QG (Qw gn) (QG ef (QG e3 ?_)));let f:=H3.fld.2.1;simp[f]
 ·let B:∀{s t},t∈Ĭ G->Dn γ G D3 s t:=λ{s t} h=>by
   let:=(I3.mem s t).mpr h;rw[Eb]at this
   rcases X3.pd s t this with q|q
   ·cases q
   ·show q
  induction a with
  |en h=>show Ō j (A _ h)
  |kp h a p=>show(B p).1 _ h
  |wr h a p=>show(B p).2.1 _ _ h
  |un h a b o m=>
   let:=(B o).2.2 _ _ _ rfl h
   rcases X3.ti _ _ this _ m with q|q|q
   ·cases q
   ·cases q
   ·show q
#print"-"
def Wj{ls:Ģ}{k:Nat}{c:Cd}{j a:Nat}(B:qX0)(b:Beh ls k c a):j=a:=by
 rcases Fm j a with h|h|h
 ·show qX1 B b j
 ·show h
 ·show qX1 b B a
def QfM{ls:Ģ}{k j a:Nat}(A:Ahd ls k j)(b:Ahd ls k a):j=a:=by
 rcases Fm j a with h|h|h
 ·show absurd b.lv (A.no a h b.lt)
 ·show h
 ·show absurd A.lv (b.no j h A.lt)
abbrev sg(g k:Nat):Nat:=if k<g then k else k+1
abbrev ta(g k:Nat):Nat:=if k<=g then k else k+1
def sg1{g k:Nat}:ta g (k+1)=A6+1:=by unfold ta sg;split<;>split<;>omega
def QcV{g j k:Nat}(h:A7=A6):j=k:=jmj
def QkW{g k:Nat}:A6≠g:=by unfold sg;split<;>omega
def Qmt{g j k:Nat}(h:j<k):A7<A6:=by unfold sg;split<;>split<;>omega
def Qef{g i:Nat}(h:i≠g):∃j,i=A7:=by
 by_cases z:i<g
 show Š #[i,by unfold sg;rw[Ð z]]
 ·cases i with
  |zero=>show û (Er ě gF) h
  |succ j=>show#[j,by unfold sg;rw[if_neg (PD (IQ.mp (F0 gF (EO h))))]]
def WX{g j k:Nat}(h:A7<A6):j<k:=jmj
abbrev ins(g:Nat)(l:a)(ls:À a):À a:=ls.take g++l::ls.drop g
def Wc{g:Nat}{l:a}{ls:À a}:(ins g l ls).length=ls.length+1:=by
 let:=RP (Ej g ls);rw[NA]at this;unfold ins;rw[NA,NO];omega
def Gb{g:Nat}{l:a}{ls:À a}(f:a->b):(ins g l ls).map f=ins g (f l) (ls.map f):=by simp[ins]
def QfG{g:Nat}{l:a}{ls:À a}(h:vy):(ins g l ls)[g]?=sO l:=by
 unfold ins;rw[Ei qhd,N4,Dg h,II];rfl
def W3{g k:Nat}{l:a}{ls:À a}(h:vy):(ins g l ls)[A6]?=px:=by
 unfold ins sg;let e:(ls.take g).length=g:=by rw[N4,Dg h]
 by_cases z:k<g
 ·rw[Ð z,NM É,LK z]
 ·rw[Í z,Ei É,e,show k+1-g=(k-g)+1 by omega,F7,Li,show g+(k-g)=k by omega]
section
variable{ls:Ģ}{g k j:Nat}
def Ys(h:vy):∀{j:Nat},j<=g->lev M6 j=ğ j:=by
 intro j
 induction j with
 |zero=>
  show zX1
 |succ j b=>
  intro a;let e:=qp0;let c:A7=j:=by unfold sg;show jA (show j<g from a)
  rw[c]at e;rw[lev,lev,b (Nat.le_of_succ_le a),e]
def QgJ(h:vy):∀{j:Nat},g<=j->lev M6 (j+1)=ğ j:=by
 intro j
 induction j with
 |zero=>
  intro a;let c:g=0:=Nat.le_zero.mp a;subst c;let e:(ins 0 Cd.ot ls)[0]?=sO .ot:=QfG h;simp[lev,e,ch]
 | succ j b=>
  intro a
  by_cases z:j+1=g
  ·rw[lev,<-z,show(ins (j+1) Cd.ot ls)[j+1]?=sO .ot from QfG É,Ys É ÿ];simp[ch]
  ·let e:=qp0;let d:A7=j+1:=by unfold sg;rw[if_neg É]
   rw[d]at e;rw[lev,b É,e];rfl
def Xt(h:vy):lev M6 zVc=ğ j:=by
 unfold sg;split
 ·rename_i z;show Ys h (NF z)
 show qc4
def Uv(h:vy):lev M6 (A7+1)=ğ (j+1):=by
 unfold sg;split
 ·rename_i z;show Ys h z
 show qc4
def Qh1{c:Cd}(h:vy)(f:c≠.ot)(B:qX0):Beh M6 (sg g k) c zVc:=by
 refine#[Qmt B.lt,by rw[W3 h];show B.at_,by rw[Xt h,Uv h];show B.lv,Ę i b a d,zp8]
 ·show oU
  ·rw[z,QfG h];show λe=>f (NY e).symm
  ·show zI7;rw[Xt h,Uv h]at d;rw[W3 h];show B.no i zVd (WX a) d
 ·rw[Uv h]
  show oU
  ·rw[z,qja];refine B.ge g ?_ ?_
   show qq9 b
   show qq9 a
  ·show jKc B j
   show jRc
def QiB(h:vy)(A:Ahd ls k j):Ahd M6 (sg g k) zVc:=by
 let mid:∀i,i=g->A7<i->i<A6->j<g/\g<=k:=λi e b a=>by
  subst e;unfold sg at b a;split at b<;>split at a<;>omega
 refine#[Qmt A.lt,by rw[Xt h,Xt h];show A.lv,zp8,zp8]
 ·rw[Xt h]
  show oU
  ·show jt4 a
   show Ā q g k
   ·rw[q];omega
   ·show A.no g c É
  ·show zI7;rw[Xt h];show A.no i zVd (WX a)
 ·rw[Xt h]
  show oU
  ·show jt4 (F0 a λe=>QkW (za2 e z));show A.ge g c d
  ·show jKc A k
   show jRc
#print"-"
abbrev Tg(p:Ó)(s:Spt)(L:Ý):Prop:=∃x,t4/\(match s.head,kw with
 |true,_=>∃en,jVe/\L=[qdf,iL]
 |false,nO=>(s.way=[]/\L=[])\/∃r q,s.way=zf2/\L=[nG]
 |false,sO l=>match cdL l with
  |.ei=>∃a,Beh H9 s.k .oo a/\L=[iL,#[s.way,s.part,a+1,false]]
  |.ag=>L=[#[s.way,s.part,s.k,true]]
  |.oo=>∃en,jVe/\L=[qdf]
  |.en=>∃fs c,Ahd H9 s.k fs/\(x.2[fs]?).map cdL=sO c/\L=[if c=.ag then#[s.way,s.part,fs,true]else iL]
  |.ot=>∃u,(if CV then(QdD p l).map (λj=>(#[s.way++[qW1],j,0,false]:Spt))else sO iL)=sO u/\L=[u])
def Qmf{p:Ó}{s:Spt}{L:Ý}(a:lc):Tg p s L:=by
 cases a with
 |head b c d B=>show#[_,b,_,B,rfl]
 |fin0 hw b c=>refine iY;show(j9 c,ø #[hw,True.intro])
 |fin hw b c=>refine iY;show(j9 c,Ũ #[_,_,hw,rfl])
 |ei b c d B=>show xT qYf
 |ag b c d=>refine iY;simp only[c,d]
 |oo b c d B=>show xT qYf
 |enA b c d A f e=>show xT #[_,.ag,A,qQj,rfl]
 |enE b c d A f e=>show xT #[_,.ei,A,qQj,rfl]
 |dd b c d hd g=>show xT #[_,by rw[za9,g];rfl,rfl]
 |ot b c d hd=>show xT #[_,by rw[hd];rfl,rfl]
def Qjd{p:Ó}{s:Spt}{L m:Ý}(a:Tg p s L)(b:Tg p s m):L=m:=by
 show(pI x n a,pI t h b,ä n h);revert a b;generalize s.head=hd;generalize kw=ol;cases hd with
 |true=>show zv7
 | false=>
  cases ol with
  |none=>
   rintro(⟨g,rfl⟩|⟨r,q,g,rfl⟩) (⟨d,rfl⟩|⟨w,y,d,rfl⟩)
   ·rfl
   ·rw[g]at d;simp at d
   ·rw[g]at d;simp at d
   ·rw[g]at d;let#[rfl,e]:=YaG d rfl;cases e;rfl
  | some l=>
   simp only;generalize cdL l=c;cases c with
   |ei=>show zv7
   |ag=>rintro rfl rfl;rfl
   |oo=>show zv7
   |en=>
    rintro⟨f,c,A,g,rfl⟩ ⟨z,C,o,d,rfl⟩
    let:=QfM A o;subst this;show ä g d;rfl
   |ot=>
    rintro⟨u,g,rfl⟩ ⟨v,d,rfl⟩
    show ä g d;rfl
abbrev pin(g:Nat)(a:Ln):Ó->Ó
 |[]=>[]
 |x::r=>(x.1,ins g a x.2)::r
abbrev fq(g i k:Nat):Nat:=if i=0 then A6 else k
abbrev ft(g i k:Nat):Nat:=if i=0 then ta g k else k
def ft1{g i k:Nat}:ft g i (k+1)=zc6+1:=by unfold ft fq;split;show sg1;rfl
def Qgd{g i j k:Nat}(h:fq g i j=zc6):j=k:=by unfold fq at h;split at h;show(QcV h,h)
abbrev mvQ(g:Nat)(q:Œ):Œ:=(q.1,fq g q.1 q.2)
def QhI{g:Nat}{a b:Œ}(h:mvQ g a=mvQ g b):a=b:=by
 show jw1;unfold mvQ at h;show iV h;rw[Qgd h]
abbrev Dp(g:Nat)(s:Spt):Spt:=#[rf,s.part,qIc,s.head]
abbrev Ap(g:Nat)(s:Spt):Spt:=#[rf,s.part,if MN then qIc else ft g s.part s.k,s.head]
def QiL{g:Nat}{a b:Ĉ}(h:a.map zce=qM):a=b:=(Yap λ_ _ e=>QhI e).mp h
def QgQ{g:Nat}{s t:Spt}(h:ue=zfe):s=t:=by
 show(jzi,ŧ d f e j t);unfold Dp at h;simp only[Spt.mk.injEq]at h;let#[c,rfl,a,rfl]:=h;rw[QiL c,Qgd a]
def Qpc{g i k:Nat}(h:ft g i k≠zc6):i=0/\k=g:=by
 unfold ft fq at h;split at h
 ·rename_i z;unfold ta sg at h;show(lU z,zve)
 ·show y0 h
def WC{g:Nat}{s:Spt}(h:HZ):s.part=0/\s.k=g/\zN0:=by
 show jzi;cases b with
 |true=>show y0 h
 |false=>
  let:=Qpc (g:=g) (i:=i) (k:=k) λe=>h (by unfold Ap Dp;simp[e]);show#[this.1,this.2,rfl]
def KS{g:Nat}{s:Spt}(h1:s.part=0)(h2:s.k=g)(a:zN0):Pb=#[rf,0,g,false]/\ue=#[rf,0,g+1,false]:=by
 unfold Ap Dp fq ft sg ta;rw[h1,h2,a];simp
def Qgp{g:Nat}{a:Ln}{p:Ó}:(pin g a p).map (·.1)=p.map (·.1):=by show A8 p
def pin_do{g:Nat}{a l:Ln}{p:Ó}:QdD (pin g a p) l=QdD p l:=by unfold QdD;rw[Qgp]
structure Pn(p:Ó)(g:Nat)(il:Ln):Prop where
 le:∀x,vw->g<=ï
 ot:cdL il=.ot
 nd:YU il=false
section
variable{p:Ó}{g:Nat}{il:Ln}
def Vt(H:j4){i:Nat}{x:Pt}(d:y6):∃b,(pin g il p)[i]?=sO b/\(∀k,b.2[zc6]?=zd9)/\(∀{k c j},c≠.ot->Beh H9 k c j->Beh (b.2.map cdL) qX2 c qX3)/\(∀{k j},Ahd H9 k j->Ahd (b.2.map cdL) qX2 qX3):=by
 cases p with
 |nil=>cases d
 | cons y r=>
  cases i with
  |zero=>
   cases(d);let e:=H.le _ rfl;let a:g<=(x.2.map cdL).length:=M9 e
   refine#[_,rfl,λk=>W3 e,Ò f B,æ A]
   ·apply Beh (zF7 x) _ _ _;rw[Gb,H.ot];show Qh1 a f B
   ·apply Ahd (zF7 x) _ _;rw[Gb,H.ot];show QiB a A
  |succ i=>show#[x,d,ς,λ_ B=>B,λA=>A]
def QiS(H:j4){s:Spt}{L:Ý}(a:lc):Nx Ő zba (L.map ja3):=by
 cases a with
 |@head b part k en x l f h i B=>
  show Bp;let:=Nx.head (way:=qM) c BB i zp3;show qs9
 |@fin0 b part k x hw f h=>
  show Bp;show .fin0 (by rw[hw];rfl) c BB
 |@fin b r q part k x hw f h=>
  show Bp;let:=Nx.fin (way:=qM) (r:=r.map zce) (q:=mvQ g q) (by rw[hw];simp) c BB;let e:(mvQ g q).2+1=ft g q.1 qLj:=ft1.symm;show sF e
 |@ei b part k y x l f h i B=>
  show Bp;let:=Nx.ei (way:=qM) c BB i zp3;show qs9
 |@ag b part k x l f h i=>
  show(Bp,.ag c BB i)
 |@oo b part k en x l f h i B=>
  show Bp;let:=Nx.oo (way:=qM) c BB i zp3;show zE1
 |@enA b part k fs x l v f h i A u t=>
  show(Bp,.enA c BB i (n A) qyf t)
 |@enE b part k fs x l v f h i A u t=>
  show Bp;let:=Nx.enE (way:=qM) c BB i (n A) qyf t;show zE1
 | @dd b part k j x l f h i hd w=>
  show Bp;let:=Nx.dd (way:=qM) c BB i hd (pin_do.trans w)
  let e:([#[b++[(part,k)],j,0,false]]:Ý).map ja3=[#[qM++[(part,fq g part k)],j,0,false]]:=by
   let:ft g j 0=0:=by unfold ft ta;simp
   simp[Ap,mvQ,this]
  rw[e];show this
 |@ot b part k x l f h i hd=>
  show Bp;let:=Nx.ot (way:=qM) c BB i hd;show zE1
def Qli(H:j4){x:Pt}(b:vw):∃a,qqa/\a.2[g]?=sO il:=by
 cases p with
 |nil=>cases b
 |cons y r=>show ß b #[_,rfl,QfG (H.le _ rfl)]
def Qdk(H:j4){x:Pt}(b:vw){s:Spt}(h:HZ):Nx Ő sX [ue]:=by
 show PK f e d h;let#[j,i]:=KS f e d;let#[l,a,c]:=Qli H b;rw[j,i];show .ot a c H.ot H.nd
variable{bs ws bs' ws':Á}
def Jv(a:Ă){s:Spt}(h:Ϡ):yZ:=by
 induction h with
 |start=>show rc0 a
 |step h c b=>show Qjw a b c
def QaV(b:Ă){s:Spt}{L:Ý}(h:Ϡ)(a:lc):pe=L:=Qjd (Qmf qf0) (Qmf a)
def Vs(c:Ă)(a:xU)(H:j4){s:Spt}(h:jg1):Reach Ő zba:=by
 by_cases z:Pb=ue
 ·show PN z h
 ·obtain⟨x,b⟩:zj0:=zD4 c
  show .step h (by rw[QaV a h (Qdk H b z)];show Nq.mpr rfl)
def JD(b:Ă)(a:xU)(H:j4){s:Spt}(h:Ϡ):jg1:=by
 induction h with
 |start=>show .start
 |@step s t h d c=>
  let r:=Vs b a H c;show .step r (by rw[QaV a r (zE4 b h)];show N3 d)
def Yt(d:Ă)(b:xU)(H:j4){x:Spt}(h:Reach Ő x):∃s,Ϡ/\(x=ue\/(x=Pb/\HZ)):=by
 let ap:∀{t},Pf t->∃s,Ϡ/\(Pv=ue\/(Pv=Pb/\HZ)):=λ{t} a=>by
  by_cases z:Pv=zfe
  show jd #[t,a,Ø z] #[t,a,å zi3]
 induction h with
 |start=>show ap .start
 | @step y t h a e=>
  obtain⟨s,c,rfl|⟨rfl,z⟩⟩:=e
  ·rw[QaV b h (zE4 d c)]at a;let#[u,hu,rfl]:=uo a;show ap (.step c hu)
  ·obtain⟨x,f⟩:zj0:=zD4 d
   rw[QaV b h (Qdk H f z),Nq]at a;show#[s,c,Ø a]
#print"-"
def Qai(ks:Á):∃d:Á,BV d/\lZ d=true:=by
 refine#[ks.mergeSort (λa b=>jZ7),Yac _ _,?_];refine' sortedS_of_pairwise
 let:=L7 (le:=λa b:Str=>jZ7) (λa b c f e=>by
  show(qX4,List.le_trans f e)) (λa b=>by
  show qdg
  show List.le_total _ _) ks
 show this.imp λh=>St.le_of_lt.mpr zhc
abbrev cm(pl:ϡ)(t:Spt):Bool:=match pl with
 |none=>false
 |Û q=>!t.head&&decide (qFd q)
abbrev EgN(p:Ó)(out:Ý)(pl:ϡ):Egs:=λn l m c=>vm/\∃t∈nx p AA,m=vq/\qg6/\c=ja4
section
variable{p:Ó}{out:Ý}{bs ws:Á}
def Kf(A:ϊ){n:Nat}(h:vm):ixS out AA=n:=by
 let a:=QaT h;let e:sq out n=out[n]:=by rw[Nj h]at a;show(NY a).symm
 unfold ixS;rw[e];show A.nd.idxOf_getElem n h
def Kj(A:ϊ)(h:Ϡ):zdf:=by
 induction h with
 |start=>show A.st
 |step h b a=>show A.cl _ a _ b
def KU{s t:Spt}(b:zdf)(a:pi)(e:zV5=vq):s=t:=by rw[<-XZ b,e,XZ a]
def Qaq(c:Ă)(a:Ų){b:Str}:jqa:=by
 rw[(QiQ c a xw2).2.1];unfold bxs;rw[Ew]
def QfB{s:Spt}{l:Ln}(h:zZi=sO l):zV7:=by
 unfold lnO at h;split at h
 ·cases h
 ·show(ļ x a b h,Ew.mpr #[x,E3 a,E3 b])
#print"-"
inductive Il(B:vN):zX5 where
 |same {x:Str} (h:B x):Il B ["same",x,x]
 |new (h:¬B "new"):Il B qMf
 |tell {x:Str} (h:B x):Il B ["tell",x]
section
variable{p:Ó}{g:Nat}{il:Ln}{out out':Ý}{bs ws bs' ws':Á}
def G3(H:j4){s:Spt}(c:yp s):lnO Ő zba=zZi:=by
 let#[x,b,_]:=c.ex;let#[e,a,d,_]:=Vt H b;unfold lnO Dp;simp only[b,a,Nv,d]
def G6(b:Ă)(H:j4){s:Spt}(z:HZ):lnO Ő sX=sO il:=by
 show PK f d c z;let#[h,a,e]:=Qli H (Nj (Dz.mpr b.ne));rw[(KS f d c).1];unfold lnO;simp only[a,Nv,e];rfl
def Qdm(H:j4)(a:p≠[]){l:Ln}:l∈lns Ő↔zV7\/l=il:=by
 cases p with
 |nil=>show y0 a
 | cons x r=>
  unfold lns pin ins;rw[LF,LF];let:∀l,l∈x.2↔l∈x.2.take g\/l∈x.2.drop g:=λl=>by rw[<-NG,Ej]
  simp only[NG,NI,this];constructor
  ·rintro((h|h|h)|h)
   ·show ø (đ (.inl h))
   show Ŗ h
   ·show ø (đ (õ h))
   ·show ø (õ h)
  ·rintro(((h|h)|h)|h)
   ·show yw uG
   ·show ø (õ (PL h))
   show Ŗ h
   ·show ø (õ uG)
abbrev Cnd(g:Nat)(pl a:ϡ)(b:Bool):Prop:=∀t,(Pv=zfe->qsa=ja4)/\(Pv≠zfe->ja4=(qsa ||b)/\cm a (Dp g t)=b)
abbrev nA(g:Nat)(out out':Ý)(n:Nat):Nat:=ixS out' (Ap g AA)
abbrev nD(g:Nat)(out out':Ý)(n:Nat):Nat:=ixS out' (Dp g AA)
def Qgj(o:Ă)(d:xU)(j:Ų)(ae:cx)(H:j4)(A:ϊ)(A':zy9)(I:Il (·∈Bx p) il){pl L:ϡ}{c2:Bool}(Q:Cnd g pl L c2) :
  Put Cm (qjb L) (·∈Bx p) (·∈Bx Ő) (·<out.length) (nA g out out') (nD g out out') qv7 c2:=by
 let i:jn0:=ql4;let E:jqb:=λh=>Kj A' zE2;let D:jqc:=λh=>Kj A' jYa;let U:∀{n},vm->jM8:=λh=>XZ xd1;let X:∀{n},vm->jM9:=λh=>XZ xd2;let Y:∀{s},Ϡ->nx Ő zba=(nx p s).map ja3:=λh=>QaV d jYa (zE4 o h);let af:zj0:=zD4 o
 let Z:∀{s},Ϡ->HZ->nx Ő sX=[ue]:=λh z=>QaV d zE2 (Qdk H af.choose_spec z);let f:∀{n},vm->(BC n=qJ n↔zN6=zff):=ύ h #[λe=>KU xd2 xd1 e,λe=>by unfold nA nD;rw[e]]
 let num:∀{t},Pf t->jz2/\qcg:=ύ h #[Yn (Kj A h),XZ (Kj A h)]
 let ab:∀{b},jqa:=Qaq o j;let aa:∀{b},qch↔∃l∈lns Ő,zM2:=Qaq d ae
 let sub:∀{b},CW->qch:=λh=>by
  let#[l,hl,j]:=ab.mp h;show aa.mpr #[l,(Qdm H o.ne).mpr (.inl hl),j]
 let r:jL4:=λe b j=>ab.mpr #[_,QfB e,j]
 let up:∀{n l m c},T9->∃M,EgN Ő out' L qa0 l (nA g out out' m) M/\jj0:=by
  show qjc
  let rt:Pf t:=.step (i a) B;let#[n1,N]:=num rt;refine#[cm L qp1,#[Yn xd3,Pv,?_,?_,?_,rfl],æ e,æ e]
  ·rw[U a,Y (i a)];show N3 B
  ·unfold nA;rw[N]
  ·rw[U a,zfg o (i a)]
  ·rw[f n1,N]at e;show(Q t).1 e
  show qFe t
 let bk:∀{x l y M},EgN Ő out' L x l y M->(∃n m c,x=qJ n/\y=BC m/\T9/\jj0)\/(∃m,qW0/\BC m≠qJ m/\x=BC m/\y=qJ m/\l=sO il/\M=c2):=by
  rintro x l y M ⟨hx,t,B,rfl,rfl,rfl⟩
  obtain⟨s,P,e|⟨e,z⟩⟩:=Yt o d H (A'.rch _ (Vu hx))
  ·rw[e,Y P]at B;let#[u,hu,rfl]:=uo B;let ru:Pf u:=.step P hu;let#[n1,N]:=num ru;let#[m1,O]:=num P;refine Ø #[zV5,ixS out u,cm pl u,?_,?_,#[m1,u,by rw[O];show hu,rfl,?_,rfl],æ e,æ e]
   ·unfold nD;rw[O,<-e,Kf A' hx]
   ·unfold nA;rw[N]
   ·rw[e,O,zfg o P]
   ·rw[f n1,N]at e;show(Q u).1 e
   show qFe u
  ·rw[e,Z P z,Nq]at B;let#[m1,O]:=num P;show qd #[zV5,m1,?_,?_,?_,?_,?_]
   ·rw[Ne,f m1,O];show z
   ·unfold nA;rw[O,<-e,Kf A' hx]
   ·unfold nD;rw[O,B]
   ·rw[e,G6 o H z]
   ·rw[B];show((Q s).2 z).2
 let kp:∀{n l m c b G},T9->KpL (·∈Bx Ő) l b G->CW->KpL (·∈Bx p) l b G/\G∈Bx p:=by
  rintro n l m c b G ⟨a,t,B,rfl,rfl,rfl⟩ h j
  rcases h with⟨_,rfl,h⟩|h
  show jd #[Ø (AJ j h),j] #[å h,zY5]
 refine#[?_,up,?_,bk,?_,?_,?_,sub,?_,?_,?_,?_,?_,kp,?_,?_,?_,?_,?_]
 ·show qjc
  show#[a,(num (.step (i a) B)).1]
 ·intro m C z;rw[Ne,f C]at z;refine#[Yn xd4,qMe,?_,rfl,?_,((Q _).2 z).2.symm]
  ·rw[X C,Z (i C) z];show Nq.mpr rfl
  ·rw[X C,G6 o H z]
 ·intro n m a C e;let:=QgQ (KU xd3 xd5 e);show qR0
 ·intro n m a C S z2 e;rw[Ne,f a]at S;rw[Ne,f C]at z2;show(qdh xd4,PK b1 b2 b3 z2)
  let e':zff=qMe:=by
   rw[qId,(KS b1 b2 b3).1]at e;rw[(KS a1 a2 a3).2,(KS b1 b2 b3).2,(Spt.mk.inj e).1]
  let:=QgQ e';show qR0
 ·intro n m a C S e;rw[Ne,f a]at S;show qdh xd5;rw[qId]at e;unfold Dp at e;let#[_,e2,e3,_]:=Spt.mk.inj e;rw[<-e2]at e3;show QkW (show sg g _=g from e3.symm)
 ·intro b j;cases I with
  |@same x h=>
   show Ā q b x
   ·subst q;show yU
   ·show ø #[sub j,rfl,by simp[gvL,gvK];show λe=>q e.symm]
  |new h=>show ø #[sub j,rfl,by simp[gvL,gvK];show λe=>h (e▸j)]
  |tell h=>show ø #[sub j,rfl,by simp[gvL,gvK]]
 ·intro b G h j
  rcases h with⟨_,e,_⟩|h
  ·show e
  ·show(zRj,h.2.symm.trans h.1)
 ·rintro b k G ⟨w,y,z,h,_⟩
  show zRj
 ·rintro b k G (⟨_,h⟩|⟨_,h⟩)<;>cases I<;>simp at h
 ·rintro w G ⟨y,z,h⟩
  show zRj
 ·intro n l m c b G he h
  rcases h with⟨h1,h2⟩|h
  ·show ø #[sub h1,h2]
  show Ŗ h
 ·rintro n l m c b k G ⟨a,t,B,rfl,rfl,rfl⟩ ⟨w,y,z,h,h2⟩
  refine#[r h _ ?_,r h _ zI8]
  rcases h2 with⟨_,rfl⟩|⟨_,rfl⟩<;>simp[bxL]
 ·rintro n l m c b k G ⟨a,t,B,rfl,rfl,rfl⟩ (⟨_,h⟩|⟨_,h⟩)<;>show#[zY5,zY5]
 ·rintro n l m c w G ⟨a,t,B,rfl,rfl,rfl⟩ ⟨y,z,h⟩
  show r h _ zI8
 ·intro x l y M b G he h j
  rcases h with⟨_,rfl,_⟩|h
  ·show j
  ·rcases bk he with⟨n,m,c,rfl,rfl,⟨a,t,B,rfl,e,rfl⟩,_,_⟩|⟨m,C,z,rfl,rfl,e,rfl⟩
   ·rw[h]at e;show r e.symm _ xia
   ·rw[h]at e;cases I<;>simp at e
    rw[e.2,<-e.1];show j
#print"-"
abbrev RS(C:Addr)(r:Nat)(n:Nat)(h:MH)(X:Ÿ):Prop:=∃f d b c E K a U,RH C n h r f d b c E K a U/\∀e,RrG E K a U e↔X e
section
variable{C:Addr}{r n:Nat}{h:MH}{X:Ÿ}
def RS.to(S:vB){m:Nat}(a:n<=m){Y:Ÿ}(e:∀x,X x↔Y x):RS C r m h Y:=by
 let#[f,d,b,c,E,K,g,U,H,q]:=S;show#[f,d,b,c,E,K,g,U,#[H.i,H.e,H.k,H.w,H.u,H.re,H.dK,H.dW,H.dU,Nd Pu a,H.sz.2.1.le a,H.sz.2.2.1.le a,H.sz.2.2.2.le a],λx=>(q x).trans (e x)]
def KY{ms:MA}{m:Str}{k:Nat}{g:FM}{σ:MSt}{as:À W}{h1:MH}{mo:ME}(S:vB)(j:∀d c a b,((rlF d c a b).lookup m).isNone=true)(o:mo σ h=zih)(e:qk9)(f:xch=k):qWi k=g (Ã r::as) h1:=by
 let#[d,c,a,b,E,K,p,U,H,q]:=S
 let l:qo7=sO (rlF d c a b):=by
  show zC1
 unfold Jt;rw[o,Nv];simp only[l,Nv,j,if_true,e];show jz4 f
def Qg0(S:vB)(a:vL)(s o:Qr):∃h',jSi=ĵ h'/\RS C r (n+1) h' λe=>X e\/e=.kp s o:=by
 let#[g,f,c,d,E,K,i,U,H,q]:=S;let#[h',e,b]:=QiM H a s o;show jt5
def QgU(S:vB)(a:vL)(s o:Qr)(l:Nat):∃h',jL0=ĵ h'/\RS C r (n+1) h' λe=>X e\/e=.wr s l o:=by
 let#[g,f,c,d,E,K,i,U,H,q]:=S;let#[h',e,b]:=Qjv H a s o l;show jt5
def GY(S:vB)(a:vL)(s o:Qr)(l:Nat):∃h',jL1=ĵ h'/\RS C r (n+1) h' λe=>X e\/e=.un s l o:=by
 let#[g,f,c,d,E,K,i,U,H,q]:=S;let#[h',e,b]:=Qcz H a s o l;show zr3;cases x<;>simp[RrG,U8,and_assoc]
def Qpg(S:vB)(a:vL)(s:Qr):∃h',jZi=ĵ h'/\RS C r (n+1) h' λe=>X e\/e=.en s:=by
 let#[g,f,c,d,E,K,i,U,H,q]:=S;let#[h',e,b]:=QeB H a s;show zr3;cases x<;>simp[RrG]
#print"-"
abbrev gvW(l:Ğ):W:=match gvL l with
 |Û x=>Æ x
 |none=>.non
abbrev lW(l:Ğ):W:=match l with
 |Û l=>Qj l
 |none=>.non
@[simp]def Qp8{l:Ğ}:pur zZ=true:=by cases l<;>simp[lW]
def Qmg{p:Ó}{s:Spt}:lnW p s=lW TW:=rfl
section
variable{bs ws la:Á}
def Qeg{l:Ln}(b:v7)(h:MH):Y1 mW h=sO (gvW ze2,h):=by
 refine Qi (g:=[]) Ç ?_ (by unfold gvW;split<;>rfl);let e:∀(x:Str) (h:MH),wIn false Ě XB h=sO (ö (ό (x∈gvK)),h):=λx h=>Qc2 (xs:=gvK) (x:=x) (h:=h);cases b with
 |plain a=>cases a<;>simp[JV,Qs,Qj,gvW,gvL,gvK,e]
 |«do» z=>show qIe
 |blk z=>rcases z with rfl|rfl|rfl|rfl<;>simp[JV,Qs,Qj,gvW,gvL,gvK,e]
 |back z=>show qIe
abbrev AS(c:Á)(l:Ğ)(h1 h2:Œ)(e:RE):Prop:=(∃b a,KpL (·∈c) l b a/\e=zmi zo0)\/(ql5 a l zo0)\/∃b k a,UnL l b k a/\e=.un zS k zo0
abbrev heW(q:Œ):W:=zng
def Ka{q:Œ}{b:Str}{h:MH}:Q7 (heW q) (Ŋ [Æ b]) h=sO (seW (qy q b),h):=by
 let:sJ:=Ú
 simp[heW,seW,this]
variable{C:Addr}{r n:Nat}{h:MH}{X:Ÿ}
def Qbw(S:vB)(v:n<900000){l:Ln}(q:v7){g:Str}(a:gvL ze2=sO g)(h1 h2:Œ) :
  ∃h',Zq C [Ã r,Qj l,heW h1,Aj] h=ĵ h'/\RS C r (n+2) h' λe=>X e\/(∃b,sO l=pO ["same",g,b]/\e=zmi Aq)\/(ql5 j ze2 jg2)\/∃b k j,UnL ze2 b k j/\e=.un zS k jg2:=by
 let bl:∀{x:Str},(y8\/znh)->gvL (sO [x])=nO:=λh=>rfl
 let u:∀(y:Str) (o:MSt) (h:MH),o[2]?=sO (sO (heW h1))->∀{m:ME},m o h=sO (Ì [Æ y],h)->Qc Q7 þ m o h=sO (PV,h):=λy o h e m em=>by
  unfold Qc Qb;rw[e];simp[em,Ka]
 cases q with
 | plain p=>
  cases p with
  | @pair x w y z=>
   cases(a);let#[f,d,S3]:=QgU S É PZ Aq 1;let#[s,t,S4]:=QgU S3 É jg3 Aq 2;refine#[s,GE (Vi (h1:=h) Cp (G8 (h1:=h) Cp (QG (VY (xY [PV,zfh,Aj] S zEj d)) (VY (xY [seW jg3,zfi,Aj] S3 zEj t))))),S4.to ÿ Az];show zG6
   ·rintro((h|rfl)|rfl)
    show ja h #[_,_,_,#[_,_,_,Re,Ø jp],rfl]
    show Ζ #[_,_,_,#[_,_,_,Re,.inr jp],rfl]
   ·rintro(h|⟨_,_,_,⟨_,_,_,⟨rfl,rfl,rfl,rfl⟩,⟨rfl,rfl⟩|⟨rfl,rfl⟩⟩,rfl⟩)
    ·show yw uG
    ·show Ø CK
    ·show yU
  | @first x y=>
   cases(a);let#[f,d,S3]:=GY S É PZ Aq 1;let c:∀h,ZV [Qj ["first",g,y]] h=sO (zfh,h):=zsa;refine#[f,GE (Vi (h1:=h) Cp (Vi (h1:=h) Cp (G8 (h1:=h) (Μ c) (VY (xY [PV,zfh,Aj] S qhe d))))),zl2];show zG6
   ·show jaj
   ·show jb3
  | @second x y=>
   cases(a);let#[f,d,S3]:=GY S É PZ Aq 2;let c:∀h,ZV [Qj ["second",g,y]] h=sO (zfi,h):=zsa;refine#[f,GE (Vi (h1:=h) Cp (Vi (h1:=h) Cp (G8 (h1:=h) (Μ c) (VY (xY [PV,zfi,Aj] S qhe d))))),zl2];show zG6
   ·show jaj
   ·show jb3
  |@same x y=>
   cases(a);let#[f,d,S3]:=Qg0 S É PZ Aq;refine#[f,GE (G8 (h1:=h) Cp (VY (xY [PV,Aj] S zEj d))),zl2];simp[WrL,UnL]
  | @none x=>
   cases(a);let c:∀h,ZV [qR1] h=ĵ h:=zsa
   let e:Zq C [Ã r,qR1,heW h1,Aj] h=ĵ h:=by
    let i:=c;simp only[Qj,NH,ET]at i;simp[Zq,Qs,Qj,i]
   refine#[h,e,S.to ŗ Az];simp[WrL,UnL]
  |tell=>show zXa
 |«do» z=>show zXa
 |blk z=>simp[gvL]at a
 |back z=>show zXa
#print"-"
section
variable{bs ws la:Á}{C:Addr}{r n:Nat}{h:MH}{X:Ÿ}
abbrev LnO(bs ws:Á)(l:Ğ):Prop:=∀a,l=sO a->∃la,LineOk bs ws la a
noncomputable abbrev aS(r:Nat)(a:Á)(l:Ğ)(h1 h2:Œ)(x5 x6:ê):MSt:=[ō r,sO (QL a),sO zZ,sO (heW h1),sO (heW h2),x5,x6]
def Qj8{b:Str}{l:Ğ}{h:MH}:wNe Bf (gvW l) h=sO (ö (!decide (gvL l=sO b)),h):=by
 let d:∀w:W,fe->dep w<=40->wNe Bf w h=sO (ö (!eqW Bf w),h):=λw p q=>Qnl rfl p AO q;unfold gvW;split
 ·rename_i x e;rw[jZ8,e]
  let:eqW Bf Ě=decide (sO x=sO b):=by
   show jN5 x b
   ·let a:¬b=x:=λy=>z y.symm;simp[eqW,z,a]
  rw[this]
 ·rename_i e;rw[jZ8,e];simp[eqW]
def QjA(S:vB){a:Á}(N:a.length<=5)(hn:n<800000){l:Ğ}(B:zPg)(h1 h2:Œ) :
  ∃h',VF C [Ã r,QL a,lW l,heW h1,heW h2] h=ĵ h'/\RS C r (n+7) h' λe=>X e\/AS a l h1 h2 e:=by
 let G:QA 5 xbb (aS r a l h1 h2 nO nO) h=sO (Ĕ zue h):=by
  cases l with
  |none=>simp[lW,gvW,gvL]
  |some p=>
   show qX5;let P:=λh=>Qeg s h;let L:JH (Qj p)=false:=rfl;simp[lW,P,L]
 let#[H,u,Q,o,rfl,S3]:=Kh (f:=W.str) (src:=nO) (items:=xc4) (b:=Zn 6) (body:=J9 C) (xs:=a) (λd A h=>∃o,A=zu2 o/\RS C r (n+d.length) h λe=>X e\/∃b∈d,qWd/\e=zmi zo1) Ri (by
  rintro d b rr hd A h ⟨o,rfl,S⟩
  let M:d.length<5:=zt4
  refine Mc
  by_cases z:gvL l=sO b
  ·refine#[jg4,h,Vi (h1:=h) jO2 rfl,_,rfl,S.to Ç Az];show S8 #[ύ zS9 qIf,æ zS9]
   show ů i y
   show Š #[j,y,q]
   ·rw[ĸ y]at q;show absurd z q.1
  ·let#[h',e,Y]:=Qg0 S É zS zo1;refine#[jg4,h',G8 (h1:=h) jO2 (VY (xY [seW zS,seW zo1] S (by simp[Ka]) e)),_,rfl,Y.to jR Az];rw[or_assoc];show S8 #[æ q,æ zS9]
   ·show zqd j i
    show wG qIf
    show Š #[b,Ê,z,q]
   ·show ů i y
    ·show ø (ź j y q)
    ·rw[ĸ y]at q;show .inr q.2) a [] rfl zue h #[nO,rfl,S.to Ç Ç]
 let ei:∀o,Qv ñ jTh h=sO (xc4,nO,h):=ς
 let E:ZM qxg (Zn 6) (J9 C) zue h=sO (Ĕ jTh u):=by
  show(CP,Q)
 cases c:gvL l with
 | none=>
  refine#[u,GE (σ1:=zu2 o) (QG G (QG E (Sr u (by simp[gvW,c])))),S3.to É λe=>qMi];unfold AS;constructor
  ·rintro⟨b,t,m,rfl⟩
   show ø #[b,b,SQ #[t,rfl,vC c],rfl]
  ·rintro(⟨b,j,⟨t,rfl,m⟩|q,rfl⟩|⟨b,k,j,⟨w,y,z,q,_⟩,rfl⟩|⟨b,k,j,⟨_,q⟩|⟨_,q⟩,rfl⟩)
   show Š #[b,t,vC c,rfl]
   show nU
   show nU
   show nU
   show nU
 | some g=>
  cases l with
  |none=>cases c
  | some p=>
   show qX5;let#[O,U,S4]:=Qbw S3 É s c h1 h2;let D:gvW zY6=Æ g:=by unfold gvW;rw[c]
   refine#[O,GE (σ1:=aS r a zY6 h1 h2 (sO (gvW zY6)) o) (QG G (QG E (G8 (h1:=u) (Μ D) RR))),S4.to É Az]
   ·rw[D];simp[Ka,lW,U]
   ·rw[or_assoc];refine qMi;unfold AS;rw[<-or_assoc];refine or_congr ?_ DW;constructor
    ·rintro(⟨b,t,m,rfl⟩|⟨b,q,rfl⟩)
     show jd #[b,b,Ø (AJ t m),rfl] #[b,g,å q,rfl]
    ·rintro⟨b,j,⟨t,rfl,m⟩|q,rfl⟩
     ·show ø #[b,t,m,rfl]
     ·let:j=g:=by rw[q]at c;simpa[gvL,gvK]using c
      subst this;show å (pK b q)
def Qjl{l:Ğ}(i:zPg)(h:MH):∃v:W,Jz [lW l] h=ā v h/\∀(w:Str) (h:MH),∃c:Bool,qle=vO c/\(Τ↔∃x,EnL w l x):=by
 cases l with
 |none=>show#[.non,zGi (by simp[QR,Qs,lW]),ş w h #[false,jr8,qX6]]
 | some a=>
  let#[la,d]:=i a rfl;let non:qhf=ĵ h->(∀w x,¬EnL w fI x)->∃v:W,qhf=ā v h/\∀(w:Str) (h:MH),∃c:Bool,qle=vO c/\(Τ↔∃x,EnL w fI x):=ş e q #[.non,e,λw h=>#[false,jr8,yh q]]
  let j:∀x r,qca:=Ŕ;cases d with
  | plain f=>
   cases f with
   | @pair x w y z=>
    refine#[Æ w,zGi jIi,ş b h #[p6 w b,?_,qX6]];rw[xN]
    let:eqW ou Bf=p6 w b:=by
     show zn7 w b
    rw[this]
   |_=>show zr7
  |«do» z=>show zr7
  |blk z=>rcases z with rfl|rfl|rfl|rfl<;>show non jDh jVf
  |back z=>show zr7
#print"-"
abbrev QdF:ϡ->W
 |none=>.non
 |Û q=>JG q
@[simp]def QnD{pl:ϡ}:pur zVe=true:=by cases pl<;>rfl
def Qqp{t:Spt}{q:Pl}{h:MH}:wEq zX7 Ph h=sO (ö (cm ug t),h):=by
 show Ď a b q;unfold plW cm;cases t.head with
 |true=>
  rw[Ĳ,Qbm rfl rfl AO R8];simp[eqW,JG]
 | false=>
  rw[if_neg Ç,Qbm rfl rfl R8 R8]
  let e:((t.part:Int)==(a:Int)&&(t.k:Int)==(b:Int))=decide (qFd (a,b)):=by
   rw[Om];simp;omega
  simp only[JG,eqW,Ki,Lk,e];rfl
def Qhh{ma a:ME}{σ:MSt}{h h1:MH}{q:Ü}(e:jr9)(b:a σ h1=q):qR2=q:=by unfold QdO;show ī e b
def Qlx{ma a:ME}{σ:MSt}{h h1:MH}(e:jra):qR2=sO (jZ,h1):=by unfold QdO;rw[e];rfl
section
variable{bs ws:Á}{p:Ó}{out:Ý}{C:Addr}{r n:Nat}{h:MH}{X:Ÿ}
noncomputable abbrev hS9(p:Ó)(w:Str)(pl:ϡ)(r:Nat)(x5 x6 x7 x8 x9 x10:ê):MSt:=[ė,zF,sO zVe,ō r,sO qyg,x5,x6,x7,x8,x9,x10]
abbrev EvS(d:Á)(w:Str)(l:Ğ)(c:Bool)(e:Œ)(x:RE):Prop:=(∃a,a<=1/\AS d l (a,e.1) (ltc c a,e.2) x)\/∃b,EnL w l b/\x=.en (gu,e.2,b)
def Qf6{pl:ϡ}{w:Str}{t:Spt}{x5 x6 x7 x9 x10:ê}:QA 9 jHc (hS9 p w pl r x5 x6 x7 (sO zX7) x9 x10) h=sO (Ĕ (hS9 p w pl r x5 x6 x7 (sO zX7) (sO jm6) x10) h):=by
 cases pl with
 |none=>show Qw (Qlx (by simp[QdF]))
 |some q=>
  let a:JH Ph=false:=rfl;let e:=Qqp (t:=t) (q:=q) (h:=h);show Qw (Qhh (h1:=h) (by simp[QdF,a]) (by simp[QdF,e]))
def QjF(S:RS C r n h X)(B:(Bx p).length<=5)(hn:n<700000){l:Option Ln}(G:LnO bs ws l)(w:Str)(pl:Option Pl)(a m:Nat)(t:Spt)(x9 x10:Option W) :
  ∃h' s,ZH C (hS9 p w pl r pS pZ pT pY x9 x10) h=sO (.nx (hS9 p w pl r pS pZ pT pY (sO jm6) s) h')/\RS C r (n+15) h' λe=>X e\/EvS jxd w l jt6 (a,m) e:=by
 let N:=Qf6 (p:=p) (r:=r) (h:=h) (pl:=pl) (w:=w) (t:=t) (x5:=sO (.int a)) (x6:=sO zZ) (x7:=sO (.int m)) (x9:=x9) (x10:=x10);generalize cm pl t=c at *
 let#[P,o,e6,i,rfl,S3]:=Kh (f:=jkf) (src:=nO) (items:=jd5) (b:=Zn 10) (body:=Jd C) (xs:=[0,1]) (λd E h=>∃x10,E=hS9 p w pl r pS pZ pT pY zK x10/\RS C r (n+7*d.length) h λe=>X e\/∃g∈d,zj8 e) (λ_ _ _ _=>Qx _ _) (by
  rintro d g rr hd E h ⟨x10,rfl,S⟩
  let Z:d.length<2:=by let:=congrArg List.length hd;simp at this;omega
  refine#[_,rfl,?_];let#[h',e,S']:=QjA S B (by omega) G (g,a) jlf;refine#[hS9 p w pl r pS pZ pT pY zK (zj5 g),h',VY (v:=.non) ?_,_,rfl,S'.to jt7 λe=>?_]
  ·unfold heW at e;cases c<;>simp[ltc]at e ⊢<;>show e
  ·rw[or_assoc];show S8 #[λq=>?_,λ#[k,j,q]=>?_]
   ·show zqd k j
    ·show#[k,NT _ j,q]
    ·show#[g,by simp,q]
   ·rcases NG.mp j with y|y
    ·show SQ #[k,y,q]
    ·rw[Nq.mp y]at q;show .inr q) [0,1] [] rfl zgb h #[x10,rfl,S.to Sl Sl]
 let ei:Qv jgf zgb h=sO (jd5,nO,h):=by
  let:2<=sizeLine:=by decide
  unfold Qv;simp[this,VE]
 let L:ZM (Qv jgf) (Zn 10) (Jd C) zgb h=sO (.nx (hS9 p w pl r pS pZ pT pY zK i) o):=by
  unfold ZM;rw[ei];show e6
 let#[v,I,Y]:=Qjl G o;let#[cc,M,H]:=Y w o
 let u:∀{x:RE},(∃g∈[0,1],zj8 x)↔∃g,g<=1/\zj8 x:=λ{x}=>by
  constructor
  ·rintro⟨k,j,q⟩
   simp at j;show#[k,by omega,q]
  ·rintro⟨k,j,q⟩
   show#[k,by simp;omega,q]
 cases cc with
 |false=>
  refine#[o,i,QG N (QG L (Sr o juc)),S3.to Sl λe=>jxe];rw[u];unfold EvS;show#[.inl,λq=>q.resolve_right λ#[b,A,_]=>absurd (H.mpr #[b,A]) Sl]
 |true=>
  let#[b,A]:=H.mp rfl;let#[h4,e4,S4]:=Qpg S3 jt7 (gu,m,b);let U:∃y z,l=sO (["pair",b,w,y,z]:Ln):=A;refine#[h4,i,QG N (QG L (G8 (h1:=o) juc (VY ((KY (as:=[seW (gu,m,b)]) S3 (λ_ _ _ _=>rfl) rfl ?_ rfl).trans e4)))),S4.to Sl λe=>?_]
  ·let#[y,z,rfl]:=U;cases c<;>simp[lW,Qj,seW,ltc]
  ·rw[or_assoc];refine jxe;rw[u];unfold EvS;show S8 #[λq=>#[b,A,q],λ#[b',D,q]=>?_];let#[y,z,e1]:=A;let#[y',z',O]:=D;rw[e1]at O;cases O;show q
def Qk4(A:ϊ){w:Str}{pl:ϡ}{x:RE}:(∃e∈Rv,jHa)↔Ru Cm (·∈Bx p) w x:=by
 let j:∀{e:Œ},e∈Rv->EgN p out pl e.1 zx0 e.2 jR3:=λ{e} a=>by
  show(MW q v a,jk t g a);let i:=EK.mp v;show#[i,t,g,rfl,rfl,by apply cm pl (AT qbi)=_;rw[XZ (za0 i g)]]
 let ge:∀{n l m c},T9->(n,m)∈Rv/\qg6/\c=cm pl (AT m):=λ{n l m c} h=>by
  let#[s,t,g,rfl,rfl,rfl]:=h;show#[Ew.mpr #[n,EK.mpr s,NJ.mpr (pK t g)],rfl,by rw[XZ (za0 s g)]]
 constructor
 ·rintro⟨e,a,⟨o,d,⟨b,u,h,rfl⟩|⟨b,k,u,h,rfl⟩|⟨b,k,u,h,rfl⟩⟩|⟨b,h,rfl⟩⟩
  ·show .kp (j a) d h
  ·show .wr (j a) d h
  ·show .un (j a) d h
  ·show .en (j a) h
 ·intro h;cases h with
  |kp a d h=>show iW #[_,f,Ø #[_,d,SQ #[_,_,h,rfl]]]
  |wr a d h=>show iW #[_,f,Ø #[_,d,å (đ qBd)]]
  |un a d h=>show iW #[_,f,Ø #[_,d,å (õ qBd)]]
  |en a h=>show iW #[_,f,å zhh]
def Qfp{h0:MH}:RS C h0.length 0 (h0++zr5) λ_=>False:=by
 show zs1 b h0
 refine#[_,_,_,_,[],[],[],[],#[b 0 _,b 1 _,WM (b 2 _),WM (b 3 _),WM (b 4 _),qb7,Ò a c,Ò a c,Ò a c,Nu _,jz6,jz6,Nu _,Ê],æ x]
 show Au c #[jW7,SO,ii,ii]
 show Au c #[ne9 (k:=3) (j:=0) à,SO,ii]
 show Au c #[ne9 (k:=4) (j:=0) à,SO]
 ·cases x<;>simp[RrG,Um]
def QgD(a:Ă){s:Spt}:LnO bs ws TW:=λb e=>Vb a (QfB e)
def QhA(m:Ă)(i:Ų)(A:ϊ)(w:Str)(pl:ϡ):∃h',JS C S9 []=sO (Pq,h')/\RS C 0 5000 h' (Ru Cm (·∈Bx p) w):=by
 let Y:=A.few;let s:=qX7 m i;let el:=QgF A (Nu out.length);let S0:=Qfp (C:=C) (h0:=[]);let M:=QbT (C:=C) (h0:=[]) (σ:=[ė,zF,sO zVe,nO,nO,nO,nO,nO,nO,nO,nO]);generalize([]:MH)++[.ins C (rlF (tJ+1) (tJ+2) (tJ+3) (tJ+4)),ś,Ť,Ť,Ť]=g at S0 M
 let#[N,t,e2,E,D,B,z,u,c,rfl,S2]:=Kh (f:=stW p out) (src:=nO) (items:=jS5) (b:=VC qEh) (body:=ZH C) (xs:=Rv) (λd l h=>∃L I H G j a,l=hS9 p w pl 0 L I H G j a/\RS C 0 (15*d.length) h λx=>∃e∈d,jHa) Ri (by
  rintro d e rr hd l h ⟨L,I,H,G,j,a,rfl,S⟩
  let Q:d.length<304:=zt4
  refine#[hS9 p w pl 0 (sO (.int e.1)) (sO (lW zx0)) (sO (.int e.2)) (sO (plW zxd)) j a,rfl,?_];let#[h',c,e1,S']:=QjF S s É (QgD m) w pl e.1 e.2 zxd j a;refine#[_,h',e1,_,_,_,_,_,_,rfl,S'.to jR (ύ x #[æ q,æ #[f,o,q]])]
  ·show zqd f o
   show jdb f o e
  ·show ů o y
   ·show ø (ź f y q)
   show jC3) qmc [] rfl zw2 g #[_,_,_,_,_,_,rfl,S0.to ě Ç]
 refine#[t,UX (QG (Qw M) (QG (Qw (v:=QL sW) (h1:=g) (by let q:=λh=>Yd m i h;simp[q])) (QG (σ1:=hS9 p w pl 0 E D B z u c) (h1:=t) ?_ Ç))),S2.to É λx=>Qk4 A]
 let ei:Qv xkb zw2 g=sO (jS5,nO,g):=by
  let q:=λh=>QfL A h;unfold Qv;simp[q,VE]
 let Z:ZM qxh qEf (ZH C) zw2 g=sO (Ĕ (hS9 p w pl 0 E D B z u c) t):=by
  show(CP,e2)
 show Z
#print"-"
def Qic{ks:Ŧ}{sh:Sb.Sh}(w:∀t∈ks,Sb.Wf 8 sh t):(Sb.srtT ks).Perm ks:=by
 let e:∃d:Ŧ,BV d/\d.Pairwise λx y=>Sb.ltN 8 y x=false:=by
  let p:=Yac ks zt8;refine#[ks.mergeSort zt8,p,?_]
  let q:=L7 (le:=zt8) (λa b c j i=>by
   show(qX4,Nd j i)) (λa b=>by
   show(qdg,Nat.le_total _ _)) ks
  refine q.imp_of_mem λ{a b} g f h=>?_;let h:=zK3 h;cases z:Sb.ltN 8 b a with
  |false=>rfl
  |true=>show û ((Sb.rk_lt w (CQ f) (CQ g)).mpr z) (PD h)
 unfold Sb.srtT;rw[z6 e];show e.choose_spec.1
structure SoE{β:Type}(f:β->W)(g:β->Tr)(shs:List Sb.Sh)(sh0:Sb.Sh):Prop where
 tu:∀x,∃ws,f x=Ĩ
 pl:∀x,plN 8 (f x)=sO (g x)
 wf:∀x,qhg (g x)
 to:∀x,toW (g x)=f x
def QgE{c:Type}{f:c->W}{g:c->Tr}{shs:List Sb.Sh}{sh0:Sb.Sh}(S:SoE f g shs sh0){a:W}{h:MH}{l:À c}(o:lsW h a=sO qZf) :
  ∃b:À c,XQ [a] h=sO (İ h,h++[Î (b.map f)])/\b.length=l.length/\∀w,w∈b.map f↔w∈l.map f:=by
 let r:∀l:À c,plL qZf=sO jej:=λl=>by
  induction l with
  |nil=>rfl
  |cons x l n=>
   let#[s,hw]:=S.tu x;let e:=S.pl x;rw[hw]at e;rw[NH,NH,hw,plL,e,n];rfl
 let hw:∀t∈l.map g,qhg t:=λt j=>by
  show(nq x j,S.wf x)
 let p:=Qic hw
 let q:∀i:Ŧ,(∀t∈i,∃x,t=g x)->∃b:À c,i=b.map g:=λi=>by
  induction i with
  |nil=>show λ_=>#[[],rfl]
  |cons t i n=>
   intro h;let#[x,rfl]:=h t Nw;let#[b,rfl]:=n (BJ t j h);show#[x::b,rfl]
 let#[b,d]:=q (Sb.srtT jej) λt j=>by
  show(nq x (CQ j),#[x,rfl])
 let m:∀l:À c,(l.map g).map toW=l.map f:=λl=>by
  rw[FD];show D9 λx _=>S.to x
 refine#[b,?_,?_,æ w]
 ·unfold XQ;simp only[o,Nv,r];rw[if_pos #[sh0,shs,hw],d,m]
 ·let:=p.length_eq;rw[d,ND,ND]at this;show this
 ·rw[<-m,<-m,<-d];show(p.map toW).mem_iff
def Qi0:SoE seW seT [.i,.s] .i:=#[ύ x Ħ,λx=>by
 apply plN 8 (Ŋ (zzb x))=_;show xd6,λx=>by
 unfold seT;simp[Sb.Wf]
 show Ē Ħ xhd,λx=>by simp[seT,seW,toW,Qj5]]
abbrev mvW(q:Qr×P7):W:=Ì [ja0,zg2 q,seW q.2.2]
abbrev QnV(q:Qr×P7):Tr:=.t [seT q.1,.i q.2.1,seT q.2.2]
def Qh3:SoE mvW QnV [.i,.t [.i,.i,.s]] (.t [.i,.i,.s]):=#[ύ x Ħ,λx=>by
 apply plN 8 (Ŋ [Ì (qj8 x),zg2 x,Ì [.int x.2.2.1,.int x.2.2.2.1,.str x.2.2.2.2]])=_;show xd6,λx=>by
 unfold QnV seT;simp[Sb.Wf]
 show Ē jve (.cons Ħ (Mb jve)),λx=>by simp[QnV,seT,mvW,seW,toW,Qj5]]
def WZ{c:Type}{fin:Ū}{mi:MI}{cp:ϙ}{src:qW}{mt:MT}{me:ME}{σ caps:MSt}{h:MH}{xs:À c}(a:c->W)(p:c->Bool)(f:c->W)(hi:mi σ h=sO (xs.map a,src,h))(g:live src (xs.map a) h)(i:zAe)
  (s:∀x∈xs,mt zCd h=sO (p x,h)) (u:∀x∈xs,p x=true->me zCd h=sO (f x,h)) (t:Bt):jYj=fin ((xs.filter p).map f) h:=by
 let key:∀(items:À W) (rest:À c) (b:À W) (o:ê),qG->(∀x∈rest,x∈xs)->b.length+rest.length<=sizeLine->Jc fin items src ΢ mt me (rest.map a) b qi9 h=qld b:=λitems rest=>by
  induction rest with
  |nil=>intro b o e _ _;rw[ET,Jc,Ð e];simp
  | cons x rest j=>
   intro b o e l n;rw[NO]at n;let d:=l x Nw;let m:∀y∈rest,y∈xs:=BJ y r l;let v:qA6 (a x)=sO zCd:=rfl;rw[NH,Jc,Ð e,v,Nv,s x d,Nv];cases q:p x with
   |true=>
    simp only[u x d q,Nv];rw[if_pos É,j _ _ e m (by rw[NA,N1];omega)];simp[q]
   |false=>
    simp only;rw[j _ _ e m É];simp[q]
 show zv1 i;rw[key _ xs [] o g (λ_ h=>h) (Ŏ t)];rfl
section
variable{h:MH}{aT:Nat}{T:TG}
abbrev enS(d:np):Ī:=(d.filter λe=>decide (nO∈e.2.2)).map (·.1)
abbrev moS(d:np):To:=d.flatMap λe=>js6
noncomputable abbrev rS(aT N:Nat)(a:ê):MSt:=[sO CJ,ō N,sO (Ġ (N+1)),a]
noncomputable abbrev rH(h:MH)(d:np):MH:=h++[Î qv8,Î wo]
def QbU{ι:Type}(f:P7->ι)(l:zc3):(l.filter (·.isSome)).map (λt=>match t with|Û q=>f q|none=>f (0,0,0,""))=l.filterMap λt=>t.map f:=by
 induction l with
 |nil=>rfl
 |cons t l a=>cases t<;>simp[a]
def QdU(M:wU h)(Z:zJe)(N:∀e∈T,zq8) :
  ∃(E:Ī) (V:To) (h':MH) (a b:Nat),Vg [zdh] h=sO (zm4,h')/\lM=sO (Þ wu)/\h'[b]?=sO (Þ iM)/\qMd/\∀s,s∈E↔nO∈Ĭ T:=by
 let H:∀d,wU fP:=λd=>nv X;show zs1 i h
 let D:∀d,(rH h d)[h.length]?=sO (Þ qv8):=λd=>i 0 _
 let C:∀d,(rH h d)[CB]?=sO (Þ wo):=λd=>i 1 _
 let ab:∀(x y z:MO),(h++[x,y]).set h.length z=h++[z,y]:=λx y z=>Ê
 let aa:∀(x y z:MO),(h++[x,y]).set (uf h) z=h++[x,z]:=λx y z=>by
  rw[List.set_append_right _ _ É,E1];rfl
 let le:∀d,d <+: T->d.length<=1600/\qMj<=3201*d.length/\∀e∈d,e∈T:=λd hd=>by
  refine#[Nd hd.length_le Z,Kc _ (Ò e g),λe g=>hd.subset g];show Nd zW6 (N e (hd.subset g))
 let L:∀{n},n<=6000000->Mt:=λp=>rZ p
 let#[af,h2,r,w,rfl,rfl]:=Kh (f:=λe:Qr×Nat×zc3=>zN4) (src:=sO (.d aT)) (items:=jz7) (b:=Zn 3) (body:=JL) (xs:=T) (λd I h'=>∃w,I=rS aT h.length w/\h'=zfj) (λd I h' #[_,_,e] z j=>by
  cases j;show ϑ e #[_,(H d).d,xd7]) (by
  rintro d e rr hd I h' ⟨w,rfl,rfl⟩
  let hp:d <+: T:=#[e::rr,hd.symm]
  let#[l1,l2,l3]:=le d hp;let ah:d.length<1600:=zt4
  let c:e∈T:=tG
  refine Mc;let ga:=XR M.kd c
  let ix:∀d,U3 CJ zz6 fP=sO (vx e,zfj):=λd=>by
   show qmi;let hd:Ks fP CJ=sO jQ8:=by simp only[Ks,(H d).d]
   show qjd
  let oo:∀d,(rH h d)[e.2.1]?=sO (eoD thW e.2.2):=λd=>(H d).o e c
  let Y:enS Tl=enS d++if zS6 then[e.1]else[]:=by
   unfold enS;rw[List.filter_append,Ec]
   by_cases z:zS6<;>simp[z]
  let P:moS Tl=moS d++js6:=by unfold moS;simp
  let s1:ZE jp7 jJ9 QN zuf fP=sO (Ĕ zuf zYd):=by
   let q:=Qn3 (x:=(nO:Thg)) (n:=e.2.1) thK (oo d) false;let A:U4 false VH (.ref e.2.1) fP=_:=q;let ix:=ix d;rw[Y]
   let hl:((enS d).map seW).length<sizeLine:=by
    rw[ND];unfold enS;rw[ND];show L (Nd (OO _ _) É)
   by_cases z:zS6
   ·simp[z]at A;refine G8 (h1:=zfj) qBe RR;let D:=D d;rw[ND]at hl;simp[D,hl,z]
   ·simp[z]at A;show Vi (h1:=zfj) qBe gD
  let cp:Zz XN zv0 zUj ΢ (Qm jY5) (ģ (jG (Qa Bm (yx zL)))) zuf zYd=sO (Î ((e.2.2.filterMap dH).map mvW),h++[Î zrg,Î wo]):=by
   let Mk:wU zYd:=nv X;generalize h++jt8=B at Mk;let oo:=Mk.o e c
   let ix:U3 CJ zz6 B=sO (vx e,B):=by
    show qmi;let hd:Ks B CJ=sO jQ8:=by simp only[Ks,Mk.d]
    show qjd
   rw[WZ (src:=sO (.d e.2.1)) (xs:=e.2.2) (caps:=[sO zz6]) thW (λt=>t.isSome) (λt=>match t with|Û q=>mvW zu5|none=>mvW (e.1,0,0,0,"")) ?_ ?_ Ħ ?_ ?_ (NF (L (BE (N e c))))]
   ·rw[QbU (λq=>mvW zu5),List.map_filterMap];simp[XN,EA]
   ·unfold ZA;simp[ix,oo,eoD,EA]
   ·intro z j;show ß j #[_,oo,xd7]
   ·intro t _;let q:=QbE (t:=t) (h:=B);simp[q]
   ·intro t _ ht;cases t with
    |none=>cases ht
    |some q=>
     let:sJ:=Ú
     simp[thW,Qbf,mvW,this]
  refine#[rS aT h.length qC0,rH h Tl,QG s1 RR,_,rfl,rfl];let U:(h++jt8)[CB]?=sO (Þ wo):=i 1 _
  let hF:jlg<=3201:=Nd zW6 (N e c)
  let j:qMj+jlg<=sizeLine:=by
   show NF (L É)
  apply _=sO (W.non,h++[MO.lst zrg,Î ((moS Tl).map mvW)]);rw[P];generalize(e.2.2.filterMap dH)=F at *;generalize Zz XN zv0 zUj ΢ _ _=co at *
  simp[cp,U,j]) T [] rfl Rj bT rG
 let#[E,eE,lE,mE]:=QgE Qi0 (a:=İ h) (h:=zg0) (l:=enS T) (jxf D);let k1:(zg0++jg5)[CB]?=sO (Þ ((moS T).map mvW)):=by rw[NM (Ve (C T))];show C T
 let#[V,eV,_,mV]:=QgE Qh3 (a:=Ã (uf h)) (h:=jU8) (l:=moS T) (jxf k1);refine#[E,V,jU8++[Î iM],(rH h T).length,(zg0++jg5).length,?_,Ê,Ê,?_,æ s]
 ·let n1:QA 1 Bw [sO CJ,nO,nO,nO] h=sO (Ĕ jo4 RY):=Ê
  let n2:QA 2 Bw jo4 RY=sO (Ĕ Rj bT):=by simp[rS,rH,enS,moS]
  let ei:ZA î Rj bT=sO (jz7,sO (.d aT),rH h []):=by
   let:=(H []).d;unfold ZA;simp[this,EA]
  let ef:ZM qxi vZ JL Rj bT=sO (Ĕ (rS aT h.length w) (rH h T)):=by
   show(CP,r)
  refine UX (QG n1 (QG n2 (QG ef ?_)));let:qT:=Ú
  simp at eE eV;simp[eE,eV,this]
 ·rw[lE];unfold enS;rw[ND];show Nd (OO _ _) Z
 ·let inj:seW s∈(enS T).map seW↔s∈enS T:=#[λq=>by
   let#[x,S,e]:=uo q
   let:xc9:=by
    show jL5
   show qX8,N3]
  let Q:s∈E↔seW s∈zah:=#[N3,λq=>by
   let#[x,S,e]:=uo q
   let:xc9:=by
    show jL5
   show qX8]
  rw[Q,mE,inj];unfold enS;rw[NJ];constructor
  ·rintro⟨e,g,rfl⟩
   let#[g,p]:=Ff.mp g;unfold gL;rw[XR M.kd g];show zK3 p
  ·intro p;let#[e,g,rfl,hm]:=QgS p;show#[e,Ff.mpr #[g,decide_eq_true hm],rfl]
#print"-"
abbrev wdL(l:Ln):Option Str:=if qI9 then l[2]? else nO
abbrev wds(p:Ó):Á:=(lns p).filterMap wdL
abbrev Wd(p:Ó):Á:=St.srt (Pw zQ6)
section
variable{bs ws:Á}{p:Ó}
def Qlc{a:Á}{l:Ln}(c:zbc a l){w:Str}(h:wdL l=sO w):w∈ws:=by
 cases c with
 |plain b=>cases b<;>simp[wdL]at h<;>rw[<-h]<;>assumption
 |«do» z=>show Ah h
 |blk z=>show zwf h
 |back z=>show Ah h
def Qf2(d:Ă)(b:yO):(∀w,kN↔∃l∈lns p,wdL l=sO w)/\qaa:=by
 let a:qaa:=Nd (Wu _ ws qM7 λy c=>by
  let#[l,a,e]:=FU.mp (zA7 c);let#[g,a]:=Vb d a
  show Qlc a e) b
 refine#[æ w,a];let#[f,q,h]:=Qai (Pw zQ6);unfold Wd;rw[qOi,q.mem_iff,qv3];show FU
def GC(b:Ă)(d:yO)(h:MH):J4 Pa h=sO (QL zA4,h):=by
 let c:=UV b p.length;rw[DB]at c
 let ei:Qv jEd [ė] []=sO (zJb,nO,[]):=by
  unfold Qv;simp[GL b];rfl
 let u:Zz XN wm [nO] ΢ df Si [ė] []=sO (Î qsb,[]):=by
  rw[WZ (src:=nO) (caps:=[]) (xs:=lns p) Qj (λl=>(wdL l).isSome) (λl=>Æ ((wdL l).getD "")) ei fL Ħ (qa l a) (Ϗ l a q) (BE c)]
  ·unfold wds XN;congr 3
   induction lns p with
   |nil=>rfl
   |cons l r o=>cases e:wdL l<;>simp[e,o]
  ·let#[n,a]:=Vb b a;cases a with
   |plain f=>cases f<;>simp[Qj,wdL]
   |«do» z=>simp[Qj,wdL]
   |blk z=>rcases z with rfl|rfl|rfl|rfl<;>simp[Qj,wdL]
   |back z=>simp[Qj,wdL]
  ·let#[n,a]:=Vb b a;cases a with
   |plain f=>cases f<;>first|(show Ah q;done)|simp[Qj,wdL]
   |«do» z=>show Ah q
   |blk z=>show zwf q
   |back z=>show Ah q
 let hu:=(Qf2 b d).2;let s:(wds p).length<=500:=Nd zW6 c;let t:ZX [Î qsb] []=sO (Pq,[Î RW]):=jMi;refine qeh [Î RW];simp[VB,Qs,u,t]
abbrev Yx(p:Ó)(i:Nat):List Pl:=(List.range (((p[i]?).map λx=>ï+1).getD 0)).map λg=>(i,g)
abbrev pls(p:Ó):List Pl:=(List.range p.length).flatMap tf
def pls_in{q:Pl}:zai↔∃x,qob/\q.2<=ï:=by
 unfold pls Yx;constructor
 ·intro h;show(MW i a h,jk g b h);let a:=EK.mp a;let b:=EK.mp b;rw[Nj a]at b;show#[_,Nj a,IQ.mp b]
 ·rintro⟨x,c,d⟩
  refine Ew.mpr #[q.1,EK.mpr (ú c),NJ.mpr #[q.2,EK.mpr ?_,rfl]];rw[c];show IQ.mpr d
def WG(e:Ă)(h:MH):JB Pa h=sO (Î TC,h):=by
 let s:=e.len
 let loop:=X4 (items:=qR3) (b:=Zn 2) (body:=V3) (λn m h=>∃(c:ê),m=[ė,Ϛ,c]/\h=[Î (zrh n)])
  (ZJ 0 p.length) 0 xi [ś] rG (by
   rintro j w t m h ⟨c,rfl,rfl⟩
   let a:=ú t;rw[VJ]at a;obtain rfl:w=.int u7:=xc5 t
   rw[Ef];refine#[zm6,rfl,zm6,[Î (zrh (j+1))],lB,_,rfl,rfl];let o:p[j]?=sO p[j]:=Nj a;let z:=e.sz p[j] (Eu a);let E:atI MV u7=sO (V5 p[j]):=Xg o;let d:Yx p j=(List.range zib).map λg=>(j,g):=by unfold Yx;rw[o];rfl
   let D:QaM (ã zoj) zm6 zn5=sO ((List.range zib).map λg:Nat=>W.int g,nO,zn5):=by
    rw[UE (j:=jZ9+1) (h':=zn5) (Μ E) É];simp[ZJ]
   let l:=WZ (fin:=XN) (mi:=QaM (ã zoj)) (cp:=zab) (mt:=Uo) (me:=jO6) (caps:=[sO ε]) (λg:Nat=>W.int g) qR4 qqb D fL qWj Ml (λg _ _=>by
    let:qT:=Ú
    simp[JG,this]) (Nd (Ny Du) (Nd (Ô:_<=101) à))
   let A:((List.range j).flatMap tf).length+(Yx p j).length<=sizeLine:=by
    let:∀i,(Yx p i).length<=101:=λi=>by
     unfold Yx;rw[ND,Du];cases q:p[i]? with
     |none=>simp
     |some x=>simp;show e.sz x (E3 q)
    let B:=Kc (f:=Yx p) (n:=101) (List.range j) λi _=>this i;let N:=this j;rw[Du]at B;show xc
   let I:zza (j+1)=zza j++Yx p j:=by rw[YaO];simp
   rw[I];let H:((List.range zib).filter zT7).map qqb=(Yx p j).map JG:=by rw[d,IU.mpr Ŕ,FD];rfl
   rw[H]at l;simp only[XN]at l;generalize Yx p j=F at *;generalize zza j=G at *
   simp[l,A])
 let#[v,C,d,c,rfl,rfl]:=loop;rw[VJ,Ef]at d
 refine VU (j:=0) (g:=[Î TC]) Ç ?_ rfl (by
  induction pls p with
  |nil=>rfl
  |cons q r y=>simp;show y)
 let ei:∀c,QaM zq3 [ė,Ϛ,c] [ś]=sO (qR3,nO,[ś]):=λc=>UE (by simp[QO]) É;unfold pls;simp -implicitDefEqProofs [Vh,Qs,ZM,ei,d]
def Qd5(c:Ă)(b:yO){w:Str}(hw:kN){q:Pl}(f:zai)(h:MH):V9 zlb h=ĵ h:=by
 refine jI;let j:=GC c b;let i:=WG c
 let e:∀h,wIn true ou HD h=zp4:=λh=>by
  unfold QL;rw[jQi AO (VQ λx a=>by show nq y a;simp[dep]),Qdp];simp[hw]
 let d:∀h,wIn true Ph (Þ TC) h=zp4:=λh=>by
  rw[jQi R8 (VQ λx a=>by show nq y a;simp[JG,dep,Yg])]
  let:inW Ph TC=true:=by
   unfold inW;rw[YaK];show#[_,N3 f,by simp[JG,eqW,Ki]]
  show Py
 simp[Jj,Qs,j,i,e,d]
#print"-"
abbrev RdL(l:Ğ)(b:Str):Prop:=(∃x,l=pO ["first",x,b])\/(∃x,l=pO ["second",x,b])\/l=pO ["tell",b]
def Qem{m:ME}{σ:MSt}{h h1:MH}{v:W}(e:zn):Zg m σ h=vP h1:=by unfold Zg;rw[e];rfl
section
variable{bs ws:Á}{p:Ó}{out:Ý}{C Cr:Addr}{w:Str}{pl:ϡ}
def Qi5{l:Ğ}(n:zPg)(b:Str):∃c:Bool,(∀h,VW [lW l,Æ b] h=vO c)/\(Τ↔RdL l b):=by
 let d:∀(x y:Str) (h:MH),qlg=sO (ö jz9,h):=λx y h=>by
  rw[xN]
  show zn7 x y
 let a:∀(y:Str) (h:MH),wEq .non uE h=zp4:=λy h=>by
  rw[xN];simp[eqW]
 cases l with
 | none=>show#[false,λh=>Qi (g:=[]) (by simp[lW]) (by
   apply Qd1 (Zg jF7 [zY7,sO Bf] [])=_
   show UX (Qem (Qlx (h1:=[]) Ç))) rfl,rT]
 | some e=>
  let#[B,f]:=n e rfl
  let key:∀(v:W) (c:Bool),pur v=true->(∃x r,e=x::r)->Zp [Qj e] []=z7 v->(∀h,wEq v Bf h=vO c)->∀h,VW [lW lg,Æ b] h=vO c:=λv c j o A u h=>by
   let#[x,r,rfl]:=o;let t:∀h,Y3 [Qj CA] h=ā v h:=λh=>Qi (g:=[]) Ç A j;let i:qca:=rfl;show zGi (UX (Qem (Qhh (h1:=[]) (q:=sO (.bl c,[])) (by simp[lW,i]) (by simp[lW,t,u]))))
  cases f with
  |plain m=>
   cases m with
   |@first x y=>show jbg
   |@second x y=>show jbg
   |@tell x=>show#[p6 x b,jFf Ě,rT]
   |_=>show dn
  |«do» z=>show dn
  |blk z=>rcases z with rfl|rfl|rfl|rfl<;>show dn
  |back z=>show dn
abbrev USp(p:Ó)(out:Ý):Ī:=[0,1].flatMap λa=>jkg a
def USp_in{s:Qr}:s∈USp p out↔s.1<=1/\zG8/\qX9:=by
 unfold USp;constructor
 ·intro h;show(MW a e h,MW n c h,jk b d h);simp at e;show#[by apply a<=1;omega,EK.mp c,d]
 ·rintro⟨i,g,f⟩
  show Ew.mpr #[s.1,m6,Ew.mpr #[s.2.1,EK.mpr g,NJ.mpr #[s.2.2,f,rfl]]]
def Qar(G:Ă)(j:Ų)(A:ϊ):UO (Ru Cm (·∈Bx p) w) cK:=by
 let B:=qX7 G j;let P:=A.few;let r:jL4:=λe b M=>(Qaq G j).mpr #[_,QfB e,M];let i:∀{n l m c},T9->vm/\qW0/\∀u,l=sO u->∀b∈bxL u,CW:=ύ #[E,t,L,S,Q,_] #[E,by rw[S];show Yn (za0 E L),λu e=>r (Q▸e)]
 refine#[?_,Ï s t h,Ę s l o h]
 ·unfold USp;let O:∀d n:Nat,((Bx p).map λb=>(d,n,b)).length<=5:=λ_ _=>M9 B
  let N:∀d:Nat,((List.range out.length).flatMap (zwa d)).length<=760:=λd=>by
   let:=Kc (f:=zwa d) (n:=5) (List.range out.length) λn _=>O d n;rw[Du]at this;omega
  let:=Kc (f:=λd:Nat=>jkg d) (n:=760) [0,1] λd _=>N d;simp only[NO,FS]at this;omega
 ·let key:(zG8/\qX9)/\t∈UT cK:=by
   induction h with
   | en h=>
    cases h with
    |en g h=>
     show yK y z e h #[jT0,Nw]
   | kp h a x=>
    cases h with
    |kp g q h=>
     refine#[jg6,x.2]
     rcases h with⟨h,rfl,_⟩|e
     ·show h
     ·show jJd
   | wr h a x=>
    let H:=Xe a;cases h with
    |wr g q h=>
     let#[w,y,z,e,h]:=h;refine#[jT0,?_];let D:=USp_in.mpr #[H,x.1]
     rcases h with⟨rfl,_⟩|⟨rfl,_⟩
     ·show ϧ (NT _ (N3 D))
     ·show ϧ (qc (N3 D))
   | un h a b I v=>
    cases h with
    |un g q h=>
     refine#[jg6,v.2]
     show jk5
  show#[USp_in.mpr #[Xe h,key.1],key.2]
 ·cases h with
  |un g q h=>
   refine USp_in.mpr #[YE q,zM3,?_]
   show jk5
def YK{E:Ī}:Js wu=true:=by
 induction E with
 |nil=>rfl
 |cons s E a=>simp;show a
def Gp{V:To}:Js iM=true:=by
 induction V with
 |nil=>rfl
 |cons s E a=>simp[mvW];show a
def Qae(o:Ă)(c:Ų)(A:ϊ)(w:Str)(pl:ϡ):∃(E:Ī) (V:To),(∀h,J5 C Cr S9 h=zgh)/\qMd/\∀s,s∈E↔Th (Ru Cm (·∈Bx p) w) s nO:=by
 let#[h1,l,aE,aK,aV,aU,E0,K,u,U,H,q]:=QhA (C:=Cr) o c A w pl;let eq:RrG E0 K u U=Ru Cm (·∈Bx p) w:=funext λx=>propext (q x);let O:UO (RrG E0 K u U) cK:=by rw[eq];show Qar o c A
 let#[h2,aT,T,i,M,D,L,n]:=QaK (C:=C) O H;let N:∀e∈T,zq8:=λe d=>Nd (Wu _ (UT cK) (D e d) λt S=>(O.th e.1 t ((n e.1 t).mp (by unfold gL;rw[XR M.kd d];show S))).2) (QgW O.few)
 let P:zJe:=by
  let:=Wu (T.map (·.1)) cK M.kd λy Q=>by
   show(jk e d Q,L e d)
  rw[ND]at this;show Nd this O.few
 let#[E,V,f,a,b,e3,Z,Y,I,G]:=QdU M P N;refine#[E,V,æ h,I,λs=>(G s).trans ((n s nO).trans (by rw[eq]))]
 let X:JW C Cr S9 []=sO (zm4,f):=by
  simp[JW,Qs,l,i,e3]
 let:=Qch (m:=JW C Cr) (args:=S9) (as:=S9) (ns:=[]) (os:=[]) (os':=[]) (g:=f) (h:=h) (w:=zm4) (w':=Ì zI) (Qdy Ç) Ç rfl X rfl Ç (by
  let r:∀(j:Nat) (ws:À W),f[j]?=sO jT->CM->res (Wx [] [] h.length) f 3 j=sO jT:=λj ws l i=>by
   unfold res;rw[show Wx [] [] h.length j=nO from rfl];show j9 l;rw[Xc _ _ i];rfl
  let z:=r a _ Z YK;let v:=r b _ Y Gp
  simp[th,ths,z,v])
 apply box frN (JW C Cr) _ h=_;simpa[Zd]using this
def Qhd(l:Ă)(A:ϊ){E:Ī}{V:To}(m:∀s∈E,zG8)(hz:E.length<=5121600):∃L:Ī,(∀h,XC [QO p,Ì zI] h=sO (Î (L.map seW),h))/\∀s,s∈L↔s∈E/\s.1=1/\jQa:=by
 classical
 refine#[E.filter λs=>w6,λh=>Qi (g:=[]) (by simp[YK,Gp]) ?_ (by simp[YK]),λs=>by rw[Ff,decide_eq_true_eq]];let e:=A.few
 let t:Zz XN qxe [nO,sO 0] ΢ Uo jN2 [ė,jg7,nO] []=sO (Î iI,[]):=by
  rw[WZ (src:=nO) (caps:=[ė]) (xs:=out) Qu qR4 (λs=>lW TW) (by unfold Qv;simp[A.s,VE]) fL Ħ Ml (λs d _=>?_) (BE e)]
  ·rw[IU.mpr Ŕ];rfl
  ·let q:=λh=>QbL (h:=h) (A.rc s d).v;rw[Qmg]at q;simp[q]
 let r:Zz XN qxf zab ΢ jCg î [ė,jg7,sO (Þ iI)] []=sO (Î ((E.filter λs=>w6).map seW),[]):=by
  rw[WZ (src:=nO) (caps:=[sO (Þ iI)]) (xs:=E) seW (λs=>w6) seW (by unfold Qv;simp[VE]) fL Ħ (qa s d) (λs _ _=>Ê) (Nd hz à)]
  ·rfl
  ·let#[c,n,f]:=Qi5 (QgD l (s:=sq out s.2.1)) s.2.2;let o:atI iI (s.2.1:Int)=sO (lW xl8):=qQ6 (m s d)
   by_cases z:s.1=1
   ·let:w6=c:=by
     cases c with
     |true=>show decide_eq_true #[z,f.mp rfl]
     |false=>show decide_eq_false λq=>absurd (f.mpr q.2) Ç
    rw[this];simp[seW,z,o,n]
   ·let:w6=false:=decide_eq_false λq=>z q.1;rw[this];let i:¬(s.1:Int)=1:=Ô
    simp[seW,z,i]
 show UX (QG (Qw t) (Qem r))
#print"-"
section
variable{bs ws:Á}{p:Ó}{out:Ý}{C Cr:Addr}{w:Str}
abbrev Qjm(p:Ó)(out:Ý)(w:Str)(pl:ϡ):Prop:=∃n b,Th (Ru Cm (·∈Bx p) w) (1,n,b) nO/\RdL (lnO p AA) b
def Xh(e:Ă)(c:Ų)(l:yO)(A:ϊ)(hw:kN){q:Pl}(x:zai):∃d:Bool,(∀h,QJ C Cr zlb h=vO d)/\(d=false↔Qjm p out w ug):=by
 let#[E,V,D,t,j]:=Qae (C:=C) (Cr:=Cr) e c A w ug;let O:=Qar (w:=w) (pl:=sO q) e c A;let#[L,B,o]:=Qhd (E:=E) (V:=V) e A (λs u=>(USp_in.mp (O.th s nO ((j s).mp u)).1).2.1) (BE t);refine#[L.isEmpty,λh=>jI,?_]
 ·let z:=λh=>Qd5 e l hw x h;let m:∀h,J5 C Cr zlb h=zgh:=D;refine UX (QG (VY (v:=.non) (h1:=[]) gD) (Qem ?_));unfold Y5;simp[m,B,Qbi]
 ·constructor
  ·intro h;cases L with
   |nil=>cases h
   |cons s r=>
    let#[i,f,y]:=(o s).mp Nw;show j6 a n b s;simp only at f;show ϑ f #[n,b,(j _).mp i,y]
  ·rintro⟨n,b,i,f⟩
   let:=(o (1,n,b)).mpr #[(j _).mpr i,rfl,f];cases L with
   |nil=>cases this
   |cons s r=>rfl
#print"-"
section
variable{bs ws bs':Á}{p:Ó}{g:Nat}{il:Ln}
def QeJ(n:Ă)(s:∃x,vw/\ï<=17)(m:∀b∈bs,b∈bs')(u:PlainL bs' ws il):zvc:=by
 show pI j o s;cases p with
 |nil=>cases o
 | cons x r=>
  cases(o)
  let mono:∀{t l},zbc t l->LineOk bs' ws t l:=λ{t l} h=>by
   cases h with
   |plain h=>
    cases h with
    |pair a b c d=>show q5 (.pair kU b (m _ c) (m _ d))
    |first a b=>show q5 (.first kU zW7)
    |second a b=>show q5 (.second kU zW7)
    |same a b=>show q5 (.same kU zW7)
    |none a=>show q5 (.none kU)
    |tell a=>show q5 (Ae kU)
   |«do» z=>show .do z
   |blk z=>show .blk z
   |back z=>show .back z
  let nm:((pin g il (j::r)).map (·.1))=((j::r).map (·.1)):=Qgp
  let A:∀l,l∈ins g il j.2->l∈j.2\/l=il:=λl q=>by
   unfold ins at q
   show ů q h
   show š (Dt h)
   ·rcases NI.mp h with h|h
    show Ŗ h
    show š (FI h)
  refine#[by simp[pin],n.len,Ò y f,Ò y f,Ϭ i y f l q,by rw[nm];show n.nd,Ï i y f,Ï i y f]
  ·show ϲ f
   ·let:=n.bal j Nw;rw[bal_iff]at this ⊢;apply Xb (zF7 j) []=sO [];rw[Gb,Km u];unfold ins;rw[U6,Ej];show this
   ·show n.bal y (Φ f)
  ·show ϲ f
   ·apply qv9<=100;rw[Wc];omega
   ·show n.sz y (Φ f)
  ·rw[nm];cases i with
   |zero=>
    cases f
    rcases A l q with h|rfl
    ·show mono (n.ok 0 j rfl l h)
    ·show q5 u
   |succ i=>show mono (n.ok (i+1) y f l q)
  ·cases i with
   | zero=>
    cases f;let:=n.dos 0 j rfl;apply qyh<=_
    let e:qyh=dcn j.2:=by
     let:=Dk (p:=YU) (l₁:=j.2.take g) (l₂:=j.2.drop g);rw[Ej]at this;unfold ins dcn;rw[Dk,Iu,Kp u,this];simp
    rw[e];show this
   |succ i=>show n.dos (i+1) y f
  ·cases i with
   |zero=>
    cases f;apply qv9<=18;rw[Wc];omega
   |succ i=>show n.sm (i+1) y f
def Wz(c:Ă)(s:zvc)(h:MH):Jq [QO p,Λ g,Qj il] h=sO (QO Ő,h):=by
 refine uN;cases p with
 |nil=>show absurd rfl c.ne
 | cons x r=>
  let e:=c.sz x Nw;let j:=c.len;let f:atI zG9 0=fC:=by rw[QqL];rfl
  let v:Yj va nO (sO zd2)=zD5:=qW9
  let u:Yj va (sO zd2) nO=zD6:=qmf
  let i:zPb zG9=zbi:=(Kt zG9 1).trans rfl;let y:((x.2.take g).map Qj).length<=100:=Nd (by rw[ND,N4];show Dj _ _) e;let w:((x.2.drop g).map Qj).length<=100:=Nd (by rw[ND,DY];show EC _ _) e;let ei:(ins g il x.2).map Qj=zD5++Qj il::zD6:=by unfold ins;simp
  rw[NO]at j;generalize zD5=T1 at *;generalize zD6=T2 at *;let q:T1.length+1<=sizeLine:=xc;let o:T1.length+(uf T2)<=sizeLine:=xc;let b:T1.length+1+T2.length<=sizeLine:=xc;let n:1+r.length<=sizeLine:=xc;let a:r.length+1<=sizeLine:=xc;let m:zP5:=Ú
  let l:qT:=Ú
  simp only[NH]at f i
  let t:QO (pin g il CA)=Ì (.tup [.str x.1,.tup (T1++Qj il::T2)]::zbi):=by
   unfold QO pin;rw[NH,<-ei];rfl
  let d:zPb (W.tup [.str x.1,Ì va]::zbi)=zbi:=i;rw[t];simp[VL,Qs,QO,f,v,u,d,q,o,b,n,a,m,l,V5]
#print"-"
abbrev mvd(g:Nat)(q:Pl):Pl:=(q.1,ft g q.1 q.2)
def Qkt{g j k:Nat}(h:ta g j=ta g k):j=k:=by unfold ta at h;show zve
def Qg6{g:Nat}{a b:Pl}(h:mvd g a=mvd g b):a=b:=by
 show jw1;unfold mvd ft at h;show iV h;split at h
 ·rw[Qkt h]
 ·rw[h]
def QlY{g:Nat}{q:Pl}{t:Spt}:cm (sO zS7) qp1=cm ug t:=by
 let#[w,i,k,hd]:=t;unfold cm Ap;cases hd with
 |true=>rfl
 |false=>
  show qIh;let:((i,ft g i k)=mvd g q)↔((i,k)=q):=#[λh=>Qg6 (show mvd g (i,k)=_ from h),λh=>by rw[<-h];rfl]
  rw[Om,decide_eq_true_eq,decide_eq_true_eq];show this
def QnN{g:Nat}{q:Pl}:Cnd g ug (sO zS7) false:=λt=>by
 refine#[λ_=>QlY,ύ z #[by rw[QlY,Lm],?_]];show jXb;simp only[OP,O3,decide_eq_false_iff_not];show Ď f d q;intro e;unfold mvd ft ta at e;show iV e;rw[Ĳ]at e;split at e<;>omega
def QqU{g:Nat}:Cnd g Hl (sO (0,g+1)) true:=λt=>by
 refine#[æ e,æ z]
 ·let#[w,i,k,hd]:=t;cases hd with
  |true=>rfl
  | false=>
   let ne:¬(i=0/\k=g):=λh=>by
    let#[f,d]:=KS (g:=g) (s:=#[w,i,k,false]) h.1 h.2 rfl;rw[f,d]at e;simp at e
   unfold cm Ap ft;show qIh;refine(decide_eq_false ?_).trans (decide_eq_false λh=>ne zhc).symm;intro h;show iV h;rw[Ĳ]at h;unfold ta at h;split at h
   ·omega
   ·show ne #[rfl,Ô]
 ·show jXb;rw[c,b,a];simp
def QmR{g:Nat}:mvd g (0,g)=(0,g):=by simp[mvd,ft,ta]
section
variable{E E':Egs}{B B':vN}{V:vM}{a d:yX}{il:Ğ}{w:Str}
def QiY(Q:Put E E' B B' V a d il false){s:Qr}{t:Thg}(h:ϥ vk):Th cA (s.1,a s.2.1,s.2.2) xcf:=by
 let l:∀{m c g},(vV->g=c)->(vH->c=(g ||false))->g=c:=λ{m c g} e b=>by
  by_cases z:vV
  ·show e z
  ·rw[b z,Lm]
 cases h with
 | en h=>
  cases h with
  |en f h=>
   show(dY,qq7)
 | kp h x=>
  cases h with
  |kp f j h=>
   show(dY,.kp (.kp i j (Q.lb2 f h)) zVf)
 | wr h x=>
  cases h with
  |wr f j h=>
   show(dY,.wr (.wr i j h) zVf)
 | un h x y=>
  cases h with
  |un f j h=>
   show(dY,.un (.un i j h) zVf (Uc Q y))
#print"-"
section
variable{p:Ó}{g:Nat}{il:Ln}{out out':Ý}{bs ws bs' ws':Á}{w:Str}
def QnW(a:Ă)(c:Ų){s:Spt}{b:Str}(h:RdL TW b):CW:=by
 rcases h with⟨x,e⟩|⟨x,e⟩|e<;>show(Qaq a c).mpr #[_,QfB e,by show Pi]
def GJ(d:Ă)(a:xU)(B:Ų)(o:cx)(H:j4)(A:ϊ)(l:zy9)(I:Il (·∈Bx p) il){pl f:ϡ}{M:Bool}(E:Cnd g pl f M) :
  qg7 f↔qN0\/∃n b,vm/\zN6≠zff/\zG7/\Th (Ru (qjb f) (·∈Bx Ő) w) (1,BC n,b) nO:=by
 let Q:=Qgj d a B o H A l I E;let U:=Qar (w:=w) (pl:=pl) d B A;let N:=Qar (w:=w) (pl:=f) a o l;let r:jn0:=ql4;let u:jqb:=λh=>Kj l qMg;let t:jqc:=λh=>Kj l (Vs d a H qMg);constructor
 ·rintro⟨x,b,h,i⟩
  let y:=zyj N;obtain⟨s,m,e|⟨e,z⟩⟩:=Yt d a H (l.rch _ (Vu y))
  ·show jL6;let C:x=qJ zF6:=by unfold nD;rw[c,<-e,Kf l y]
   rw[e,zfg d m]at i;let#[D,L,G]:=(Kr Q h (QnW d B i)).1 _ j C;cases D with
   |none=>show ø #[_,b,G,Ϲ c i]
   |some q=>cases L
  ·show jL6;let C:x=BC zF6:=by unfold nA;rw[c,<-e,Kf l y]
   rw[e,G6 d H z]at i;show Ũ #[_,b,j,Ϲ c z,i,C▸h]
 ·rintro(⟨n,b,h,i⟩|⟨n,b,j,z,i,h⟩)
  ·let j:=zyj U;refine#[qJ n,b,Uc Q h,?_];let:jM8:=XZ (t (r j));rw[this,zfg d (r j)];show i
  ·refine#[BC n,b,h,?_];let:jM9:=XZ (u (r j));rw[this,G6 d H z];show i
def Qcb(e:Ă)(c:xU)(i:Ų)(d:cx)(H:j4)(A:ϊ)(l:zy9)(I:Il (·∈Bx p) il)(hi:∀b,¬zG7){pl a:ϡ}{j:Bool}(f:Cnd g pl a j) :
  qg7 a↔qN0:=by
 rw[GJ e c i d H A l I f];show#[λh=>h.resolve_right λ#[_,b,_,_,q,_]=>hi b q,.inl]
def QnH(A:ϊ){q:Pl}{s:Qr}{t:Thg}(h:Th (Ru (EgN p out ug) (·∈Bx p) w) s t)(e:cm ug Rz=true):s.1=1:=by
 let key:∀{n l m c d},EgN p out ug n l m c->cm ug (AT m)=true->ltc c d=1:=λ{n l m c d} #[o,t,j,u,_,r] e=>by
  rw[u,XZ (za0 o j)]at e;rw[r,e];rfl
 cases h with
 |en h=>cases h with|en f h=>show zdj
 |kp h a=>cases h with|kp f i h=>show zdj
 |wr h a=>cases h with|wr f i h=>show zdj
 |un h a b=>cases h with|un f i h=>show zdj
def Qdq{box:Str}(i:Ă)(a:GoodP 100 bs' ws' wH)(y:Ų)(l:cx)(H:Pn p g zw6)(A:ϊ)(r:Al wH out')(u:box∈Bx p) :
  Qjm wH out' w Hl↔Qjm p out w Hl\/∃s:Qr,Th (Ru (EgN p out nO) (·∈Bx p) w) s nO/\zaj/\cm Hl Rz=true:=by
 let D:jR4:=by
  show qa1
 let Q:=Qgj i a y l H A r (Ae u) D;let U0:=Qar (w:=w) (pl:=nO) i y A;rw[GJ i a y l H A r (Ae u) D];show S8 #[?_,?_]
 ·rintro⟨n,b,d,z,L,h⟩
  obtain rfl:box=b:=by
   rcases L with⟨x,e⟩|⟨x,e⟩|e
   ·simp at e
   ·simp at e
   ·show yq e
  show PK O N M z
  let B:BC n≠qJ n:=λe=>z (by
   let j:=A.rch _ (Vu d)
   show KU (Kj r qMh) (Kj r (Vs i a H qMh)) e)
  let#[I,S,P]:=(Kr Q h u).2 n d B rfl;cases I with
  |some q=>cases S
  |none=>
   refine#[(0,n,box),Qk3 (E0:=EgN p out nO) (λ qIg=>#[d,t,v,o,m,rfl]) P,rfl,?_];apply cm _ AA=true;unfold cm;rw[O,N,M];simp
 ·rintro⟨⟨C,n,b⟩,h,rfl,c⟩
  let d:=zyj U0;let#[f,G]:=(QnE (E:=EgN p out Hl) (λ qIg=>#[_,d,t,v,o,m,rfl]) h).1;let:f=1:=QnH A G c;subst this;refine#[n,b,d,?_,å CK,QiY Q G];let c:cm Hl AA=true:=c;unfold cm at c;simp only[N0,Fo,decide_eq_true_eq,FN]at c;let#[o,m]:=KS c.2.1 c.2.2 c.1;rw[o,m];simp
#print"-"
structure PIn(bs ws bs':Á)(p:Ó)(g:Nat)(il:Ln):Prop where
 hg:Ă
 hg':zvc
 hb:Ų
 hb':cx
 hw:yO
 le:∃x,vw/\g<=ï
 pn:j4
 il:Il (·∈Bx p) il
section
variable{bs ws bs':Á}{p:Ó}{g:Nat}{il:Ln}{w:Str}{C Cr:Addr}
def PIn.wd9(I:Ta)(hw:kN):w∈Wd Ő:=by
 let#[l,a,e]:=((Qf2 I.hg I.hw).1 w).mp hw;show((Qf2 I.hg' I.hw).1 w).mpr #[l,(Qdm I.pn I.hg.ne).mpr (đ a),e]
def PIn.at0(I:Ta):∃x a,vw/\qqa/\zRf=ï+1/\g<=ï:=by
 let#[x,b,c]:=I.le;cases p with
 |nil=>cases b
 |cons y r=>show ß b #[_,_,rfl,rfl,Wc,c]
def PIn.pl(I:Ta){q:Pl}(e:zai):mvd g q∈pls Ő:=by
 let#[x,a,b]:=pls_in.mp e;show Ď d c q;cases p with
 |nil=>cases a
 | cons y r=>
  cases d with
  |zero=>
   cases(a);refine pls_in.mpr Mc;apply ft g 0 c<=(ins g il x.2).length;rw[Wc];let b:c<=ï:=b;unfold ft ta;rw[Ĳ];split<;>omega
  |succ i=>show pls_in.mpr (ź x a b)
def PIn.g0(I:Ta):(0,g)∈pls p/\(0,g)∈pls Ő/\(0,g+1)∈pls Ő:=by
 let#[x,a,d,b,e,c]:=I.at0;show#[pls_in.mpr (ź x d c),pls_in.mpr #[a,b,by apply g<=_;omega],pls_in.mpr #[a,b,by apply g+1<=_;omega]]
def QeP(q:Pl)(h:MH):XJ [JG q,Λ g] h=sO (JG zS7,h):=by
 refine uN;show Ď a b q;let c:qT:=Ú
 by_cases z:a=0
 ·subst z
  by_cases y:b<=g
  ·let d:¬zd2<b:=Ô
   show qBf
  ·let d:zd2<b:=Ô
   show qBf
 ·let e:¬(a:Int)=0:=Ô
  simp[Zo,Qs,JG,mvd,ft,z,e,c]
def Qjx{a b:Bool}{h:MH}:wEq zW3 yY h=zm9:=by
 rw[xN];show qFf
def Qpb{a b:Bool}{h:MH}:wNe zW3 yY h=jy7:=by
 rw[Qnl rfl rfl AO AO];show qFf
def UG{a b:Bool}{P:Prop}(h1:a=false↔P)(h2:b=false↔P):a=b:=by
 show qWg
 ·show û (h2.mpr (h1.mp rfl)) Ç
 ·show û (h1.mpr (h2.mp rfl)) Ç
 ·rfl
def QhU(I:Ta)(hw:kN)(hi:∀b,¬zG7)(c:Nat)(h:MH):JC C Cr [QO p,Λ g,Qj il,Æ w,Λ c] h=sO (ŵ,h):=by
 let#[j,A]:=QeG I.hg;let#[d,f]:=QeG I.hg';show qqc a;let t:0<M8:=Fk g0
 obtain⟨q,s,eq⟩:∃q∈pls p,atI TC (ē%(M8:Int))=sO Ph:=by
  let u:c%M8<M8:=Di _ t;show#[(pls p)[c%M8],Eu u,by rw[<-Iw,QP,NB,Nj u];rfl]
 let#[Q,O,G]:=zvd s;let#[z,N,E]:=iQ f a (I.pl s);let#[y,o,r]:=zvd g0;let#[P,n,D]:=iQ f a g1;let#[x,m,B]:=iQ f a g2;let L:=@Qcb p g il j d bs ws bs' ws w I.hg I.hg' I.hb I.hb' I.pn A f I.il hi;let Y:z=Q:=UG (Ć E (L QnN)) G
 let S:jR4:=by
  show qa1
 let X:P=y:=UG (Ć D (L S)) r;let U:x=y:=UG (Ć B (L QqU)) r;subst Y X U;let H:=qR5;let M:=WG I.hg;let em:=QeP (g:=g) q;let i:qT:=Ú
 let l:yf<M8:=Ô
 refine jI;refine UX (QG (Qw (v:=QO Ő) (h1:=[]) (Μ H)) (QG (Qw (v:=JG q) (h1:=[]) (by simp[M,t,l,eq])) (QG (Qw (v:=.bl z) (h1:=[]) (Μ O)) (QG (Vi (h1:=[]) (by simp[em,N,Qpb]) rfl) (QG (Qw (v:=.bl x) (h1:=[]) ?_) (Qem (Qhh (h1:=[]) ?_ ?_)))))))
 ·show mN o;simp[i,o]
 ·show mN n;simp[i,n,Qjx]
 ·show mN m;simp[i,m,Qjx]
#print"-"
def QrL{ma a:ME}{σ:MSt}{h h1:MH}(e:jr9):qR6=sO (ŵ,h1):=by unfold mOr;rw[e];rfl
def Qr1{ma a:ME}{σ:MSt}{h h1:MH}{q:Ü}(e:jra)(b:a σ h1=q):qR6=q:=by unfold mOr;show ī e b
def Qmd{ma:ME}{σ:MSt}{h h1:MH}{b:Bool}(e:vR=sO (.bl b,h1)):Y5 ma σ h=sO (ö (!b),h1):=by unfold Y5;rw[e];rfl
section
variable{bs ws bs':Á}{p:Ó}{g:Nat}{w box:Str}{C Cr:Addr}
noncomputable abbrev tS9(p:Ó)(g:Nat)(box w:Str)(out:Ý)(a:Bool)(x6 x7 x8 x9:ê):MSt:=[ė,Br g,qR7,zF,sO zW3,zni,x6,x7,x8,x9]
def QmY{a b:Str}{h:MH}:qlf=sO (ö (ό (a=b)),h):=by
 rw[xN]
 show zn7 a b
def Qh2(I:PIn bs ws bs' p g zw6)(hw:kN)(hx:box∈Bx p)(h:MH):JE C Cr [QO p,Λ g,.str box,Æ w] h=sO (ŵ,h):=by
 classical
 let#[c,A]:=QeG I.hg;let#[ae,A']:=QeG I.hg';show qqc Q;let#[e,e3,m3]:=zvd g0;let#[z,e4,m4]:=iQ A' Q g1;let#[E,V,eh,lE,O]:=Qae (C:=C) (Cr:=Cr) I.hg I.hb A w nO;let U0:=Qar (w:=w) (pl:=nO) I.hg I.hb A;let L:=Qdq (w:=w) I.hg I.hg' I.hb I.hb' I.pn A A' hx;let G:qT:=Ú
 letI P:Qr->Prop:=λs=>zaj/\zu4
 let#[af,h2,el,hd,m,l,j,rfl,rfl,H]:=Kh (f:=seW) (src:=nO) (items:=zah) (b:=VC qV8) (body:=Zm C Cr) (xs:=E) (λd i h=>∃(hd:Bool) (m l j:ê),i=qg8/\h=[]/\(hd=true↔∃s∈d,P s)) Ri (by
  rintro d s rr X i h ⟨hd,m,l,j,rfl,rfl,H⟩
  let sin:s∈E:=vC X
  let hn:=(USp_in.mp (U0.th s nO ((O s).mp sin)).1).2.1;let ea:=Qq9 hn;refine#[jD7,rfl,?_]
  let snoc:(∃t∈d++[s],P t)↔(∃t∈d,P t)\/P s:=by
   constructor
   ·rintro⟨t,S,q⟩
    show ů S y
    ·show ø (ź t y q)
    show jC3
   ·rintro(⟨t,S,q⟩|q)
    show jdb t S s
  let o:=Qqp (t:=sq c s.2.1) (q:=(0,g)) (h:=[]);let x:=λh=>Qab (s:=sq c s.2.1) (h:=h);let v:=λh=>QmY (a:=s.2.2) (b:=box) (h:=h);show mN o
  by_cases D:zaj
  ·by_cases B:zu4
   ·refine#[tS9 p g box w c true jU7 jRf jRg nO,[],G8 (h1:=[]) ?_ (Qw rfl),true,_,_,_,rfl,rfl,?_]
    ·show qIi
    ·rw[snoc];show#[λ_=>å (ĺ D B),ς]
   ·refine jj5
    ·rw[Bool.not_eq_true]at B;show qIi
    ·rw[snoc,H];show#[.inl,λq=>q.resolve_right λq=>B q.2]
  ·refine jj5
   ·simp[v,D]
   ·rw[snoc,H];show#[.inl,λq=>q.resolve_right λq=>D q.1]) E [] rfl zv3 [] #[false,nO,nO,nO,rfl,rfl,Ê]
 let Z:∀h,J5 C Cr [QO p,Æ w,.non] h=zgh:=eh
 let ei:Qv jz8 zv3 []=sO (zah,nO,[]):=by
  unfold Qv KI;simp[Z,VE]
 let ef:ZM (Qv jz8) qEg (Zm C Cr) zv3 []=sO (.nx qc5 []):=by
  show(CP,el)
 let u:(hd=true)↔∃s:Qr,Th (Ru (EgN p c nO) (·∈Bx p) w) s nO/\zaj/\zu4:=by
  show ī H #[ύ #[s,U,q] #[s,(O s).mp U,q],ύ #[s,U,q] #[s,(O s).mpr U,q]]
 let fin:z=! ql6:=by
  let:z=false↔(e=false\/hd=true):=by rw[m4,L,m3,u]
  cases z<;>cases e<;>cases hd<;>simp at this ⊢
 let v:=A.s;let ep:=qR5;let ab:∀h,QJ C Cr [QO p,Æ w,jud] h=vO e:=e3;let aa:∀h,QJ C Cr [QO wH,Æ w,jud] h=vO z:=e4
 let e9:mOr (Y5 (Qg 3 zS8 (jL SY))) Ž qc5 []=sO (ö ql6,[]):=by
  let q:=Qmd (ma:=Qg 3 zS8 (jL SY)) (σ:=qg8) (h:=[]) (h1:=[]) (b:=e) (by simp[G,ab]);cases e with
  |false=>show QrL q
  |true=>show Qr1 q Ç
 refine jI;refine UX (QG (σ1:=[ė,Br g,qR7,zF,sO zM5,nO,nO,nO,nO,nO]) (h1:=[]) (Qw rfl) (QG (σ1:=tS9 p g box w c false nO nO nO nO) (h1:=[]) (Qw (Μ v)) (QG ef (QG (Qw e9) (Qem ?_)))));let en:=Qmd (ma:=Qb 9) (σ:=tS9 p g box w c hd m l j (sO qJ1)) (h:=[]) (h1:=[]) (b:=!e ||hd) Ç;let Y:∀h,Jq [QO p,Λ g,Ì [jP5,.str box]] h=sO (QO wH,h):=ep
 let e1:Qg 3 zS8 (Qa jDj SY) (tS9 p g box w c hd m l j (sO qJ1)) []=sO (.bl z,[]):=by
  simp[G,Y,aa]
 let cut:∀{r N:ME} {i:MSt} {a b:W},r i []=z7 a->N i []=z7 b->Qc wEq r N i []=wEq a b []:=λ{r N i a b} e1 e2=>by
  unfold Qc;rw[e1,Nv,e2];rfl
 refine(cut e1 en).trans ?_;rw[Qjx,fin];simp
#print"-"
def Qgm{xs:Á}(c d:Nat)(a:xc6):∃x∈xs,∀h,wIx (QL xs) (Ź jx8) h=sO zpf:=by
 let#[x,a,e]:=Xz (xs:=xs) c d a;show#[x,a,λh=>by unfold QL;simp[e]]
def QmQ{t:MT}{a b:SM}{σ:MSt}{h h1:MH}{r:yc}(e:qf8)(c:a σ h1=r):tU=r:=G8 e c
section
variable{C Cr:Addr}{ns:Ŝ}
noncomputable abbrev lS9(ns:Ŝ)(p:Ó)(b a x6 x7 x8:ê):MSt:=[sO qp,ė,sO HD,b,a,sO qyg,x6,x7,x8]
def main(C Cr:Addr)(ns:Ŝ)(_:qPc):∃h',K2 C Cr [zy7] []=sO (ŵ,h'):=by
 let#[bs,M,p,#[b0,b3,bn],hw,n,P,ep]:=Qay (ns:=ns);let o:Ų:=Ô
 let eW:=GC n hw;let eB:=Yd n o;let#[c,ec]:=X8 ns 1 à;let#[c2,Q]:=X8 ns 2 à;show j6 x H D P;let ex:atI MV 0=fC:=Xg (i:=0) H;obtain⟨g,E,eg⟩:∃g:Nat,g<=ï/\ē/3%((ï:Int)+1)=g:=#[c/3%(ï+1),IQ.mp (Di _ zZ7),zG4]
 let z1:yf<(ï:Int)+1:=Ô
 let z9:0<ï+1:=FC _;let e1:QA 1 jJi [sO qp,nO,nO,nO,nO,nO,nO,nO,nO] []=sO (.nx jk6 []):=by simp[ep]
 let Z:QA 2 jW3 jk6 []=sO (.nx jj6 []):=by simp[eW]
 let Y:QA 3 jJh jj6 []=sO (.nx jj1 []):=by
  let:∀h:MH,Qy [qz,zfh] h=jfg:=ec;simp[this]
 let X:QA 4 qLf jj1 []=sO (.nx jif []):=by
  simp[ex,z1,z9,eg]
 let U:QA 5 jW6 jif []=sO jFd:=by simp[eB]
 let S:wEq HD vG []=sO (.bl (Wd p).isEmpty,[]):=by
  unfold QL;let pl:pln (Þ RW)=true:=Kq (xs:=Wd p);let dp:dep (Þ RW)<=40:=YaJ (BE (YN (xs:=Wd p)));rw[Qbm pl rfl dp RU];cases Wd p<;>simp[eqW,Ki]
 by_cases L:Wd p=[]
 ·refine#[[],UX (QG e1 (QG Z (QG Y (QG X (QG U (QoH (QmQ (h1:=[]) ?_ (Qem (v:=ŵ) (h1:=[]) rfl))))))))];rw[L]at S;simp[L,S]
 ·let w0:0<zLc:=Dz.mpr L;let#[w,q,e7]:=Qgm c 100 w0;let#[l,I,j]:=((Qf2 n hw).1 w).mp q
  let bp:0<m7:=by
   show lp O n I
   let:∃b,zM2:=by
    cases O with
    |plain r=>cases r<;>first|(show Ah j;done)|show#[_,by simp[bxL];show jv]
    |«do» z=>show Ah j
    |blk z=>show zwf j
    |back z=>show Ah j
   let#[b,u]:=this;show Fk ((Qaq n o).mpr (ź l I u))
  let#[A,d,e8]:=Qgm c 500 bp;let wl:yf<zLc:=Ô
  let bl:yf<m7:=Ô
  let f:∀b∈Bx p,b∈bs:=λb u=>by
   let#[l,I,u]:=(Qaq n o).mp u;show(lp O n I,QgM O b u)
  let a:∀b∈bs,b∈bs++[zx4]:=λb u=>NT _ u;let mk:∀{e:Ln},jS4->Il (·∈Bx p) e->PIn bs M xld p g e:=λ{e} r hi=>#[n,QeJ n (ź x H D) a r,o,m6,hw,ź x H E,#[λy hy=>by rw[H]at hy;cases hy;show E,Km r,Kp r],hi]
  push_cast at e7 e8;let s6:ZE jfd qw3 QN jCh []=sO jFd:=Vi (h1:=[]) (by simp[S,L]) rfl
  let s7:QA 6 jyi jCh []=sO (.nx jG5 []):=Qw (by
   let N:∀h,J0 [QL zA4] h=sO (.int zLc,h):=λh=>zP8
   simp[N,wl,w0,e7])
  let s8:QA 7 jyj jG5 []=sO (.nx jEh []):=Qw (by
   let N:∀h,J0 [QL sW] h=sO (.int m7,h):=λh=>zP8
   simp[N,bl,bp,e8])
  by_cases z:ē%3=0
  ·let t:=Qh2 (C:=C) (Cr:=Cr) (mk (Ae zJg) (Ae d)) q d [];refine#[[],UX (QG e1 (QG Z (QG Y (QG X (QG U (QG s6 (QG s7 (QG s8 (QoH (QmQ (h1:=[]) ?_ jlh))))))))))]
   ·simp[z]
   ·simp[t]
  ·obtain⟨e,s,e9⟩:∃e:Ln,(e=(["same",A,A]:Ln)\/e=(qMf:Ln))/\atI [W.tup [xc2,Æ A,Æ A],Ì [xc3,.str "new"]] (ē/7%2)=sO zZe:=by
    obtain⟨m,hm,em⟩:jo3:=#[c/7%2,HA,zG4]
    rw[em]
    match m,hm with
    |0,_=>show jBc
    |1,_=>show jBd
   let r:jS4:=by
    show tX s
    ·show .same zJg zJg
    ·show .none Ç
   let hI:Il (·∈Bx p) e:=by
    show tX s
    ·show .same d
    ·show .new λh=>bn (f _ h)
   let t:=QhU (C:=C) (Cr:=Cr) (mk r hI) q (by rcases s with rfl|rfl<;>simp[RdL]) c2 [];let G:∀h:MH,Qy [qz,zfi] h=sO (Λ c2,h):=Q;let z2:qT:=Ú
   let z3:sJ:=Ú
   let s9:QA 8 jx4 jEh []=sO (.nx (lS9 ns p Be (SS g) zK5 qRe qc0) []):=Qw (by simp[z2,z3,e9]);refine#[[],UX (QG e1 (QG Z (QG Y (QG X (QG U (QG s6 (QG s7 (QG s8 (QG (Vi (h1:=[]) ?_ rfl) (QG s9 jlh))))))))))]
   ·simp[z]
   ·simp[G,t]
#print"-"
#print"-My"
namespace Mi
open L2
section
variable{p:oS}
def ar0(h:p [])(us:È)(e:us.length=0):p us:=List.eq_nil_of_length_eq_zero e▸h
def arS{n:Nat}(h:∀a us,us.length=n->p (a::us)):∀us:È,us.length=n+1->p us
 |a::us,e=>h a us (Nat.succ.inj e)
def ar1(h:∀a,p [a]):∀us:È,us.length=1->p us:=arS λa=>ar0 (h a)
def ar2(h:∀a b,p [a,b]):∀us:È,us.length=2->p us:=arS λa=>ar1 (h a)
def ar3(h:∀a b c,p zZ1):∀us:È,us.length=3->p us:=arS λa=>ar2 (h a)
def ar4(h:∀a b c d,p [a,b,c,d]):∀us:È,us.length=4->p us:=arS λa=>ar3 (h a)
def ar5(h:∀a b c d e,p [a,b,c,d,e]):∀us:È,us.length=5->p us:=arS λa=>ar4 (h a)
def ar6(h:∀a b c d e f,p [a,b,c,d,e,f]):∀us:È,us.length=6->p us:=arS λa=>ar5 (h a)
#print"-"
#print"-Mi"
#print "-_Z"
namespace PySem.W.Fast
abbrev tw8282970977561467212:=0
abbrev tw2126621986831907030:=0
abbrev tw11671195181585618531:=0
abbrev tw8919856002975292848:=0
abbrev tw6896424631953727651:=0
abbrev tw1145515932395950158:=0
abbrev tw18002161702599064425:=0
abbrev tw6977432000328945157:=0
abbrev tw5433821186603879709:=0
abbrev tw14760019733822068836:=0
abbrev tw5497796469515749790:=0
abbrev tw653978265432241059:=0
abbrev tw8670938632905221739:=0
abbrev tw1761722767152227448:=0
abbrev tw14057031988248460840:=0
abbrev tw1830528529566526075:=0
abbrev tw14445475401183261551:=0
abbrev tw13399577378837137840:=0
abbrev tw17184293907415543347:=0
abbrev tw1311961874311445001:=0
abbrev tw11132257770926762938:=0
abbrev tw13902661421520374054:=0
abbrev tw4011672105748562517:=0
abbrev tw9802762903760305808:=0
abbrev tw16000230707629709539:=0
abbrev tw91761862629137771:=0
abbrev tw3313325992803855474:=0
abbrev tw11085314274518729937:=0
abbrev tw5554753878559932877:=0
abbrev tw2300445647828500457:=0
abbrev tw1049762020657862432:=0
abbrev tw14493195388633622617:=0
abbrev tw17888261770107641205:=0
abbrev tw8575764161769911629:=0
abbrev tw10267969199448728697:=0
abbrev tw13240838197365723317:=0
abbrev tw2562229856286037233:=0
abbrev tw2787200857906965637:=0
abbrev tw8944629776728929769:=0
abbrev tw1705359898345408100:=0
abbrev tw15622670560207243465:=0
abbrev tw5168034490949569937:=0
abbrev tw6616192409394113582:=0
abbrev tw18336082140870783356:=0
abbrev tw6447546447902855017:=0
abbrev tw12926366979503020202:=0
abbrev tw14558898945985380197:=0
abbrev tw7989866042015176635:=0
abbrev tw1242692727656094931:=0
abbrev tw1515200216939701599:=0
abbrev tw5584362167538206078:=0
abbrev tw3789601987013054523:=0
abbrev tw9371187375355034677:=0
abbrev tw17867606754574317824:=0
abbrev tw7702971040995508111:=0
abbrev tw17946540917289662643:=0
abbrev tw4235501074554045659:=0
abbrev tw7803158234821117217:=0
abbrev tw14541307177191215296:=0
abbrev tw5491056700675938489:=0
abbrev tw1736202523590180073:=0
abbrev tw3630310294150363387:=0
abbrev tw6598503629655575871:=0
abbrev tw1775982635015296965:=0
abbrev tw15303109801192575279:=0
abbrev tw3049415932224539066:=0
abbrev tw9892894029110449660:=0
abbrev tw3135394015685854557:=0
abbrev tw9241131879880596397:=0
abbrev tw2368698604934659164:=0
abbrev tw17850027249071314980:=0
abbrev tw735290707521042994:=0
abbrev tw16988700981647804899:=0
abbrev tw15037725045152584441:=0
abbrev tw9468579103155913598:=0
abbrev tw13191583249119510644:=0
abbrev tw6992975833803981058:=0
abbrev tw5842615719651271483:=0
abbrev tw218263913053557882:=0
abbrev tw17095776815783594835:=0
abbrev tw10372180279780199273:=0
abbrev tw15339951885016248419:=0
abbrev tw12583878831225611296:=0
abbrev tw12031621992700820883:=0
abbrev tw1827093024478505792:=0
abbrev tw13794002976299940512:=0
abbrev tw18034559712297152803:=0
abbrev tw4827030840503719205:=0
abbrev tw5774923477976561860:=0
abbrev tw15668538246641992080:=0
abbrev tw4059676395899846058:=0
abbrev tw5562394275079940687:=0
abbrev tw15344281215467738098:=0
abbrev tw6834666204098808064:=0
abbrev tw4067624710755123132:=0
abbrev tw5931013072413616157:=0
abbrev tw1654985655299087020:=0
abbrev tw3866856764723791748:=0
abbrev tw12638779148323372830:=0
abbrev tw2146044579308381969:=0
abbrev tw15678729454258304836:=0
abbrev tw17888867997409667107:=0
abbrev tw3123036120620932137:=0
abbrev tw14421922649909714709:=0
abbrev tw5771711896296900287:=0
abbrev tw3504865547033855965:=0
abbrev tw6175756949528706890:=0
abbrev tw8436485275919792505:=0
abbrev tw8307374633231497847:=0
abbrev tw12145799511574326707:=0
abbrev tw15431247632573375378:=0
abbrev tw12840516890839012058:=0
abbrev tw9569609261558276214:=0
abbrev tw6263586832876885532:=0
abbrev tw16566727368432053216:=0
abbrev tw7364100727613200282:=0
abbrev tw16103032808187130543:=0
abbrev tw12563039694715766260:=0
abbrev tw12609948999703624438:=0
abbrev tw6430257902925960971:=0
abbrev tw8092771996701209760:=0
abbrev tw17427798029339754597:=0
abbrev tw14911019758917421839:=0
abbrev tw14851121245017000668:=0
abbrev tw980997098893824854:=0
abbrev tw1182754599398298169:=0
abbrev tw13569413816497200469:=0
abbrev tw13661710536419637618:=0
abbrev tw10714035226042795016:=0
abbrev tw3984634525856586511:=0
abbrev tw6409551933419257738:=0
abbrev tw16711751987829797885:=0
abbrev tw14398047067386522165:=0
abbrev tw10501180528678184475:=0
abbrev tw18133241823510756293:=0
abbrev tw17017377967442700604:=0
abbrev tw11762337725397530313:=0
abbrev tw7764892769422420757:=0
abbrev tw1813665202221413709:=0
#print"-PySem.W.Fast"
end
open PySem PySem.W PyProof.Rows _Z
set_option maxRecDepth 100000 in
set_option maxHeartbeats 0 in
theorem PySem.Challenge.cw_doneroom_k83_whole_a_line_put_in_holds : PySem.Challenge.rw_doneroom_k83_whole_a_line_put_in.Holds := by
  w_on; o_law; k_head; (case hw => w_witness2)
  k_fill
  refine Mi.Qpn (l := PySem.Challenge.rw_doneroom_k83_whole_a_line_put_in) (st := (My.top 65)) (ι := Addr × Addr) (sem := fun C => My.K2 C.1 C.2) (k := 109) rfl rfl ⟨rfl, by decide, by decide⟩ rfl (fun w h Y => PySem.W.kIn_of Y) (fun _ _ _ _ _ _ _ _ => .of_eq rfl) ?F fun C => My.main C.1 C.2
  case F =>
    intro w mg h KX G
    obtain ⟨C_Growth, k_Growth, n_rules, n_things, n_tied, n_waiting, d_Growth___init__, d_Growth_put, d_Growth_tie, d_Growth_spread⟩ : ∃ C_Growth, Mi.ClsAt (L2.KOf KX) mg C_Growth "Growth" ∧ L2.NoAttr (L2.KOf KX) C_Growth "rules" ∧ L2.NoAttr (L2.KOf KX) C_Growth "things" ∧ L2.NoAttr (L2.KOf KX) C_Growth "tied" ∧ L2.NoAttr (L2.KOf KX) C_Growth "waiting" ∧ Mi.MetAt (L2.KOf KX) C_Growth "__init__" "Growth.__init__" (L2.Ze (My.top 37) 0) ["self", "rules"] ∧ Mi.MetAt (L2.KOf KX) C_Growth "put" "Growth.put" (L2.Ze (My.top 37) 1) ["self", "seat", "thing"] ∧ Mi.MetAt (L2.KOf KX) C_Growth "tie" "Growth.tie" (L2.Ze (My.top 37) 2) ["self", "seat", "other"] ∧ Mi.MetAt (L2.KOf KX) C_Growth "spread" "Growth.spread" (L2.Ze (My.top 37) 3) ["self", "seat", "thing"] := by
      unfold L2.NoAttr
      dsimp only [L2.KOf]
      refine' ⟨?C, Mi.G5 KX G ?aC ?pg ?hd ?po ?sa ?mk ?kc, ?n0, ?n1, ?n2, ?n3, Mi.Z7 ?a0 ?i0 ?l0 ?c0 ?k0 ?b0, Mi.Z7 ?a1 ?i1 ?l1 ?c1 ?k1 ?b1, Mi.Z7 ?a2 ?i2 ?l2 ?c2 ?k2 ?b2, Mi.Z7 ?a3 ?i3 ?l3 ?c3 ?k3 ?b3⟩
      (case aC => k_is); (case pg => k_is); (case hd => k_is); (case po => k_is); (case sa => k_is); (case mk => k_is); (case kc => k_is)
      (case n0 => k_is)
      (case n1 => k_is)
      (case n2 => k_is)
      (case n3 => k_is)
      (case a0 => k_is); (case i0 => k_is); (case l0 => k_is); (case c0 => k_is); (case k0 => k_is)
      (case b0 => exact fun _ _ _ _ _ _ => Mi.ar2 (by intros; rfl))
      (case a1 => k_is); (case i1 => k_is); (case l1 => k_is); (case c1 => k_is); (case k1 => k_is)
      (case b1 => exact fun _ _ _ _ _ _ => Mi.ar3 (by intros; rfl))
      (case a2 => k_is); (case i2 => k_is); (case l2 => k_is); (case c2 => k_is); (case k2 => k_is)
      (case b2 => exact fun _ _ _ _ _ _ => Mi.ar3 (by intros; rfl))
      (case a3 => k_is); (case i3 => k_is); (case l3 => k_is); (case c3 => k_is); (case k3 => k_is)
      (case b3 => exact fun _ _ _ _ _ _ => Mi.ar3 (by intros; rfl))
    obtain ⟨C_Rules, k_Rules, n_ends, n_kept, n_unwrapped, n_wrapped, d_Rules___init__, d_Rules_keep, d_Rules_wrap, d_Rules_unwrap, d_Rules_end⟩ : ∃ C_Rules, Mi.ClsAt (L2.KOf KX) mg C_Rules "Rules" ∧ L2.NoAttr (L2.KOf KX) C_Rules "ends" ∧ L2.NoAttr (L2.KOf KX) C_Rules "kept" ∧ L2.NoAttr (L2.KOf KX) C_Rules "unwrapped" ∧ L2.NoAttr (L2.KOf KX) C_Rules "wrapped" ∧ Mi.MetAt (L2.KOf KX) C_Rules "__init__" "Rules.__init__" (L2.Ze (My.top 36) 0) ["self"] ∧ Mi.MetAt (L2.KOf KX) C_Rules "keep" "Rules.keep" (L2.Ze (My.top 36) 2) ["self", "seat", "other"] ∧ Mi.MetAt (L2.KOf KX) C_Rules "wrap" "Rules.wrap" (L2.Ze (My.top 36) 3) ["self", "seat", "letter", "other"] ∧ Mi.MetAt (L2.KOf KX) C_Rules "unwrap" "Rules.unwrap" (L2.Ze (My.top 36) 4) ["self", "seat", "letter", "other"] ∧ Mi.MetAt (L2.KOf KX) C_Rules "end" "Rules.end" (L2.Ze (My.top 36) 1) ["self", "seat"] := by
      unfold L2.NoAttr
      dsimp only [L2.KOf]
      refine' ⟨?Cu, Mi.G5 KX G ?aCu ?pgu ?hdu ?pou ?sau ?mku ?kcu, ?n0u, ?n1u, ?n2u, ?n3u, Mi.Z7 ?a0u ?i0u ?l0u ?c0u ?k0u ?b0u, Mi.Z7 ?a1u ?i1u ?l1u ?c1u ?k1u ?b1u, Mi.Z7 ?a2u ?i2u ?l2u ?c2u ?k2u ?b2u, Mi.Z7 ?a3u ?i3u ?l3u ?c3u ?k3u ?b3u, Mi.Z7 ?a4u ?i4u ?l4u ?c4u ?k4u ?b4u⟩
      (case aCu => k_is); (case pgu => k_is); (case hdu => k_is); (case pou => k_is); (case sau => k_is); (case mku => k_is); (case kcu => k_is)
      (case n0u => k_is)
      (case n1u => k_is)
      (case n2u => k_is)
      (case n3u => k_is)
      (case a0u => k_is); (case i0u => k_is); (case l0u => k_is); (case c0u => k_is); (case k0u => k_is)
      (case b0u => exact fun _ _ _ _ _ _ => Mi.ar1 (by intros; rfl))
      (case a1u => k_is); (case i1u => k_is); (case l1u => k_is); (case c1u => k_is); (case k1u => k_is)
      (case b1u => exact fun _ _ _ _ _ _ => Mi.ar3 (by intros; rfl))
      (case a2u => k_is); (case i2u => k_is); (case l2u => k_is); (case c2u => k_is); (case k2u => k_is)
      (case b2u => exact fun _ _ _ _ _ _ => Mi.ar4 (by intros; rfl))
      (case a3u => k_is); (case i3u => k_is); (case l3u => k_is); (case c3u => k_is); (case k3u => k_is)
      (case b3u => exact fun _ _ _ _ _ _ => Mi.ar4 (by intros; rfl))
      (case a4u => k_is); (case i4u => k_is); (case l4u => k_is); (case c4u => k_is); (case k4u => k_is)
      (case b4u => exact fun _ _ _ _ _ _ => Mi.ar2 (by intros; rfl))
    have g_END : Mi.Glob (L2.KOf KX) mg "END" My.VH := by
      dsimp only [L2.KOf]
      refine' Mi.WI KX G ?av ?lv ?zv ?sv
      (case av => k_is); (case lv => k_is)
      (case zv => decide)
      (case sv => repeat constructor)
    have g_GIVING : Mi.Glob (L2.KOf KX) mg "GIVING" My.XB := by
      dsimp only [L2.KOf]
      refine' Mi.WI KX G ?aw ?lw ?zw ?sw
      (case aw => k_is); (case lw => k_is)
      (case zw => decide)
      (case sw => repeat constructor)
    refine ⟨?dl, fun base kb nb => ⟨(C_Growth, C_Rules), My.QjZ C_Growth C_Rules ?hO ?hA⟩⟩
    case hA =>
      dsimp only [Mi.ats, My.Qgf, Mi.Rc.at, L2.KOf]
      repeat' apply And.intro
      any_goals exact True.intro
      iterate 31 (refine' Mi.JF KX G ?za ?zl ?zc ?zk ?zb; (case za => k_is); (case zl => k_is); (case zc => k_is); (case zk => k_is); (case zb => first | exact fun _ _ _ _ _ _ => Mi.ar0 (by intros; rfl) | exact fun _ _ _ _ _ _ => Mi.ar1 (by intros; rfl) | exact fun _ _ _ _ _ _ => Mi.ar2 (by intros; rfl) | exact fun _ _ _ _ _ _ => Mi.ar3 (by intros; rfl) | exact fun _ _ _ _ _ _ => Mi.ar4 (by intros; rfl) | exact fun _ _ _ _ _ _ => Mi.ar5 (by intros; rfl)))
      exact k_Growth
      exact ⟨_, d_Growth___init__⟩
      exact k_Growth
      exact ⟨_, d_Growth_put⟩
      exact k_Growth
      exact ⟨_, d_Growth_tie⟩
      exact k_Growth
      exact ⟨_, d_Growth_spread⟩
      iterate 1 (refine' Mi.JF KX G ?za ?zl ?zc ?zk ?zb; (case za => k_is); (case zl => k_is); (case zc => k_is); (case zk => k_is); (case zb => first | exact fun _ _ _ _ _ _ => Mi.ar0 (by intros; rfl) | exact fun _ _ _ _ _ _ => Mi.ar1 (by intros; rfl) | exact fun _ _ _ _ _ _ => Mi.ar2 (by intros; rfl) | exact fun _ _ _ _ _ _ => Mi.ar3 (by intros; rfl) | exact fun _ _ _ _ _ _ => Mi.ar4 (by intros; rfl) | exact fun _ _ _ _ _ _ => Mi.ar5 (by intros; rfl)))
      exact k_Rules
      exact ⟨_, d_Rules___init__⟩
      iterate 3 (refine' Mi.JF KX G ?za ?zl ?zc ?zk ?zb; (case za => k_is); (case zl => k_is); (case zc => k_is); (case zk => k_is); (case zb => first | exact fun _ _ _ _ _ _ => Mi.ar0 (by intros; rfl) | exact fun _ _ _ _ _ _ => Mi.ar1 (by intros; rfl) | exact fun _ _ _ _ _ _ => Mi.ar2 (by intros; rfl) | exact fun _ _ _ _ _ _ => Mi.ar3 (by intros; rfl) | exact fun _ _ _ _ _ _ => Mi.ar4 (by intros; rfl) | exact fun _ _ _ _ _ _ => Mi.ar5 (by intros; rfl)))
      exact k_Rules
      exact ⟨_, d_Rules_keep⟩
      exact k_Rules
      exact ⟨_, d_Rules_wrap⟩
      iterate 1 (refine' Mi.JF KX G ?za ?zl ?zc ?zk ?zb; (case za => k_is); (case zl => k_is); (case zc => k_is); (case zk => k_is); (case zb => first | exact fun _ _ _ _ _ _ => Mi.ar0 (by intros; rfl) | exact fun _ _ _ _ _ _ => Mi.ar1 (by intros; rfl) | exact fun _ _ _ _ _ _ => Mi.ar2 (by intros; rfl) | exact fun _ _ _ _ _ _ => Mi.ar3 (by intros; rfl) | exact fun _ _ _ _ _ _ => Mi.ar4 (by intros; rfl) | exact fun _ _ _ _ _ _ => Mi.ar5 (by intros; rfl)))
      exact k_Rules
      exact ⟨_, d_Rules_unwrap⟩
      iterate 3 (refine' Mi.JF KX G ?za ?zl ?zc ?zk ?zb; (case za => k_is); (case zl => k_is); (case zc => k_is); (case zk => k_is); (case zb => first | exact fun _ _ _ _ _ _ => Mi.ar0 (by intros; rfl) | exact fun _ _ _ _ _ _ => Mi.ar1 (by intros; rfl) | exact fun _ _ _ _ _ _ => Mi.ar2 (by intros; rfl) | exact fun _ _ _ _ _ _ => Mi.ar3 (by intros; rfl) | exact fun _ _ _ _ _ _ => Mi.ar4 (by intros; rfl) | exact fun _ _ _ _ _ _ => Mi.ar5 (by intros; rfl)))
      exact k_Rules
      exact ⟨_, d_Rules_end⟩
      iterate 1 (refine' Mi.JF KX G ?za ?zl ?zc ?zk ?zb; (case za => k_is); (case zl => k_is); (case zc => k_is); (case zk => k_is); (case zb => first | exact fun _ _ _ _ _ _ => Mi.ar0 (by intros; rfl) | exact fun _ _ _ _ _ _ => Mi.ar1 (by intros; rfl) | exact fun _ _ _ _ _ _ => Mi.ar2 (by intros; rfl) | exact fun _ _ _ _ _ _ => Mi.ar3 (by intros; rfl) | exact fun _ _ _ _ _ _ => Mi.ar4 (by intros; rfl) | exact fun _ _ _ _ _ _ => Mi.ar5 (by intros; rfl)))
      (refine' Mi.QbX KX G ?za ?zl ?zc ?zk ?zT ?zo ?zb ?z1; (case za => k_is); (case zl => k_is); (case zc => k_is); (case zk => k_is); (case zT => k_is); (case zo => rfl); (case zb => exact fun _ _ _ _ _ _ => Mi.QrI rfl fun _ _ _ => ⟨_, rfl, rfl⟩); (case z1 => exact fun _ _ _ _ _ _ => Mi.QqM rfl fun _ _ => ⟨_, rfl, rfl⟩))
      iterate 5 (refine' Mi.JF KX G ?za ?zl ?zc ?zk ?zb; (case za => k_is); (case zl => k_is); (case zc => k_is); (case zk => k_is); (case zb => first | exact fun _ _ _ _ _ _ => Mi.ar0 (by intros; rfl) | exact fun _ _ _ _ _ _ => Mi.ar1 (by intros; rfl) | exact fun _ _ _ _ _ _ => Mi.ar2 (by intros; rfl) | exact fun _ _ _ _ _ _ => Mi.ar3 (by intros; rfl) | exact fun _ _ _ _ _ _ => Mi.ar4 (by intros; rfl) | exact fun _ _ _ _ _ _ => Mi.ar5 (by intros; rfl)))
    case hO =>
      dsimp only [Mi.oks, My.Qdu, Mi.Fc.ok, Mi.Fc.okd]
      repeat' apply And.intro
      any_goals exact True.intro
      all_goals first | exact k_Growth.cl | exact k_Rules.cl | exact ⟨_, rfl, g_END⟩ | exact ⟨_, rfl, g_GIVING⟩ | assumption | (refine' PySem.W.mg_none_of KX G ?za; (case za => k_is))
    case dl =>
      refine' Mi.JF KX G ?za ?zl ?zc ?zk ?zb
      (case za => k_is); (case zl => k_is); (case zc => k_is); (case zk => k_is)
      (case zb => exact fun _ _ _ _ _ _ => Mi.ar1 (by intros; rfl))
