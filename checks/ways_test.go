package checks

import (
	"go/ast"
	"go/parser"
	"go/token"
	"path/filepath"
	"slices"
	"strings"
	"testing"
)

// codeOf are the files of a package of the program, without its tests.
func codeOf(t *testing.T, folder string) []*ast.File {
	t.Helper()
	paths, err := filepath.Glob(filepath.Join("..", folder, "*.go"))
	if err != nil {
		t.Fatal(err)
	}
	var files []*ast.File
	for _, path := range paths {
		if strings.HasSuffix(path, "_test.go") {
			continue
		}
		file, err := parser.ParseFile(token.NewFileSet(), path, nil, 0)
		if err != nil {
			t.Fatal(err)
		}
		files = append(files, file)
	}
	return files
}

// typesOf are the types that these files declare.
func typesOf(files []*ast.File) map[string]bool {
	types := map[string]bool{}
	for _, file := range files {
		ast.Inspect(file, func(n ast.Node) bool {
			if s, ok := n.(*ast.TypeSpec); ok {
				types[s.Name.Name] = true
			}
			return true
		})
	}
	return types
}

// methodTables counts, of each function, the method expressions that stand in array literals of its own.
func methodTables(files []*ast.File) map[string]int {
	types := typesOf(files)
	counts := map[string]int{}
	count := func(function string, table ast.Node) {
		ast.Inspect(table, func(n ast.Node) bool {
			if s, ok := n.(*ast.SelectorExpr); ok {
				if x, ok := s.X.(*ast.Ident); ok && types[x.Name] {
					counts[function]++
				}
			}
			return true
		})
	}
	for _, file := range files {
		for _, d := range file.Decls {
			f, ok := d.(*ast.FuncDecl)
			if !ok || f.Body == nil {
				continue
			}
			ast.Inspect(f.Body, func(n ast.Node) bool {
				c, ok := n.(*ast.CompositeLit)
				if !ok {
					return true
				}
				if a, ok := c.Type.(*ast.ArrayType); ok && a.Len != nil {
					count(f.Name.Name, c)
				}
				return true
			})
		}
	}
	return counts
}

// Chapter 8, 'Ways': what each of the six operators of the past keeps stands in an array of method expressions, made within a function; the numbers that errors wrap are found by errors.As.
func TestWaysOfPast(t *testing.T) {
	files := codeOf(t, "past")
	most := 0
	for _, n := range methodTables(files) {
		most = max(most, n)
	}
	if most < 6 {
		t.Errorf("an array of %d method expressions at most", most)
	}
	asks := 0
	for _, file := range files {
		ast.Inspect(file, func(n ast.Node) bool {
			if s, ok := n.(*ast.SelectorExpr); ok && s.Sel.Name == "As" {
				if x, ok := s.X.(*ast.Ident); ok && x.Name == "errors" {
					asks++
				}
			}
			return true
		})
	}
	if asks == 0 {
		t.Error("errors.As is not asked")
	}
}

// structsOf are the struct types that these files declare.
func structsOf(files []*ast.File) map[string]bool {
	structs := map[string]bool{}
	for _, file := range files {
		ast.Inspect(file, func(n ast.Node) bool {
			if s, ok := n.(*ast.TypeSpec); ok {
				if _, ok := s.Type.(*ast.StructType); ok {
					structs[s.Name.Name] = true
				}
			}
			return true
		})
	}
	return structs
}

// callsItself tells whether a function's body calls it, a method that of its own receiver.
func callsItself(f *ast.FuncDecl) bool {
	found := false
	ast.Inspect(f.Body, func(n ast.Node) bool {
		c, ok := n.(*ast.CallExpr)
		if !ok {
			return true
		}
		switch x := c.Fun.(type) {
		case *ast.Ident:
			found = found || f.Recv == nil && x.Name == f.Name.Name
		case *ast.SelectorExpr:
			of, ok := x.X.(*ast.Ident)
			found = found || ok && f.Recv != nil && of.Name == f.Recv.List[0].Names[0].Name && x.Sel.Name == f.Name.Name
		}
		return true
	})
	return found
}

// Chapter 9, 'Ways': pairs stand in a map whose keys are structs; what fits is found by a function that calls itself; nodes are put in order by a closure.
func TestWaysOfTableau(t *testing.T) {
	files := codeOf(t, "tableau")
	structs := structsOf(files)
	var maps, recursions, sorts int
	for _, file := range files {
		ast.Inspect(file, func(n ast.Node) bool {
			switch x := n.(type) {
			case *ast.MapType:
				if key, ok := x.Key.(*ast.Ident); ok && structs[key.Name] {
					maps++
				}
			case *ast.FuncDecl:
				if callsItself(x) {
					recursions++
				}
			case *ast.CallExpr:
				s, ok := x.Fun.(*ast.SelectorExpr)
				if !ok || !strings.HasPrefix(s.Sel.Name, "Sort") || len(x.Args) != 2 {
					return true
				}
				if _, ok := x.Args[1].(*ast.FuncLit); ok {
					sorts++
				}
			}
			return true
		})
	}
	if maps == 0 || recursions == 0 || sorts == 0 {
		t.Errorf("%d maps with structs as keys, %d functions that call themselves, %d orders by closures", maps, recursions, sorts)
	}
}

// Chapter 10, 'Ways': pairs are numbered by a map whose keys are structs; Letters is a function to range over: a closure.
func TestWaysOfBuchi(t *testing.T) {
	files := codeOf(t, "buchi")
	structs := structsOf(files)
	var maps, closures int
	for _, file := range files {
		ast.Inspect(file, func(n ast.Node) bool {
			switch x := n.(type) {
			case *ast.MapType:
				if key, ok := x.Key.(*ast.Ident); ok && structs[key.Name] {
					maps++
				}
			case *ast.FuncDecl:
				if x.Name.Name == "Letters" && handsOutClosure(x) {
					closures++
				}
			}
			return true
		})
	}
	if maps == 0 || closures == 0 {
		t.Errorf("%d maps with structs as keys, %d closures that Letters hands out", maps, closures)
	}
}

// handsOutClosure tells whether a function returns a function literal of its own.
func handsOutClosure(f *ast.FuncDecl) bool {
	found := false
	ast.Inspect(f.Body, func(n ast.Node) bool {
		if r, ok := n.(*ast.ReturnStmt); ok && len(r.Results) == 1 {
			_, is := r.Results[0].(*ast.FuncLit)
			found = found || is
		}
		return true
	})
	return found
}

// callsOf are, of each function of these files, the names of those of its package that it calls or hands on.
func callsOf(files []*ast.File) map[string]map[string]bool {
	calls := map[string]map[string]bool{}
	for _, file := range files {
		for _, d := range file.Decls {
			if f, ok := d.(*ast.FuncDecl); ok {
				calls[f.Name.Name] = map[string]bool{}
			}
		}
	}
	for _, file := range files {
		for _, d := range file.Decls {
			f, ok := d.(*ast.FuncDecl)
			if !ok || f.Body == nil {
				continue
			}
			ast.Inspect(f.Body, func(n ast.Node) bool {
				if x, ok := n.(*ast.Ident); ok && calls[x.Name] != nil {
					calls[f.Name.Name][x.Name] = true
				}
				return true
			})
		}
	}
	return calls
}

// Chapter 11, its beginning and 'Ways': the package stands on api alone; nothing in it calls itself, not by way of others either; Breadth is a function to range over, and a closure.
func TestWaysOfGraph(t *testing.T) {
	files := codeOf(t, "graph")
	closures := 0
	for _, file := range files {
		for _, i := range file.Imports {
			if strings.HasPrefix(i.Path.Value, `"augur/`) && i.Path.Value != `"augur/api"` {
				t.Errorf("it imports %s", i.Path.Value)
			}
		}
		for _, d := range file.Decls {
			if f, ok := d.(*ast.FuncDecl); ok && f.Name.Name == "Breadth" && handsOutClosure(f) {
				closures++
			}
		}
	}
	if closures != 1 {
		t.Errorf("%d closures that Breadth hands out", closures)
	}
	calls := callsOf(files)
	for name := range calls {
		reached, wait := map[string]bool{}, []string{name}
		for len(wait) > 0 {
			for to := range calls[wait[0]] {
				if !reached[to] {
					reached[to] = true
					wait = append(wait, to)
				}
			}
			wait = wait[1:]
		}
		if reached[name] {
			t.Errorf("%s calls itself", name)
		}
	}
}

// Chapter 12, its beginning and 'Ways': the package stands on api, bits, words, buchi and graph; sets of bits are gone through by a range over a function; what is to be least is told by a closure that is handed in.
func TestWaysOfEmpty(t *testing.T) {
	var ranges, closures int
	for _, file := range codeOf(t, "empty") {
		for _, i := range file.Imports {
			below := []string{`"augur/api"`, `"augur/bits"`, `"augur/words"`, `"augur/buchi"`, `"augur/graph"`}
			if strings.HasPrefix(i.Path.Value, `"augur/`) && !slices.Contains(below, i.Path.Value) {
				t.Errorf("it imports %s", i.Path.Value)
			}
		}
		ast.Inspect(file, func(n ast.Node) bool {
			switch x := n.(type) {
			case *ast.RangeStmt:
				if c, ok := x.X.(*ast.CallExpr); ok && nameOf(c.Fun) == "All" {
					ranges++
				}
			case *ast.CallExpr:
				if nameOf(x.Fun) == "least" && len(x.Args) == 2 {
					if _, ok := x.Args[1].(*ast.FuncLit); ok {
						closures++
					}
				}
			}
			return true
		})
	}
	if ranges == 0 || closures == 0 {
		t.Errorf("%d ranges over sets, %d closures that tell what is least", ranges, closures)
	}
}

// Chapter 13, its beginning and 'Ways': the package stands on bits and buchi; subsets are numbered by a table of sets, and gone through by a labelled loop that is left as a whole; Run and Has take letters one by one.
func TestWaysOfDFA(t *testing.T) {
	var tables, loops, variadic int
	for _, file := range codeOf(t, "dfa") {
		for _, i := range file.Imports {
			below := []string{`"augur/api"`, `"augur/bits"`, `"augur/buchi"`}
			if strings.HasPrefix(i.Path.Value, `"augur/`) && !slices.Contains(below, i.Path.Value) {
				t.Errorf("it imports %s", i.Path.Value)
			}
		}
		ast.Inspect(file, func(n ast.Node) bool {
			switch x := n.(type) {
			case *ast.CallExpr:
				if nameOf(x.Fun) == "NewTable" {
					tables++
				}
			case *ast.LabeledStmt:
				if loop, ok := x.Stmt.(*ast.ForStmt); ok && leavesByLabel(loop, x.Label.Name) {
					loops++
				}
			case *ast.FuncDecl:
				if (x.Name.Name == "Run" || x.Name.Name == "Has") && takesOneByOne(x) {
					variadic++
				}
			}
			return true
		})
	}
	if tables == 0 || loops == 0 || variadic != 2 {
		t.Errorf("%d tables of sets, %d labelled loops, %d calls that take letters one by one", tables, loops, variadic)
	}
}

// Chapter 14, its beginning and 'Ways': the package stands on api, graph and dfa; pairs of states are numbered by a map whose key is a struct (a generic function's, to which a pair is handed); rows of parts are texts that are a map's keys; Run takes letters one by one.
func TestWaysOfMoore(t *testing.T) {
	files := codeOf(t, "moore")
	structs := structsOf(files)
	var pairs, texts, variadic int
	for _, file := range files {
		for _, i := range file.Imports {
			below := []string{`"augur/api"`, `"augur/graph"`, `"augur/dfa"`}
			if strings.HasPrefix(i.Path.Value, `"augur/`) && !slices.Contains(below, i.Path.Value) {
				t.Errorf("it imports %s", i.Path.Value)
			}
		}
		generic := numbersByMap(file)
		ast.Inspect(file, func(n ast.Node) bool {
			switch x := n.(type) {
			case *ast.MapType:
				if nameOf(x.Key) == "string" {
					texts++
				}
			case *ast.FuncDecl:
				if x.Name.Name == "Run" && takesOneByOne(x) {
					variadic++
				}
			}
			return true
		})
		for _, function := range generic {
			pairs += structsHandedTo(files, function, structs)
		}
	}
	if pairs == 0 || texts == 0 || variadic != 1 {
		t.Errorf("%d maps of pairs, %d maps by texts, %d calls that take letters one by one", pairs, texts, variadic)
	}
}

// numbersByMap are the generic functions of a file that make a map whose key is their own type parameter.
func numbersByMap(file *ast.File) []string {
	var names []string
	for _, d := range file.Decls {
		f, ok := d.(*ast.FuncDecl)
		if !ok || f.Type.TypeParams == nil {
			continue
		}
		key := f.Type.TypeParams.List[0].Names[0].Name
		ast.Inspect(f.Body, func(n ast.Node) bool {
			if m, ok := n.(*ast.MapType); ok && nameOf(m.Key) == key {
				names = append(names, f.Name.Name)
			}
			return true
		})
	}
	return names
}

// structsHandedTo counts the values of the package's own struct types that are written where a function is called.
func structsHandedTo(files []*ast.File, function string, structs map[string]bool) int {
	count := 0
	for _, file := range files {
		ast.Inspect(file, func(n ast.Node) bool {
			c, ok := n.(*ast.CallExpr)
			if !ok || nameOf(c.Fun) != function {
				return true
			}
			for _, arg := range c.Args {
				if value, ok := arg.(*ast.CompositeLit); ok && structs[nameOf(value.Type)] {
					count++
				}
			}
			return true
		})
	}
	return count
}

// Chapter 15, its beginning and 'Ways': the package stands on api, tree, words, moore and buchi; what is none is given up by panic, and recovered in a deferred function; lists are read by a generic function to which it is handed how a thing is read.
func TestWaysOfCodec(t *testing.T) {
	files := codeOf(t, "codec")
	var panics, recovers, deferred, lists int
	for _, file := range files {
		for _, i := range file.Imports {
			below := []string{`"augur/api"`, `"augur/tree"`, `"augur/words"`, `"augur/moore"`, `"augur/buchi"`}
			if strings.HasPrefix(i.Path.Value, `"augur/`) && !slices.Contains(below, i.Path.Value) {
				t.Errorf("it imports %s", i.Path.Value)
			}
		}
		ast.Inspect(file, func(n ast.Node) bool {
			switch x := n.(type) {
			case *ast.CallExpr:
				panics += countOf(nameOf(x.Fun) == "panic")
				recovers += countOf(nameOf(x.Fun) == "recover")
			case *ast.DeferStmt:
				if f, ok := x.Call.Fun.(*ast.FuncLit); ok {
					deferred += callsTo(f.Body, "recover")
				}
			}
			return true
		})
		for _, function := range genericWithFunction(file) {
			for _, other := range files {
				lists += callsTo(other, function)
			}
		}
	}
	if panics == 0 || recovers == 0 || deferred != recovers {
		t.Errorf("%d panics, %d recovers, %d of them in deferred functions", panics, recovers, deferred)
	}
	if lists < 8 {
		t.Errorf("generic functions that are handed a function are called %d times", lists)
	}
}

// Chapter 16, its beginning and 'Ways': the package stands on api, tree, syntax, nnf, tableau, buchi, empty, dfa and moore; a mutex is let go of in deferred calls alone; who waits does so at a channel that is closed; All's goroutines range over a channel that is closed, and a WaitGroup waits for them; texts come one by one.
func TestWaysOfSynth(t *testing.T) {
	var locks, unlocks, deferred, receives, ranges, closes, waits, variadic int
	for _, file := range codeOf(t, "synth") {
		for _, i := range file.Imports {
			below := []string{`"augur/api"`, `"augur/tree"`, `"augur/syntax"`, `"augur/nnf"`, `"augur/tableau"`, `"augur/buchi"`, `"augur/empty"`, `"augur/dfa"`, `"augur/moore"`}
			if strings.HasPrefix(i.Path.Value, `"augur/`) && !slices.Contains(below, i.Path.Value) {
				t.Errorf("it imports %s", i.Path.Value)
			}
		}
		locks += callsTo(file, "Lock")
		unlocks += callsTo(file, "Unlock")
		closes += callsTo(file, "close")
		ast.Inspect(file, func(n ast.Node) bool {
			switch x := n.(type) {
			case *ast.DeferStmt:
				deferred += countOf(nameOf(x.Call.Fun) == "Unlock")
			case *ast.UnaryExpr:
				receives += countOf(x.Op == token.ARROW)
			case *ast.FuncDecl:
				if x.Name.Name == "All" {
					variadic += countOf(takesOneByOne(x))
					waits += callsTo(x, "Wait")
					ranges += rangesInGoroutines(x)
				}
			}
			return true
		})
	}
	if locks == 0 || unlocks != locks || deferred != unlocks {
		t.Errorf("a mutex is locked at %d places, let go of at %d, at %d of them in a deferred call", locks, unlocks, deferred)
	}
	if receives == 0 || closes < 2 || ranges != 1 || waits != 1 || variadic != 1 {
		t.Errorf("%d places where one waits, %d where a channel is closed; of All %d ranges of goroutines, %d waits; texts one by one: %d", receives, closes, ranges, waits, variadic)
	}
}

// rangesInGoroutines counts the ranges of goroutines over what a function has made by make(chan ..).
func rangesInGoroutines(f *ast.FuncDecl) int {
	channels := map[string]bool{}
	count := 0
	ast.Inspect(f.Body, func(n ast.Node) bool {
		switch x := n.(type) {
		case *ast.AssignStmt:
			if c, ok := x.Rhs[0].(*ast.CallExpr); ok && nameOf(c.Fun) == "make" {
				_, is := c.Args[0].(*ast.ChanType)
				channels[nameOf(x.Lhs[0])] = is
			}
		case *ast.GoStmt:
			ast.Inspect(x.Call, func(n ast.Node) bool {
				if r, ok := n.(*ast.RangeStmt); ok {
					count += countOf(channels[nameOf(r.X)])
				}
				return true
			})
		}
		return true
	})
	return count
}

// Chapter 17, its beginning and 'Ways': the package stands on api and moore; what is final is found by a closure, and asked of what was found; names are found in a map by texts; All hands out a closure that ranges over the letters that it is handed; names and events come one by one.
func TestWaysOfRunner(t *testing.T) {
	var maps, closures, ranges, variadic int
	for _, file := range codeOf(t, "runner") {
		for _, i := range file.Imports {
			below := []string{`"augur/api"`, `"augur/moore"`}
			if strings.HasPrefix(i.Path.Value, `"augur/`) && !slices.Contains(below, i.Path.Value) {
				t.Errorf("it imports %s", i.Path.Value)
			}
		}
		ast.Inspect(file, func(n ast.Node) bool {
			switch x := n.(type) {
			case *ast.MapType:
				maps += countOf(nameOf(x.Key) == "string")
			case *ast.FuncDecl:
				closures += callsToOwnClosures(x)
				switch x.Name.Name {
				case "Letter", "Event", "Run":
					variadic += countOf(takesOneByOne(x))
				case "All":
					ranges += rangesOfClosure(x, "letters")
				case "Final":
					if callsWithin(x) > 0 {
						t.Error("Final calls something: it was to be found ahead of all steps")
					}
				}
			}
			return true
		})
	}
	if maps == 0 || closures < 2 || ranges != 1 || variadic != 3 {
		t.Errorf("%d maps by texts, closures are called at %d places, %d ranges over letters in what All hands out, %d calls that take things one by one", maps, closures, ranges, variadic)
	}
}

// Chapter 18, its beginning and 'Ways': the package stands on api, words, nnf, tableau, buchi, graph, empty, moore and synth; a way is looked for in a graph, with a goal that is a closure; Witness takes letters one by one; pairs of states stand in a map whose key is a struct of two numbers.
func TestWaysOfExplain(t *testing.T) {
	files := codeOf(t, "explain")
	structs := structsOf(files)
	var goals, maps, variadic int
	for _, file := range files {
		for _, i := range file.Imports {
			below := []string{`"augur/api"`, `"augur/words"`, `"augur/nnf"`, `"augur/tableau"`, `"augur/buchi"`, `"augur/graph"`, `"augur/empty"`, `"augur/moore"`, `"augur/synth"`}
			if strings.HasPrefix(i.Path.Value, `"augur/`) && !slices.Contains(below, i.Path.Value) {
				t.Errorf("it imports %s", i.Path.Value)
			}
		}
		ast.Inspect(file, func(n ast.Node) bool {
			switch x := n.(type) {
			case *ast.MapType:
				maps += countOf(structs[nameOf(x.Key)] && nameOf(x.Key) == "pair")
			case *ast.FuncDecl:
				goals += closuresHandedTo(x, "Way")
				variadic += countOf(x.Name.Name == "Witness" && takesOneByOne(x))
			}
			return true
		})
	}
	if goals == 0 || maps == 0 || variadic != 1 {
		t.Errorf("%d goals that are closures, %d maps of pairs, %d calls that take letters one by one", goals, maps, variadic)
	}
}

// Chapter 19, its beginning and 'Ways': the package stands on api, tree, words, nnf, tableau, buchi and empty; what is asked of one formula and of two is one function, to which each of the four calls comes with a closure that makes its tree; rows are tried by a closure that calls itself, and asked by another one; formulas come one by one.
func TestWaysOfSolve(t *testing.T) {
	files := codeOf(t, "solve")
	calls := callsOf(files)
	var tries, asks, variadic int
	for _, file := range files {
		for _, i := range file.Imports {
			below := []string{`"augur/api"`, `"augur/tree"`, `"augur/words"`, `"augur/nnf"`, `"augur/tableau"`, `"augur/buchi"`, `"augur/empty"`}
			if strings.HasPrefix(i.Path.Value, `"augur/`) && !slices.Contains(below, i.Path.Value) {
				t.Errorf("it imports %s", i.Path.Value)
			}
		}
		for _, d := range file.Decls {
			f, ok := d.(*ast.FuncDecl)
			if !ok {
				continue
			}
			tries += callsToOwnClosures(f)
			asks += countOf(f.Name.Name == "Core" && closuresHandedTo(f, "firstRow") == 1)
			variadic += countOf(takesOneByOne(f) && slices.Contains([]string{"Core", "ask", "refute"}, f.Name.Name))
		}
	}
	for name, by := range map[string]string{"Sat": "ask", "Valid": "refute", "Implies": "refute", "Same": "refute"} {
		if closures := closuresIn(files, name); !calls[name][by] || !calls["refute"]["ask"] || closures != 1 {
			t.Errorf("%s: %d closures; %v", name, closures, calls[name])
		}
	}
	if tries < 2 || asks != 1 || variadic != 3 {
		t.Errorf("%d calls of closures by which rows are tried, %d by which they are asked, %d calls that take formulas one by one", tries, asks, variadic)
	}
}

// closuresIn counts the closures that a function has.
func closuresIn(files []*ast.File, function string) int {
	count := 0
	for _, file := range files {
		for _, d := range file.Decls {
			if f, ok := d.(*ast.FuncDecl); ok && f.Name.Name == function {
				ast.Inspect(f.Body, func(n ast.Node) bool {
					_, is := n.(*ast.FuncLit)
					count += countOf(is)
					return true
				})
			}
		}
	}
	return count
}

// closuresHandedTo counts the closures, written there or ahead by a name, that one function hands to another one as its last argument.
func closuresHandedTo(f *ast.FuncDecl, function string) int {
	made := map[string]bool{}
	count := 0
	ast.Inspect(f.Body, func(n ast.Node) bool {
		switch x := n.(type) {
		case *ast.AssignStmt:
			for i, value := range x.Rhs {
				if _, is := value.(*ast.FuncLit); is {
					made[nameOf(x.Lhs[i])] = true
				}
			}
		case *ast.CallExpr:
			if nameOf(x.Fun) == function && len(x.Args) > 0 {
				last := x.Args[len(x.Args)-1]
				_, is := last.(*ast.FuncLit)
				count += countOf(is || made[nameOf(last)])
			}
		}
		return true
	})
	return count
}

// callsWithin counts all calls that stand in a function.
func callsWithin(f *ast.FuncDecl) int {
	count := 0
	ast.Inspect(f.Body, func(n ast.Node) bool {
		_, is := n.(*ast.CallExpr)
		count += countOf(is)
		return true
	})
	return count
}

// callsToOwnClosures counts the calls of a function's closures to which it gives names.
func callsToOwnClosures(f *ast.FuncDecl) int {
	count := 0
	ast.Inspect(f.Body, func(n ast.Node) bool {
		if x, ok := n.(*ast.AssignStmt); ok {
			for i, made := range x.Rhs {
				if _, is := made.(*ast.FuncLit); is {
					count += callsTo(f.Body, nameOf(x.Lhs[i]))
				}
			}
		}
		return true
	})
	return count
}

// rangesOfClosure counts the ranges over that name in closures that a function returns.
func rangesOfClosure(f *ast.FuncDecl, name string) int {
	count := 0
	ast.Inspect(f.Body, func(n ast.Node) bool {
		r, ok := n.(*ast.ReturnStmt)
		if !ok || len(r.Results) != 1 {
			return true
		}
		if made, ok := r.Results[0].(*ast.FuncLit); ok {
			ast.Inspect(made.Body, func(n ast.Node) bool {
				if over, ok := n.(*ast.RangeStmt); ok {
					count += countOf(nameOf(over.X) == name)
				}
				return true
			})
		}
		return true
	})
	return count
}

func countOf(is bool) int {
	if is {
		return 1
	}
	return 0
}

// callsTo counts the calls of a function that stand within something.
func callsTo(within ast.Node, function string) int {
	count := 0
	ast.Inspect(within, func(n ast.Node) bool {
		if c, ok := n.(*ast.CallExpr); ok {
			count += countOf(nameOf(c.Fun) == function)
		}
		return true
	})
	return count
}

// genericWithFunction are the generic functions of a file to which a function is handed.
func genericWithFunction(file *ast.File) []string {
	var names []string
	for _, d := range file.Decls {
		f, ok := d.(*ast.FuncDecl)
		if !ok || f.Type.TypeParams == nil {
			continue
		}
		isFunction := func(p *ast.Field) bool {
			_, is := p.Type.(*ast.FuncType)
			return is
		}
		if slices.ContainsFunc(f.Type.Params.List, isFunction) {
			names = append(names, f.Name.Name)
		}
	}
	return names
}

// leavesByLabel tells whether a loop is left, or gone on with, by that label.
func leavesByLabel(loop *ast.ForStmt, label string) bool {
	found := false
	ast.Inspect(loop, func(n ast.Node) bool {
		if b, ok := n.(*ast.BranchStmt); ok && b.Label != nil && b.Label.Name == label {
			found = true
		}
		return true
	})
	return found
}

// takesOneByOne tells whether a function is variadic.
func takesOneByOne(f *ast.FuncDecl) bool {
	list := f.Type.Params.List
	_, is := list[len(list)-1].Type.(*ast.Ellipsis)
	return is
}

// nameOf is the name of what is called, be it a function or a method.
func nameOf(called ast.Expr) string {
	switch x := called.(type) {
	case *ast.Ident:
		return x.Name
	case *ast.SelectorExpr:
		return x.Sel.Name
	}
	return ""
}
