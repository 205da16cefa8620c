package flow

import (
	"fmt"
	"slices"
	"strings"
	"testing"

	"timekeeper/api"
)

// checkPrinted asks for the text of f.
func checkPrinted(t *testing.T, f api.Flow, want string) {
	t.Helper()
	if s, e := Print(f); s != want || e != api.OK {
		t.Errorf("Print(%s) = %s, %d; asked for: %s", short(f), short(s), e, short(want))
	}
	checkPrint(t, f)
}

func TestPrintExamples(t *testing.T) {
	checkPrinted(t, example(), exampleText)
	checkPrinted(t, parsed(t, "workflow w\nJOB b\njob a\nparent b child a"), exampleText)
	checkPrinted(t, wide(), lines("WORKFLOW w", "JOB a", "NODES a 2", "WALLTIME a 3", "JOB b", "NODES b 2", "WALLTIME b 5", "JOB c", "WALLTIME c 2", "PARENT a b CHILD c"))
	checkPrinted(t, urgent(), lines("WORKFLOW one", "DEADLINE 9", "JOB t", "NODES t 2", "WALLTIME t 5"))
	checkPrinted(t, flowOf(), "WORKFLOW w\n")
}

func TestPrintOfEachField(t *testing.T) {
	f := api.Flow{Name: "w", Deadline: 1, Priority: 2, Tasks: []api.Task{
		{Name: "a", Nodes: 3, Wall: 4, Retry: 5, Done: true, After: []int{1, 2}},
		{Name: "b", Nodes: 1, Wall: 1, After: []int{2}},
		{Name: "c", Nodes: 1, Wall: 1, Done: true},
	}}
	checkPrinted(t, f, lines("WORKFLOW w", "DEADLINE 1", "PRIORITY 2", "JOB a", "NODES a 3", "WALLTIME a 4", "RETRY a 5", "DONE a", "JOB b", "JOB c", "DONE c",
		"PARENT b c CHILD a", "PARENT c CHILD b"))
	x, y := longName('w'), longName('ß')
	z := longName('𝔸')
	all := func(name string) []string {
		return []string{"JOB " + name, "NODES " + name + " 10000", "WALLTIME " + name + " 1099511627775", "RETRY " + name + " 20", "DONE " + name}
	}
	checkPrinted(t, full(), lines(slices.Concat([]string{"WORKFLOW " + x, "DEADLINE 1099511627775", "PRIORITY 1000"}, all(y), all(z), all("é1"), all("PARENT"), all("job"),
		[]string{"PARENT " + y + " PARENT CHILD " + z, "PARENT " + z + " PARENT job CHILD é1", "PARENT " + y + " PARENT CHILD job"})...))
}

// A number is printed exactly if it is not the one that is meant without a line.
func TestPrintOfNumbers(t *testing.T) {
	for _, x := range numbers() {
		for _, n := range []int{x.least, x.least + 1, 2, 10, x.most - 1, x.most} {
			f := flowOf(task("a"), task("b"))
			x.set(&f, n)
			line := fmt.Sprintf("%s %d\n", x.line, n)
			s, e := Print(f)
			if e != api.OK || strings.Contains(s, line) != (n != x.least) || strings.Contains(s, strings.Fields(x.line)[0]) != (n != x.least) {
				t.Errorf("%s: %q, %d", line, s, e)
			}
			checkPrint(t, f)
			checkText(t, "WORKFLOW w\nJOB a\nJOB b\n"+line, f)
		}
	}
}

func TestPrintOfAllowed(t *testing.T) {
	for _, f := range allowed() {
		checkPrint(t, f)
	}
}

// Workflows that differ have texts that differ.
func TestPrintedTextsDiffer(t *testing.T) {
	var all []api.Flow
	for _, deadline := range []int{0, 1} {
		for _, priority := range []int{0, 1} {
			for _, nodes := range []int{1, 2} {
				for _, wall := range []int{1, 2} {
					for _, retry := range []int{0, 1} {
						for _, after := range [][]int{nil, {1}, {2}, {1, 2}} {
							f := flowOf(task("a", after...), task("b", after[:0]...), task("c"))
							f.Deadline, f.Priority = deadline, priority
							f.Tasks[0].Nodes, f.Tasks[1].Wall, f.Tasks[2].Retry, f.Tasks[1].Done = nodes, wall, retry, nodes == wall
							all = append(all, f)
						}
					}
				}
			}
		}
	}
	seen := map[string]api.Flow{}
	for _, f := range append(all, allowed()...) {
		checkPrint(t, f)
		s, _ := Print(f)
		if g, ok := seen[s]; ok && !wantSame(f, g) {
			t.Errorf("%s and %s have the text %q", short(f), short(g), s)
		}
		seen[s] = f
	}
}

// Texts of one workflow have one printed text, which is printed as itself.
func TestTextsOfOneWorkflow(t *testing.T) {
	for _, s := range []string{
		exampleText,
		"workflow w\nJOB b\njob a\nparent b child a",
		"WORKFLOW w\nDEADLINE 0\nPRIORITY 0\nJOB b\nNODES b 1\nJOB a\nWALLTIME a 1\nRETRY a 0\nPARENT b b CHILD a\nPARENT b CHILD a a\n",
		"\tWorkflow  w # x\n\nJob b\nRetry b 0\nJob a # y\nParent b Child a\nPriority 0\nNodes a 1",
	} {
		checkPrinted(t, parsed(t, s), exampleText)
	}
}
