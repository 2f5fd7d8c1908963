package script_test

import (
	"strings"
	"testing"

	"braid/api"
	"braid/fixture"
	"braid/lang"
	"braid/machine"
)

// program is a text whose program, of these lines, begins at line 5.
func program(lines string) string { return head + "thread\nprogram\n" + lines + "end\npicks\n" }

// P19.2: the lines of a program are a text for lang.Parse, just as they stand.
func TestPrograms(t *testing.T) {
	for _, lines := range []string{
		"", "\n", "\n\n\n", "# nothing\n", adds, "  get r1 @0 # x\n\n\t\n# end\n  done r1\n",
		"end: goto end\n", "goto end\nend:\n", "x: y:\nquit\n", "ends: quit\n", times(64, "quit\n") + "x:\n",
		"let r1 5#end\n", "#end\nlet r1 5\n", "picks: thread: objects: goto picks\n",
	} {
		code := fixture.Program(t, lines)
		says(t, program(lines), plainHead([]machine.Job{{Program: code}}))
		twice := head + "thread\nprogram\n" + lines + "end\nleast\nthread\nprogram # x\n" + lines + " \tend # y\npicks\n"
		says(t, twice, plainHead([]machine.Job{{Program: code}, {Kind: api.JobLeast}}, []machine.Job{{Program: code}}))
	}
}

// P19.2: the first line whose only word is end is the program's end, however that word stands there.
func TestEndLines(t *testing.T) {
	code := fixture.Program(t, adds)
	for _, end := range []string{"end", " end", "\tend\t", "end#", "end # x", "  end  # end", "end#end"} {
		says(t, head+"thread\nprogram\n"+adds+end+"\npicks\n", plainHead([]machine.Job{{Program: code}}))
		faulty(t, head+"thread\nprogram\n"+adds+end+"\n"+end, 11, api.ErrLine) // and a second one is out of its place
		faulty(t, head+"thread\nprogram\n"+adds+end, 10, api.ErrLine)          // the picks have not come
	}
	for _, line := range []string{"end x", "end end", "End", "END", "ends", "end\r", "end.", "-end", "x end"} {
		faulty(t, head+"thread\nprogram\n"+adds+line+"\nend\npicks\n", 10, api.ErrWord)
		faulty(t, head+"thread\nprogram\n"+adds+line+"\npicks\n", 12, api.ErrLine)
	}
	faulty(t, head+"thread\nprogram\nend: end\nend\npicks", 6, api.ErrWord)
}

// P19.3: a program without its end, ahead of what is wrong in it, at the text's last line.
func TestProgramsWithoutEnd(t *testing.T) {
	ahead := head + "thread\nprogram"
	faulty(t, ahead, 5, api.ErrLine)
	faulty(t, ahead+"\n", 6, api.ErrLine)
	faulty(t, ahead+"\n\n\n", 8, api.ErrLine)
	faulty(t, ahead+"\n"+adds, 10, api.ErrLine)
	faulty(t, ahead+"\nget r16\nstop\npicks", 8, api.ErrLine)
	faulty(t, ahead+"\n#end\npicks\n", 8, api.ErrLine)
	faulty(t, ahead+"\n"+times(5000, "x")+"\n", 7, api.ErrLine)
	faulty(t, ahead+"\nprogram\nend\npicks\n", 6, api.ErrWord) // the second one is a line of the first
	faulty(t, head+"thread\nprogram\nend\nprogram\nquit", 8, api.ErrLine)
	faulty(t, head+"thread\nprogram x\nget r16", 5, api.ErrExtra)
	faulty(t, head+"thread\nprogram x", 5, api.ErrExtra)
}

// P19.3: each fault of lang.Parse, with its error, at its line in the script.
func TestFaultsOfPrograms(t *testing.T) {
	for _, c := range []struct {
		lines string
		line  int
		why   api.Errno
	}{
		{"stop\n", 1, api.ErrWord},
		{"quit\n\n# x\nX: quit\n", 4, api.ErrWord},
		{"get r1\n", 1, api.ErrMissing},
		{"\nget r1 # @0\n", 2, api.ErrMissing},
		{"quit\nget r16 @0\n", 2, api.ErrOperand},
		{"\n\n\nput @0 9223372036854775808\n", 4, api.ErrOperand},
		{"quit x\n", 1, api.ErrExtra},
		{"x: quit\nquit\nx: quit\n", 3, api.ErrTwice},
		{times(64, "quit\n") + "\nquit\n", 66, api.ErrMany},
		{"quit\ngoto a\nquit\ngoto b\n", 2, api.ErrLabel},
		{"goto a\nstop\n", 2, api.ErrWord},
		{"quit\r\n", 1, api.ErrWord},
		{"insert 5\n", 1, api.ErrWord},
		{"picks\n", 1, api.ErrWord},
		{"# x\n" + times(4093, " ") + "\n", 0, api.ErrLong},
	} {
		if _, f := lang.Parse(c.lines); f.Err != c.why || f.Line != c.line {
			t.Fatalf("%.60q: %+v", c.lines, f)
		}
		faulty(t, program(c.lines), 5+c.line, c.why)
		faulty(t, "\n\n"+program(c.lines), 7+c.line, c.why)
		faulty(t, head+"thread\nprogram\n"+adds+"end\nthread\nsize\n\nprogram\n"+c.lines+"end\npicks x", 14+c.line, c.why)
	}
}

// P19.2: lang's limit counts all of a program's text, comments and the byte 10 of each line.
func TestLongPrograms(t *testing.T) {
	for _, c := range []struct{ ahead, behind string }{
		{"", ""}, {"quit\n", ""}, {"", "quit\n"}, {"# x\n\n", "\n\n"}, {times(60, "quit\n"), times(4, "quit\n")},
	} {
		free := lang.MaxText - len(c.ahead) - len(c.behind) - len("#\n")
		lines := c.ahead + "#" + times(free, "x") + "\n" + c.behind
		says(t, program(lines), plainHead([]machine.Job{{Program: fixture.Program(t, lines)}}))
		lines = c.ahead + "#" + times(free+1, "x") + "\n" + c.behind
		faulty(t, program(lines), 5, api.ErrLong)
		faulty(t, program("stop\n"+lines), 5, api.ErrLong)
	}
	says(t, program(times(lang.MaxText, "\n")), plainHead([]machine.Job{{}}))
	faulty(t, program(times(lang.MaxText+1, "\n")), 5, api.ErrLong)
	// the end line itself does not count, nor what stands behind the word program
	long := times(lang.MaxText, "y")
	says(t, head+"thread\nprogram #"+long+"\n"+times(lang.MaxText, "\n")+"end #"+long+"\npicks\n", plainHead([]machine.Job{{}}))
}

// As many programs as may be, each as long as may be with a label at each place, fit into a text of MaxScript bytes or
// do not: what Print tells is read, or is too long.
func TestManyPrograms(t *testing.T) {
	var jobs []machine.Job
	long := fixture.Program(t, times(63, "if r10 != -9223372036854775808 e\n")+"e: done r10")
	for range api.MaxJobs {
		jobs = append(jobs, machine.Job{Program: long})
	}
	s := plainHead(jobs)
	text := printed(t, s)
	says(t, text, s)
	if strings.Count(text, "\n") != 3+1+8*67+1 {
		t.Errorf("%d lines", strings.Count(text, "\n"))
	}
	s = plainHead(jobs, jobs, jobs, jobs, jobs, jobs)
	if text = printed(t, s); len(text) <= api.MaxScript {
		t.Fatalf("%d bytes", len(text))
	}
	faulty(t, text, 0, api.ErrLong)
}
