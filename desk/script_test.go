package desk_test

import (
	"strconv"
	"strings"
	"testing"

	"shotdesk/api"
	"shotdesk/circuit"
	"shotdesk/desk"
	"shotdesk/plan"
)

// namedText is the text of the plan p that named gives, as a block of a script.
const namedText = "plan p by ann\nticks 3\ncurrent 0:0 1:64\ncoil a 0:0 2:150\nsafety 1000000 1000000000000000\npurse 1000000000000000\n"

const fileBlock = "file\n" + namedText + ".\n"

// prints checks what a script for the tiny machine prints.
func prints(t *testing.T, script, want string) {
	t.Helper()
	if got, e := desk.Script(tiny(), idle(tiny()), script); e != api.OK || got != want {
		t.Errorf("Script of %q = %q, %d, not %q", script[:min(len(script), 300)], got[:min(len(got), 300)], e, want[:min(len(want), 300)])
	}
}

func digest(s api.State) string { return strconv.FormatUint(circuit.Digest(s), 10) + "\n" }

// 10.7
func TestScript(t *testing.T) {
	p := named("p")
	same(t, "Format", plan.Format(tiny(), p), namedText)
	b := begun(t, tiny())
	scene := api.Scene{Seed: 4, Pushes: []api.Push{{At: 1, Change: -7}}}
	first := fly(t, tiny(), idle(tiny()), scene, p, b)
	rested, _ := plan.Rested(tiny(), first.End, 20)
	second := fly(t, tiny(), idle(tiny()), api.Scene{}, p, rested)
	prints(t, "state\nshots\ntext\n"+fileBlock+"turn bob p\nturn ann p\nshots\nfire p\nseed 4\npush 1 a -7\n.\nshots\ntext\nstate\nrest 20\nstate\nturn eve p\nturn bob p\nfire p\nseed 0\n.\ntext\nshots\nstate\nvoid p\ntext\n",
		digest(b)+"0\nok\nok\nok\n0\nok\n1\n"+desk.Text(first)+digest(first.End)+"ok\n"+digest(rested)+"ok\nok\nok\n"+desk.Text(second)+"2\n"+digest(second.End)+"ok\n"+desk.Text(second))
	same(t, "Text", desk.Text(second), "0 run unknown 8\n1 run known 8 0..0 0..0\n2 run known 8 0..0 0..0\n")
}

// 10.7: the desk of a script is that of the same commands
func TestScriptOfADesk(t *testing.T) {
	d := worked(t)
	q := strings.Replace(strings.Replace(demoText, "demo", "q", 1), "ticks 12", "ticks 5", 1)
	script := "file\n" + demoText + ".\nturn ann demo\nturn bob demo\nfire demo\n" + stormyText + ".\nrest 50\nfile\n" + q + ".\nturn bob q\nturn eve q\nfire q\nseed 1\n.\nvoid demo\nturn ann q\nstate\n"
	got, e := desk.Script(toy(), keen(), script)
	does(t, "Script", e)
	same(t, "Script", got, strings.Repeat("ok\n", 11)+digest(d.State()))
}

// 10.7: lines of no form
func TestScriptForms(t *testing.T) {
	prints(t, "", "")
	prints(t, "\n\n\n", "")
	for _, line := range []string{
		" ", ".", "..", " .", "x", "state ", " state", "state x", "State", "states", "shots ", "shots 1", "text ", "text p", "file ", "file p", " file", "fire", "fire ", "fire p ", "fire  p", "fire p q", " fire p", "turn", "turn ann", "turn ann ", "turn ann p ", "turn ann p 5", "turn  ann p", "turn ann  p", "turn  p",
		"rest", "rest ", "rest  1", "rest 1 ", "rest 1 1", "rest x", "rest 01", "rest +1", "rest -0", "rest 00", "rest 1.0", "rest 1000000000000001", "rest -1000000000000001", "rest 99999999999999999999", "rest 0x1", "rest 1_0", "rest 1\r", "rest\t1", "rest -", "void", "void ", "void p ", "void  p", "void p q", "VOID p", "new", "plan p by ann", "seed 0", "error 15", "ok",
	} {
		prints(t, line, "error 15\n")
		prints(t, line+"\n", "error 15\n")
		prints(t, line+"\nshots\n\n"+line+"\n", "error 15\n0\nerror 15\n")
	}
	prints(t, "\nshots\n\n\nshots\n\n", "0\n0\n")
	prints(t, "shots", "0\n")
	prints(t, "shots\nrest 0", "0\nok\n")
	prints(t, "file p\nticks 3\n.\n", "error 15\nerror 15\nerror 15\n")
}

// 10.7: what fails prints its error
func TestScriptErrors(t *testing.T) {
	prints(t, "rest -1\nrest 1000000001\nrest 1000000000\nrest 1\nrest 0\n", "error 7\nerror 7\nok\nerror 7\nok\n")
	prints(t, "rest 1000000000000000\nrest -1000000000000000\n", "error 7\nerror 7\n")
	prints(t, "void p\nvoid P\n"+fileBlock+"void q\nvoid p\nvoid p\n", "error 8\nerror 8\nok\nerror 8\nok\nerror 8\n")
	prints(t, "turn ann p\nturn Ann p\n"+fileBlock+"turn Ann p\nturn ann q\nturn Ann q\nturn ann p\nturn ann p\nturn bob p\n", "error 8\nerror 5\nok\nerror 5\nerror 8\nerror 5\nok\nerror 6\nok\n")
	fire := "fire p\nseed 0\n.\n"
	prints(t, fire+fileBlock+fire+"turn ann p\n"+fire+"turn bob p\n"+fire+fire, "error 8\nok\nerror 13\nok\nerror 13\nok\nok\nerror 13\n")
	prints(t, fileBlock+"turn ann p\nturn bob p\nfire q\nseed 0\n.\nfire P\nseed 0\n.\nfire p\nseed 00\n.\nfire p\n.\nfire p\nseed 0\npush 0 b 1\n.\nshots\nfire p\nseed 0\n.\nshots\n", "ok\nok\nok\nerror 8\nerror 8\nerror 2\nerror 2\nerror 2\n0\nok\n1\n")
	change := func(old, new string) string { return strings.Replace(fileBlock, old, new, 1) }
	prints(t, change("ticks 3", "ticks 03")+change("ticks 3", "ticks 401")+change("coil a", "coil b")+change("by ann", "by Ann")+change("0:0 1:64", "0:0 1:-64")+"file\n.\nvoid p\n", "error 2\nerror 7\nerror 5\nerror 1\nerror 7\nerror 2\nerror 8\n")
	m, _ := hot()
	got, e := desk.Script(m, idle(m), strings.Replace(fileBlock, "0:0 2:150", "0:0 2:200 3:100", 1)+"turn ann p\nturn bob p\n"+fire+"turn ann p\nturn bob p\n"+fire+"rest 1000\n"+fire)
	does(t, "Script", e)
	same(t, "a shot that must wait", got, "ok\nok\nok\nok\nok\nok\nerror 12\nok\nok\n")
}

// Details: blocks
func TestScriptBlocks(t *testing.T) {
	// a block goes to its point, or to the end of the script
	prints(t, "file\n"+namedText, "ok\n")
	prints(t, "file\n"+strings.TrimSuffix(namedText, "\n"), "ok\n")
	prints(t, "file\n"+namedText+".", "ok\n")
	prints(t, "file", "error 2\n")
	prints(t, "file\n", "error 2\n")
	prints(t, "file\n"+namedText+"shots\n", "error 2\n")
	prints(t, "file\n"+namedText+"..\nshots\n.\nshots\n", "error 2\n0\n")
	prints(t, "file\n"+namedText+" .\nshots\n.\nshots\n", "error 2\n0\n")
	prints(t, "file\n"+namedText+"\n.\nshots\n", "error 2\n0\n")
	prints(t, "file\n\n"+namedText+".\nshots\n", "error 2\n0\n")
	prints(t, fileBlock+".\n", "ok\nerror 15\n")
	prints(t, fileBlock+"turn ann p\nturn bob p\nfire p\nseed 7", "ok\nok\nok\nok\n")
	prints(t, fileBlock+"turn ann p\nturn bob p\nfire p\nseed 7\nshots\n", "ok\nok\nok\nerror 2\n")
	prints(t, fileBlock+"turn ann p\nturn bob p\nfire p\nvoid p\n.\nvoid p\n", "ok\nok\nok\nerror 2\nok\n")
	prints(t, fileBlock+"fire q\nseed 0\n.\nvoid p\n", "ok\nerror 8\nok\n")
	// what stands in a block is no command
	prints(t, "file\nrest 5\nshots\n.\nshots\n", "error 2\n0\n")
	prints(t, fileBlock+"turn ann p\nturn bob p\nfire p\n\n.\n\nshots\n", "ok\nok\nok\nerror 2\n0\n")
}

// 10.7: text is that of the last shot that was fired
func TestScriptText(t *testing.T) {
	begin := fileBlock + "turn ann p\nturn bob p\nfire p\nseed 0\n.\n"
	h := fly(t, tiny(), idle(tiny()), api.Scene{}, named("p"), begun(t, tiny()))
	prints(t, fileBlock+"text\nfire p\nseed 0\n.\ntext\n", "ok\nerror 13\n")
	prints(t, begin+"text\ntext\n", "ok\nok\nok\nok\n"+desk.Text(h)+desk.Text(h))
	prints(t, begin+"fire p\nseed 0\n.\ntext\nshots\n", "ok\nok\nok\nok\nerror 13\n"+desk.Text(h)+"1\n")
	prints(t, begin+"void p\nrest 5\ntext\n", "ok\nok\nok\nok\nok\nok\n"+desk.Text(h))
}

// 10.7
func TestScriptOfNoDesk(t *testing.T) {
	long := strings.Repeat("\n", api.MaxText+1)
	for _, script := range []string{"", "shots\n", long} {
		for _, m := range brokenMachines() {
			fails[string](t, "Script without a machine", api.ErrInvalid)(desk.Script(m, keen(), script))
		}
		fails[string](t, "Script without a setup", api.ErrInvalid)(desk.Script(tiny(), api.Setup{}, script))
	}
	fails[string](t, "Script of a long text", api.ErrLong)(desk.Script(tiny(), idle(tiny()), long))
	prints(t, long[1:], "")
	prints(t, strings.Repeat("shots\n", api.MaxText/6), strings.Repeat("0\n", api.MaxText/6))
	// a book has no room for more
	prints(t, strings.Repeat("rest 0\n", 2001)+"rest -1\nvoid p\nturn A p\nshots\nrest x\n", strings.Repeat("ok\n", 2000)+"error 4\nerror 4\nerror 4\nerror 4\n0\nerror 15\n")
}
