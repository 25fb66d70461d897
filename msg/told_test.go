package msg_test

import "fmt"

// short: the bytes, or the first of them and how many there are.
func short(b string) string {
	if len(b) <= 40 {
		return fmt.Sprintf("%x", b)
	}
	return fmt.Sprintf("%x.. (%d bytes)", b[:20], len(b))
}

// told: the messages, as a failing test tells them.
func told(messages [][]byte) string {
	all := fmt.Sprintf("%d messages:", len(messages))
	for _, m := range messages[:min(len(messages), 20)] {
		all += " [" + short(string(m)) + "]"
	}
	return all
}
