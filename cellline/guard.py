"""The guard: it sees the readings alone, decides about the valve, and trims A."""

from cellline.fluid import conductivity, temperature

MODE_TRUE = 0
MODE_STUCK = 1
CHANNELS = 4
UNLIKE_MOST = 2
TRIM_MOST = 300
FOR_CONDUCTIVITY = 0
FOR_TEMPERATURE = 1


def bounded(x, low, high):
    """x, but never below low nor above high."""
    return max(low, min(x, high))


def reading_of(channel, there):
    """What a channel (mode, v) reads where `there` is the truth."""
    if channel[0] == MODE_TRUE:
        return there
    if channel[0] == MODE_STUCK:
        return channel[1]
    return there + channel[1]


def is_good(told, readings):
    """Step 6: whether all four readings lie within their limits."""
    for x in readings[:2]:
        if x < told.lo or x > told.hi:
            return False
    for x in readings[2:]:
        if x < told.tlo or x > told.thi:
            return False
    return True


class Guard:
    """What the guard remembers. On and up are 1, off and down are 0, as they are answered."""

    def __init__(self):
        self.channels = [(MODE_TRUE, 0) for i in range(CHANNELS)]
        self.held = 0
        self.good = 0
        self.bypass = 1
        self.unlike = [0, 0]
        self.latches = [0, 0]
        self.error_sum = 0
        self.trim = 0

    def twin(self):
        """A guard that is as this one is, and can go its own way."""
        other = Guard()
        other.channels = list(self.channels)
        other.held = self.held
        other.good = self.good
        other.bypass = self.bypass
        other.unlike = list(self.unlike)
        other.latches = list(self.latches)
        other.error_sum = self.error_sum
        other.trim = self.trim
        return other

    def begin_line(self):
        """A new line is laid: only the channels and the hand's hold outlast it."""
        self.forget_good()
        self.lower_latches()
        self.forget_trim()

    def forget_good(self):
        """No good readings so far, so the fluid is passed by."""
        self.good = 0
        self.bypass = 1

    def lower_latches(self):
        """Both latches go down, and nothing was unlike so far."""
        self.unlike = [0, 0]
        self.latches = [0, 0]

    def forget_trim(self):
        """The controller begins anew."""
        self.error_sum = 0
        self.trim = 0

    def readings(self, cell):
        """Step 6: what the four channels read."""
        there = (conductivity(cell), conductivity(cell), temperature(cell), temperature(cell))
        return [reading_of(channel, x) for channel, x in zip(self.channels, there)]

    def watch(self, told, readings):
        """Steps 6 to 10, once the channels have read."""
        good_reading = is_good(told, readings)
        self.compare(FOR_CONDUCTIVITY, abs(readings[0] - readings[1]), told.d)
        self.compare(FOR_TEMPERATURE, abs(readings[2] - readings[3]), told.td)
        self.count_good(good_reading, told.k)
        self.decide(good_reading, told.k)
        self.control(told, readings[0])

    def compare(self, which, distance, allowed):
        """Step 7, for conductivity or for temperature. Only check and lay lower a latch."""
        if distance > allowed:
            self.unlike[which] = min(self.unlike[which] + 1, UNLIKE_MOST)
        else:
            self.unlike[which] = 0
        if self.unlike[which] == UNLIKE_MOST:
            self.latches[which] = 1

    def count_good(self, good_reading, k):
        """Step 8."""
        if good_reading:
            self.good = min(self.good + 1, k)
        else:
            self.good = 0

    def decide(self, good_reading, k):
        """Step 9: about the valve."""
        if not good_reading or 1 in self.latches:
            self.bypass = 1
        elif self.good == k and self.held == 0:
            self.bypass = 0

    def control(self, told, reading):
        """Step 10: // rounds towards lesser numbers, below 0 too."""
        error = told.target - reading
        self.error_sum = bounded(self.error_sum + error, -told.im, told.im)
        self.trim = bounded((told.kp * error + told.ki * self.error_sum) // 1000, -TRIM_MOST, TRIM_MOST)

    def not_true(self):
        """1, 2, 4 and 8, together, for the channels that aren't true."""
        found = 0
        weight = 1
        for channel in self.channels:
            if channel[0] != MODE_TRUE:
                found += weight
            weight *= 2
        return found
