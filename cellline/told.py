"""What is told to the plant and to the guard."""


class Told:
    """Every told number but n, which is how many cells the line has. A tick only reads these."""

    def __init__(self):
        self.c = 0
        self.k = 0
        self.pn = 0
        self.pd = 1
        self.qn = 0
        self.qd = 1
        self.flow = 0
        self.lo = 0
        self.hi = 0
        self.tlo = 0
        self.thi = 0
        self.target = 0
        self.kp = 0
        self.ki = 0
        self.im = 0
        self.setpoint = 0
        self.band = 0
        self.power = 0
        self.inlet = 0
        self.d = 0
        self.td = 0
