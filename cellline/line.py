"""The plant as it is: chamber, cells, containers, gathered parts, heater, and where all fluid came from and went."""

from cellline.fluid import EMPTY_CONTAINER, NOTHING, drawn, left_in, less, portion, together, warmth, water

CONTAINER_A = 0
CONTAINER_B = 1
LAID_TEMPERATURE = 2000
LAID_CELL_VOLUME = 1000


class Line:
    """The plant's fluid and what moves it; it knows nothing of the guard."""

    def __init__(self):
        self.chamber = NOTHING
        self.cells = []
        self.containers = [EMPTY_CONTAINER, EMPTY_CONTAINER]
        self.gathered_a = 0
        self.gathered_b = 0
        self.heater = 0
        self.came_in = NOTHING
        self.dialysed = NOTHING
        self.drained = NOTHING
        self.thrown = NOTHING

    def twin(self):
        """A line that is as this one is, and can go its own way."""
        other = Line()
        other.chamber = self.chamber
        other.cells = list(self.cells)
        other.containers = list(self.containers)
        other.gathered_a = self.gathered_a
        other.gathered_b = self.gathered_b
        other.heater = self.heater
        other.came_in = self.came_in
        other.dialysed = self.dialysed
        other.drained = self.drained
        other.thrown = self.thrown
        return other

    def lay(self, n, volume):
        """Throw away what is there and fill the chamber and n cells anew."""
        for mix in [self.chamber] + self.cells:
            self.thrown = together(self.thrown, mix)
        self.chamber = water(volume, LAID_TEMPERATURE)
        self.cells = [water(LAID_CELL_VOLUME, LAID_TEMPERATURE) for i in range(n)]
        for mix in [self.chamber] + self.cells:
            self.came_in = together(self.came_in, mix)
        self.forget_gathered()
        self.heater = 0

    def forget_gathered(self):
        """Nothing is gathered of A nor of B from here on."""
        self.gathered_a = 0
        self.gathered_b = 0

    def hang(self, which, container):
        """Hang a new container and tell how much was left in the old one."""
        left = self.containers[which][0]
        self.containers[which] = container
        return left

    def strokes(self, told, trim):
        """Step 1: how much of A and of B is to be drawn."""
        flow = told.flow
        stroke_a = told.pd * 1000
        self.gathered_a += flow * told.pn * (1000 + trim)
        a = min(self.gathered_a // stroke_a, flow)
        self.gathered_a -= a * stroke_a
        self.gathered_b += flow * told.qn
        b = min(self.gathered_b // told.qd, flow - a)
        self.gathered_b -= b * told.qd
        return (a, b)

    def draw(self, which, wanted):
        """Step 2: what comes out of a container, which may hold less than is wanted."""
        container = self.containers[which]
        volume = min(wanted, container[0])
        self.containers[which] = left_in(container, volume)
        return drawn(container, volume)

    def take_in(self, told, trim):
        """Steps 1 to 3: water and concentrates come into the chamber."""
        wanted = self.strokes(told, trim)
        from_a = self.draw(CONTAINER_A, wanted[0])
        from_b = self.draw(CONTAINER_B, wanted[1])
        concentrates = together(from_a, from_b)
        fresh = together(water(told.flow - concentrates[0], told.inlet), concentrates)
        if self.heater == 1:
            fresh = together(fresh, warmth(told.power))
        self.came_in = together(self.came_in, fresh)
        self.chamber = together(self.chamber, fresh)

    def move_on(self, flow):
        """Steps 4 and 5: a portion becomes cell 0, all cells go on by one; the one that leaves is given back."""
        part = portion(self.chamber, flow)
        self.chamber = less(self.chamber, part)
        leaving = self.cells[-1]
        self.cells = [part] + self.cells[:-1]
        return leaving

    def lead(self, leaving, bypass):
        """Step 5: count a cell that left where the valve led it."""
        if bypass == 1:
            self.drained = together(self.drained, leaving)
        else:
            self.dialysed = together(self.dialysed, leaving)

    def steer_heater(self, told, reading):
        """Step 11: between the two ends of the band the heater stays as it was."""
        if reading < told.setpoint - told.band:
            self.heater = 1
        elif reading > told.setpoint + told.band:
            self.heater = 0
